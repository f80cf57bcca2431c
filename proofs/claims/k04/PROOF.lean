import PyProof.Rows.All
import Wide.All
import OpenK.AllK
import Wide.FinOn
import HandS.Walk
import HandS.Exc
import HandS.ExcOwn
import HandS.ExcIs
import HandS.ExcInit
import HandS.ExcValue
import HandS.WordsExc
import HandS.ForMost
import KE.DataCmp
import KE.SortData
import HandS.TupAny
import HandS.TupMul
import HandS.IsInst
import KE.DataEq
import PyProof.Rows.RuleB_pow
import PyProof.FactsAll.dict
import PyProof.FactsAll.subtypes
import PyProof.ReprRoads
import KE.KDictItemsList
import KE.KDictZip
import HandS.Zip
import PyProof.Rows.IntBool
import PyProof.NeKinds
import HandS.More
import HandS.Sort
import KE.DataFind
import PyProof.SeqIndex
import HandS.NoneIn
import HandS.Iter
import KE.GoesMore
import PyProof.EnumMake
import HandS.Set
import HandS.SetBool
import PyProof.Rows.SortShellAny
import PyProof.Rows.SortStr
import PyProof.Rows.TmSorted
import HandS.Strs
import HandS.SetFor
import HandS.TupSets
import PyProof.WalksMore
import HandS.Style
import HandS.Ends
import PyProof.Rows.ReprOcc
import PyProof.StrLawsRepr
import PyProof.Ascii
import PyProof.Rows.RegStrFacts
import PySem.Challenge.RW_ringfences_k04_errors_by_themselves
set_option autoImplicit false
set_option linter.all false
set_option Elab.async false
set_option maxRecDepth 100000
set_option maxHeartbeats 4000000

/-! ### an error that was caught, held as a value -/
namespace PySem.W
open PySem PySem.Spec PySem.Calls PyProof.Rows
section
variable {prog : Program} {w : World} {A : Around} {E : Value → Shared → Prop} {s : Shared} {K : Frag} {x D : Addr} {ox : Obj} {od : Option Obj}
theorem findObj_dataH {C : Addr} {name : Str} {a g : Value} (hc : (clsIn K C).isSome = true) (ha : findIn K (.ref C) name = some (some a)) (hg : specialIn K a "__get__" = some (some g)) (ht : takesIn K a = some true) : findObj K C od name = some (.bind g a) := by
  obtain ⟨cd, hc⟩ := Option.isSome_iff_exists.mp hc
  unfold findObj
  rw [hc, Option.bind_some, ha, Option.bind_some]
  simp [hg, ht]
theorem kin_classH {Q : Option Value → Shared → Prop} (hga : findIn K (.ref D) "__getattribute__" = some (some (.builtin "BaseException.__getattribute__"))) (hgt : findIn K (.ref D) "__getattr__" = some none) (hsub : subIn K (.ref D) (.type "BaseException") = some true)
    (hdct : hasDictIn K D = true) (ha : findIn K (.ref D) "__class__" = some (some (.builtin "object.__class__")))
    (hn : specialIn K (.builtin "object.__class__") "__get__" = some (some (.builtin "getset_descriptor.__get__"))) (htk : takesIn K (.builtin "object.__class__") = some true) (hm : mroIn K D (.type "object") = some true)
    (X : K.In s.heap) (I : InstAt s.heap x ox D od) (h : Q (some (.ref D)) { s with toks := s.toks + 1 }) : wpAny (model prog w) A (getAttr? (.ref x) "__class__") Q E s := by
  have hf : findObj K D od "__class__" = some (.bind (.builtin "getset_descriptor.__get__") (.builtin "object.__class__")) := findObj_dataH (by obtain ⟨cd, hc, _⟩ := any_some hdct; rw [hc]; rfl) ha hn htk
  obtain ⟨hp, g, d, t, os⟩ := s
  have L0 := I.type (M := model prog w)
  have L1 := looks_findIn (M := model prog w) X hga
  have L2 := looks_findIn (M := model prog w) X hgt
  have L3 := looks_find (M := model prog w) X I hf
  have sub : Looks (model prog w) hp (isInstance (.ref x) (.type "BaseException")) true := L0.andThen (looks_subIn X hsub)
  have hx0 : (false && onTheHeap (Value.builtin "BaseException.__getattribute__")) = false := rfl
  have hx2 : (Value.builtin "BaseException.__getattribute__" == Value.builtin "object.__getattribute__") = false := by decide +kernel
  have hx1 : (onTheHeap (Value.ref D) && Value.builtin "BaseException.__getattribute__" == Value.builtin "object.__getattribute__") = false := by rw [hx2]; rfl
  unfold getAttr? getAttrBy? getAttrBy
  refine wpAny_bind (wpAny_mkText (wpAny_bind (wpAny_attempt (wpAny_holding (wpAny_bind (L0.at (wpAny_bind (L1.at ?_))))))))
  show wpAny _ _ (if (onTheHeap (Value.ref D) && Value.builtin "BaseException.__getattribute__" == Value.builtin "object.__getattribute__") = true then _ else _) _ _ _
  rw [hx1, if_neg Bool.false_ne_true]
  unfold getAttrByItsOwn hookBefore
  refine wpAny_bind ?_
  rw [if_pos (show onTheHeap (Value.ref D) = true from rfl)]
  refine L2.at ?_
  refine wpAny_bind (wpAny_attempt (wpAny_holding ?_))
  unfold callGetattribute
  rw [hx0, if_neg Bool.false_ne_true]
  unfold boundAndCalled
  rw [PySem.F.excAttr_ValueError.ga.bind (.ref x)]
  refine wpAny_bind (wpAny_pure ?_)
  show wpAny _ _ (call (.builtin "BaseException.__getattribute__") [.ref x, .str "__class__" t]) _ _ _
  refine wpAny_call (codeAny_call_builtin PySem.F.excAttr_ValueError.ga.plain PySem.F.entry_bexc_ga ?_)
  refine @check_slot (model prog w) _ _ ⟨hp, g, d, t + 1, os⟩ "BaseException.__getattribute__" "BaseException" "__getattribute__" (.ref x) [.str "__class__" t] [] _ (by decide +kernel) (by decide +kernel) sub (PySem.F.args_bexc_ga (.ref x) (.str "__class__" t)) ?_
  unfold Builtin.«object.__getattribute__»
  refine wpAny_bind (wpAny_of_eq (a := ((Value.ref x : Value), [Value.str "__class__" t])) (by first | rfl | (simp only [slotArgs]; rfl)) ?_)
  refine wpAny_bind (wpAny_pure (wpAny_bind (L0.at (wpAny_bind (L3.at ?_)))))
  show wpAny _ _ (holding [Value.builtin "object.__class__"] (call (.builtin "getset_descriptor.__get__") [.builtin "object.__class__", .ref x, .ref D]) >>= ret) _ _ _
  refine wpAny_bind (wpAny_holding (wpAny_call (class_get (s := ⟨hp, g, d, t + 1, os⟩) (ox := ox) (od := od) X I hm ?_)))
  refine wpAny_pure ?_
  show wpAny _ _ (handedOut (.ref D)) _ _ _
  rw [handedOut_of (v := .ref D) rfl]
  first
    | exact wpAny_pure (wpAny_pure h)
    | exact wpAny_pure h
    | exact wpAny_pure (wpAny_bind (wpAny_pure (wpAny_pure h)))
theorem handS_kitx_excH (hga : findIn K (.ref D) "__getattribute__" = some (some (.builtin "BaseException.__getattribute__"))) (hgt : findIn K (.ref D) "__getattr__" = some none) (hsub : subIn K (.ref D) (.type "BaseException") = some true) (hdct : hasDictIn K D = true) (ha : findIn K (.ref D) "__class__" = some (some (.builtin "object.__class__")))
    (hn : specialIn K (.builtin "object.__class__") "__get__" = some (some (.builtin "getset_descriptor.__get__"))) (htk : takesIn K (.builtin "object.__class__") = some true) (hm : mroIn K D (.type "object") = some true) :
    KitX K (.ref x) (.ref D) (fun h => InstAt h x ox D od) where
  ty := fun _ _ _ I => I.type
  it := fun _ _ X _ => by
    obtain ⟨cdD, hcD, _⟩ := any_some hdct
    unfold clsIn at hcD
    split at hcD
    · rename_i c' d' cd' sl' ho
      intro A' Q' E' s' k q
      unfold isType loadHead
      exact wpAny_bind (wpAny_loadPart (k _ _ (X _ _ ho)) (wpAny_pure q))
    · cases hcD
  ne := fun h tp dd its n sl X htp => by
    obtain ⟨cdD, hcD, _⟩ := any_some hdct
    refine Bool.eq_false_iff.mpr fun q => ?_
    have e : D = tp := Value.ref.inj (beq_iff_eq.mp q)
    subst e
    unfold clsIn at hcD
    split at hcD
    · rename_i c' d' cd' sl' ho
      have z := (X _ _ ho).symm.trans htp
      cases z
    · cases hcD
  ca := fun X I k => kin_classH hga hgt hsub hdct ha hn htk hm X I k
end
end PySem.W
namespace L2
open PySem PySem.Spec PyProof.Rows
/-- an error at a, of the class cls, with the dict d -/
def ExH (cls : Value) (d : Option Addr) (a : Addr) : HO := .ext fun h => ∃ (oe : Obj) (vs : Array Value), h.get? a = some oe ∧ Zc cls d oe ∧ oe.data = .fields vs
theorem exH_ok {P : Program} {w : World} {H : Hp} {h : Heap} {a : Addr} {cls : Value} {d : Option Addr} {oe : Obj} {vs : Array Value} (e : h.get? a = some oe) (z : Zc cls d oe) (dt : oe.data = .fields vs) : ObjOk P w H h a (ExH cls d a) :=
  ⟨⟨oe, vs, e, z, dt⟩, ⟨oe, e⟩, fun _ _ ⟨o, v, q, r⟩ k => ⟨o, v, k o q, r⟩⟩
theorem exH_at {P : Program} {w : World} {H : Hp} {h : Heap} {a : Addr} {cls : Value} {d : Option Addr} (hok : HOk P w H h) (he : H a = some (ExH cls d a)) : ∃ (oe : Obj) (vs : Array Value), h.get? a = some oe ∧ Zc cls d oe ∧ oe.data = .fields vs := by
  have x : ObjOk P w H h a (.ext fun h => ∃ (oe : Obj) (vs : Array Value), h.get? a = some oe ∧ Zc cls d oe ∧ oe.data = .fields vs) := hok a _ he
  exact x.1
section
variable {X : Cx} {pins : List (Addr × Obj)} {σ : St} {H : Hp} {s : Shared}
/-- an object that nobody speaks of is tracked from here on -/
theorem Inv.track {a : Addr} {cls : Value} {d : Option Addr} {oe : Obj} {vs : Array Value} (I : Inv X pins σ H s) (e : s.heap.get? a = some oe) (z : Zc cls d oe) (dt : oe.data = .fields vs) (na : H a = none) (n0 : X.s_0.heap.get? a = none) (nL : a ≠ X.env.locals)
    (nC : ∀ x c, X.env.cells.lookup x = some c → c ≠ a) (np : ∀ p ∈ X.pn ++ pins, p.1 ≠ a) : Inv X pins σ (upd H a (ExH cls d a)) s := by
  have ne0 : ∀ b o, X.s_0.heap.get? b = some o → b ≠ a := fun b o q y => by rw [y, n0] at q; cases q
  refine ⟨I.ok, I.os, I.bare, ⟨I.base.keep, I.base.slot, fun b o q n hq => ?_, I.base.there, fun b xs q => ?_, fun b o u q => ?_, fun b ps q => ?_⟩, I.loc, I.cell, ?_, fun x c q => ?_, fun p hp => ?_, ?_, I.len⟩
  · rw [upd_ne (ne0 b o q)]; exact I.base.free b o q n hq
  · have y := I.base.tups b xs q
    rw [upd_ne (ne_of_none y na)]; exact y
  · have y := I.base.frzs b o u q
    rw [upd_ne (ne_of_none y na)]; exact y
  · obtain ⟨m, y⟩ := I.base.tbls b ps q
    exact ⟨m, by rw [upd_ne (ne_of_none y na)]; exact y⟩
  · rw [upd_ne (Ne.symm nL)]; exact I.free
  · rw [upd_ne (nC x c q)]; exact I.freeC x c q
  · obtain ⟨q1, q2, q3⟩ := I.pin p hp
    exact ⟨q1, by rw [upd_ne (np p hp)]; exact q2, q3⟩
  · exact I.hok.laidN (fun _ _ q => q) na (exH_ok e z dt)
end
/-- what the clause 'except x as n' wishes, where what is caught is kept -/
def wAsH (K : PySem.W.Frag) (c : Value) (i : Nat) (ts : Addr → Value → Option Addr → TS) (D : Ends) : WX := fun cls d σ H =>
  PySem.W.exmOne K cls c = some true ∧ ∀ a, H a = none → ts a cls d { nx := fun σ' H' => D.nx (σ'.set i none) (upd H' a (ExH cls d a)), rt := fun _ _ => False, bk := fun _ _ => False, ct := fun _ _ => False } (σ.set i (some (.ref a))) H
section
variable {X : Cx} {x n : Str} {c : Value} {i : Nat} {body suite : List Stmt} {b₀ : Stmt} {np pos pos' : Pos} {tb : WX → TS} {ts : Addr → Value → Option Addr → TS}
theorem ps_try_asH (hs : X.stack = X.env :: X.outer) (hf : X.env.frame = some X.env.locals) (hex : X.ex = []) (hN : X.N.Nodup) (hi : X.N[i]? = some n) (hln : X.env.kindOf n = some .local) (hc : Names X x c)
    (hb : ∀ (W : WX) (pn : List (Addr × Obj)) (xe : Value → Shared → Prop), Takes (X.tr pn xe) W → PassesOwn (model X.prog X.w) X.A X.env xe → PSs (X.tr pn xe) body (tb W))
    (hsu : ∀ (a : Addr) (oe : Obj) (cls : Value) (d : Option Addr) (pn : List (Addr × Obj)), Zc cls d oe → (∃ vs, oe.data = .fields vs) → PSs (X.suite a ((a, oe) :: pn)) (b₀ :: suite) (ts a cls d)) :
    PS X (.Try body [.ExceptHandler (some (.Name x np)) (some n) (b₀ :: suite) pos'] [] [] pos) (fun D σ H => tb (wAsH X.K c i ts D) D σ H) := by
  refine ⟨fun pins s σ H D I h => ?_⟩
  have ok := I.ok
  have hfr : X.A.frames = some (X.env :: X.outer) := by rw [ok.frames, hs]
  have hloc : Loc X.env.scope n := .inl hln
  refine wpAny_Try_except ?_
  refine wpAny_mono ((hb (wAsH X.K c i ts D) (X.pn ++ pins) (fun e s₁ => wpAny (model X.prog X.w) X.A (noteFrame e X.env) (fun _ s₂ => wpAny (model X.prog X.w) X.A (setFlight e none) (fun _ s₃ =>
    wpAny (model X.prog X.w) X.A (handleBy e X.env [.ExceptHandler (some (.Name x np)) (some n) (b₀ :: suite) pos']) (SP X pins D) X.xe s₃) X.xe s₂) X.xe s₁) (fun u s' xx => ?_) PassesOwn.looking).run [] s σ H D (I.toTry _) h) (fun f s1 hsp => ?_) (fun e s1 he => he)
  · -- the catch
    obtain ⟨a, B, sI, pins', σ', H', cls, d, rfl, J', nb, up, sky, na, os, ag, hb1, hyes⟩ := xx
    have J : Inv X pins σ' H' sI := J'.ofTry ok
    have sky' : Sky B (X.env :: X.outer) a (Zc cls d) X.env.locals s'.heap := by rw [← hs]; exact sky
    show wpAny (model X.prog X.w) X.A (noteFrame (.ref a) X.env) _ _ _
    refine Sky.land Zc.steady hfr hf sky' fun h3 fl3 up3 => ?_
    have J3 : Inv X pins σ' H' { s' with heap := h3 } := J.landed nb fl3.1 (up.trans up3) os ag
    obtain ⟨oe3, vs3, he3, hz3, hd3⟩ := fl3.there
    have notFr : ∀ {h : Heap} {o : Obj} {vs : Array Value}, h.FunFrames B (X.env :: X.outer) → h.get? a = some o → o.data = .fields vs → a ∉ frs (X.env :: X.outer) := fun {h o vs} ff e dd hm => by
      obtain ⟨_, o', e', hnf⟩ := ff.mem hm
      rw [e] at e'; cases e'
      exact hnf _ dd
    have nfr := notFr fl3.2.2.1 he3 hd3
    have nL : a ≠ X.env.locals := fun z => nfr (List.mem_filterMap.mpr ⟨X.env, List.mem_cons_self, by rw [hf, z]⟩)
    have nF : a ∉ X.fs := fun hm => by
      obtain ⟨e, he, q⟩ := List.mem_filterMap.mp hm
      exact nfr (List.mem_filterMap.mpr ⟨e, List.mem_cons_of_mem _ he, q⟩)
    -- nobody speaks of it
    have nI : sI.heap.get? a = none := by
      cases q : sI.heap.get? a with
      | none => rfl
      | some o =>
        have z := nb a o q (by rw [hs]; exact nfr)
        rw [fl3.2.1] at z; cases z
    have n0 : X.s_0.heap.get? a = none := by
      cases q : X.s_0.heap.get? a with
      | none => rfl
      | some o =>
        obtain ⟨o', z⟩ := J.base.there a o q (by rw [hex]; exact fun z => nomatch z)
        rw [nI] at z; cases z
    have nC : ∀ x c, X.env.cells.lookup x = some c → c ≠ a := fun x c q z => by
      obtain ⟨v, o, ho, _⟩ := J.cell x c q
      rw [z, nI] at ho; cases ho
    have npin : ∀ p ∈ X.pn ++ pins, p.1 ≠ a := fun p hp z => by
      obtain ⟨q, _⟩ := J.pin p hp
      rw [z, nI] at q; cases q
    have S3 := J3.suite he3 hd3 na nL nF
    refine wpAny_handleBy_cons (codeAny_handlers_test ?_) (by intro q; cases q)
    have LT : PySem.W.Looks (model X.prog X.w) h3 (typeOf (.ref a)) cls := fun A Q E s k q => wpAny_typeOf_ref (k _ _ he3) (by rw [hz3.1]; exact q)
    have LM := PySem.W.exm_one (M := model X.prog X.w) (J3.kIn) LT hb1
    have test : ∀ {Q : Value → Shared → Prop} {E : Value → Shared → Prop}, Q c { s' with heap := h3 } → wpAny (model X.prog X.w) (X.A.mark (some (.ref a))) (eval (.Name x np) X.env) Q E { s' with heap := h3 } := fun {Q E} q => by
      obtain ⟨hg, hdbg, hm | ⟨hm, hv, hnn⟩⟩ := hc
      · exact ld_glob (X := X.suite a ((a, oe3) :: (X.pn ++ pins))) S3 hg hm q hdbg
      · exact ld_blt (X := X.suite a ((a, oe3) :: (X.pn ++ pins))) S3 hg hm hv q hnn hdbg
    refine test (LM.here ?_)
    refine codeAny_handlers_suite_as ?_
    refine HandSPX.lands_againZ fl3 fun h4 fl4 up4 => ?_
    have J4 : Inv X pins σ' H' { s' with heap := h4 } := J.landed nb fl4.1 ((up.trans up3).trans up4) os ag
    obtain ⟨oe4, vs4, he4, hz4, hd4⟩ := fl4.there
    have S4 := J4.suite he4 hd4 na nL nF
    refine store_ok (X := X.suite a ((a, oe4) :: (X.pn ++ pins))) (v := .ref a) S4 hN hi hloc rfl (fun s5 S5 => ?_) (.inr hln)
    refine wpAny_mono ((hsu a oe4 cls d (X.pn ++ pins) hz4 ⟨_, hd4⟩).run [] s5 _ H' _ S5 (hyes a na)) (fun f s6 hsp => ?_) (fun _ _ z => False.elim z)
    cases f with
    | next =>
      obtain ⟨σ6, H6, S6, q6⟩ := hsp
      obtain ⟨g1, g2, _⟩ := S6.pin (a, oe4) (List.mem_append_left _ List.mem_cons_self)
      exact gone_ok ((S6.unsuite ok).track g1 hz4 hd4 g2 n0 nL nC npin) hN hi hln fun s7 J7 => ⟨_, _, J7, q6⟩
    | brk =>
      obtain ⟨σ6, H6, S6, q6⟩ := hsp
      exact False.elim q6
    | cont =>
      obtain ⟨σ6, H6, S6, q6⟩ := hsp
      exact False.elim q6
    | ret u =>
      obtain ⟨v6, σ6, H6, S6, r6, q6⟩ := hsp
      exact False.elim q6
  · cases f with
    | next =>
      obtain ⟨σ', H', J', q⟩ := hsp
      exact wpAny_execs_nil ⟨σ', H', J'.ofTry ok, q⟩
    | brk =>
      obtain ⟨σ', H', J', q⟩ := hsp
      exact ⟨σ', H', J'.ofTry ok, q⟩
    | cont =>
      obtain ⟨σ', H', J', q⟩ := hsp
      exact ⟨σ', H', J'.ofTry ok, q⟩
    | ret u =>
      obtain ⟨v, σ', H', J', r, q⟩ := hsp
      exact ⟨v, σ', H', J'.ofTry ok, r, q⟩
end
/-- isinstance(e, c), e such an error -/
def rIsH (K : PySem.W.Frag) (D : Addr) : List V → Hp → VK → Prop := fun xs H Q => ∃ (a dd : Addr) (fs : List (Str × V)) (c : V) (cv : Value) (b : Bool), xs = [.ref a, c] ∧ H a = some (ExH (.ref D) (some dd) a) ∧ H dd = some (.xd fs) ∧ (∀ u, RelV c u → u = cv) ∧ PySem.W.kitOne K (.ref D) cv = some b ∧ Q (.bl b) H
theorem xd_at {X : Cx} {H : Hp} {h : Heap} {dd : Addr} {fs : List (Str × V)} (hok : HOk X.prog X.w H h) (e : H dd = some (.xd fs)) : ∃ mA, h.Ns1 dd mA ∧ ∀ f, RelO (fs.lookup f) (mA f) := by
  have hx : ObjOk X.prog X.w H h dd (.xd fs) := hok dd _ e
  obtain ⟨mA, h1, h2⟩ := hx
  exact ⟨mA, h1, h2⟩
theorem inst_of {X : Cx} {H : Hp} {h : Heap} {a dd D : Addr} {fs : List (Str × V)} (hok : HOk X.prog X.w H h) (ea : H a = some (ExH (.ref D) (some dd) a)) (ed : H dd = some (.xd fs)) :
    ∃ (oe od : Obj) (mA : Str → Option Value), PySem.W.InstAt h a oe D (some od) ∧ (∀ name, PySem.W.lookIn name od = some (mA name)) ∧ ∀ f, RelO (fs.lookup f) (mA f) := by
  obtain ⟨oe, vs, hget, hz, hd⟩ := exH_at hok ea
  obtain ⟨mA, hns, hr⟩ := xd_at hok ed
  obtain ⟨od, ho, hl⟩ := lookIn_ns hns
  exact ⟨oe, od, mA, ⟨hget, hz.1, by unfold PySem.W.notCls; rw [hd] <;> rfl, by rw [hz.2]; exact ho⟩, hl, hr⟩
theorem call_isH {X : Cx} {D : Addr} (C : ExcC X.K D) : CallR X (.builtin "isinstance") (rIsH X.K D) := by
  intro pins s σ H xs us Q I r h
  obtain ⟨a, dd, fs, c, cv, b, rfl, ea, ed, hcv, e, q⟩ := h
  cases r with
  | cons rx rr =>
    cases rr with
    | cons rt rr =>
      cases rr
      cases rx
      have ec := hcv _ rt
      subst ec
      obtain ⟨oe, od, mA, J, _, _⟩ := inst_of I.hok ea ed
      exact PySem.W.kia_one (PySem.W.handS_kitx_excH C.hg C.hk C.hs C.hd C.ha C.hn C.ht C.hm) I.kIn J e (fun z => nomatch z) fun tk => ⟨.bl b, H, I.kept (t' := tk) fun _ _ z => z, rfl, q⟩
/-- e.f, e such an error -/
def tFldH (K : PySem.W.Frag) (D : Addr) (f : Str) (te : TE) : TE := fun σ H Q => te σ H fun x H1 => ∃ (a dd : Addr) (fs : List (Str × V)) (v : V), x = .ref a ∧ H1 a = some (ExH (.ref D) (some dd) a) ∧ H1 dd = some (.xd fs) ∧ fs.lookup f = some v ∧ Q v H1
theorem pe_fldH {X : Cx} {D : Addr} {f : Str} {e : Expr} {te : TE} {pos : Pos} (C : ExcC X.K D) (hno : PySem.W.findIn X.K (.ref D) f = some none) (he : PE X e te) (hb : attributeBase e f X.env (eval e X.env) = eval e X.env := by rfl) : PE X (.Attribute e f pos) (tFldH X.K D f te) := by
  refine ⟨fun pins s σ H Q I h => ?_⟩
  refine attr_of hb (thn (he.run pins s σ H _ I h) fun u s1 hh => ?_)
  obtain ⟨x, H1, I1, rx, a, dd, fs, v, ex, ea, ed, l, q⟩ := hh
  subst ex
  obtain rfl : u = Value.ref a := rx
  obtain ⟨oe, od, mA, J, hl, hr⟩ := inst_of I1.hok ea ed
  obtain ⟨u, hu, ru⟩ := RelO.some_of (v := v) (o := mA f) (by rw [← l]; exact hr f)
  exact HandSPX.exc_get I1.kIn J C.hg C.hk C.hs (PySem.W.findObj_own C.hd hno rfl (by rw [hl, hu])) (handed_of ru) ⟨v, H1, I1.tok _, ru, q⟩
end L2

namespace Ev
open PySem

abbrev DKey := Sum Int (List Nat)
/-- values; texts are their codes -/
inductive D where
  | non | bl (b : Bool) | int (i : Int) | str (s : List Nat) | tup (l : List D) | rol (l : List D) | frl (l : List D) | dct (kvs : List (DKey × D)) | rng (lo hi : Int) | loc (n : Nat) | exo (c : Nat) (xs : List D)
  deriving Inhabited
/-- what can change, by its number -/
inductive Mo where
  | lst (l : List D)
  | dic (kvs : List (DKey × D))
abbrev Sto := List Mo
abbrev Loc := List (Option D)

inductive Res (α : Type) where
  | bad | err (c : Nat) (xs : List D) (m : Sto) | ok (a : α) (m : Sto)
def Res.bind {α β : Type} (r : Res α) (f : α → Sto → Res β) : Res β := match r with
  | .bad => .bad
  | .err c xs m => .err c xs m
  | .ok a m => f a m

inductive Bop where | add | sub | mul | fdiv | mod | pow | addM | shl | band | bor
  deriving DecidableEq
inductive Cop where | eq | ne | lt | le | gt | ge | isin | notin | isn | notn
  deriving DecidableEq
inductive Bi where | len | repr | abs | int | str | list | tuple | all | any | max2 | min2 | listM | sum | sorted | rng1 | rng2 | tru
  deriving DecidableEq
inductive Ty where | int | str | bool | tuple | list | dict
  deriving DecidableEq
inductive Mt where | append | extend | popAt | insert | upper | index | count
  deriving DecidableEq
inductive Tg where | nm (i : Nat) | tp (l : List Nat)
  deriving DecidableEq
def Tg.ixs : Tg → List Nat
  | .nm i => [i]
  | .tp is => is
/-- what a comprehension makes -/
inductive CKd where | lst | set
  deriving DecidableEq

/-! errors as values -/
/-- the error classes: name, field -/
def errT : List (Str × Str) := [("BadStep", "step"), ("NoThread", "thread"), ("Finished", "thread"), ("Blocked", "thread"), ("Full", "thread"), ("NothingWaits", "variable"), ("NotOldest", "variable"), ("NotLive", "pair"), ("TooLong", "limit"), ("TooMany", "limit"), ("BadProgram", "value"), ("BadBuffers", "value"), ("BadRemedies", "value"), ("NotThere", "remedy"), ("NoNumber", "number"), ("BadText", "row"), ("BadLine", "line"), ("Incomplete", ""), ("Unfaithful", ""), ("NothingToUndo", ""), ("NoMachine", ""), ("FenceError", "")]
def errN (c : Nat) : Str := (errT.getD c ("", "")).1
def errF (c : Nat) : Str := (errT.getD c ("", "")).2
inductive XOp where | mk (c : Nat) | isx (c : Nat) | fld (f : Str)
/-- FenceError and ValueError are above all -/
def subX (c c2 : Nat) : Bool := decide (c2 = c) || decide (21 ≤ c2)
mutual
inductive E where
  | var (i : Nat)
  | non | bl (b : Bool) | int (i : Int) | str (s : List Nat)
  | bin (o : Bop) (a b : E)
  | neg (a : E)
  | cmp (o : Cop) (a b : E)
  | chn (o o' : Cop) (a b c : E)
  | and (a b : E) | or (a b : E) | not (a : E) | ite (c a b : E)
  | tup (es : List E) | lst (es : List E) | lstM (es : List E) | dct0 | dct0M | dct1 (k v : E)
  | ix (a i : E)
  | slU (a hi : E) | slL (a lo : E) | slLU (a lo hi : E) | rev (a : E)
  | call (f : Nat) (es : List E)
  | callk (f : Nat) (p : List Nat) (es ks : List E)
  | blt (b : Bi) (es : List E)
  | isi (e : E) (t : Ty)
  | mth (m : Mt) (o : E) (es : List E)
  | mtc (m : Mt) (f : Nat) (as es : List E)
  | xop (o : XOp) (es : List E)
  | lzip (es : List E)
  | lc (own : List Nat) (t : Tg) (it : It) (elt : E)
  | lcIf (own : List Nat) (t : Tg) (it : It) (c elt : E)
  | lcN (n : Nest) | srtS (n : Nest) | lenS (e : E) | srtL (e : E) | srtF (e : E)
/-- a comprehension's clauses; vs: the names of this one and of those in it -/
inductive Nest where
  | last (e : E)
  | cl (vs : List Nat) (t : Tg) (it : It) (c : E) (n : Nest)
inductive It where
  | seq (e : E) | rng1 (e : E) | rng2 (a b : E) | enu (e : E) | zip (a b : E)
end

inductive S where
  | set (i : Nat) (e : E)
  | setL (i : Nat) (e : E)
  | par (i j : Nat) (a b : E)
  | par3 (i j l : Nat) (a b d : E)
  | unp (l : List Nat) (e : E)
  | sset (o i e : E)
  | expr (e : E)
  | ret (e : E)
  | iff (c : E) (a b : List S)
  | for (t : Tg) (it : It) (body : List S)
  | while (c : E) (body : List S)
  | tryz (ia ib ie : Nat) (cs : List Nat) (g : Nat) (es : List E)
  | pass
  | brk | cnt
  | stuck

/-! data -/
def omap {α β : Type} (f : α → Option β) : List α → Option (List β)
  | [] => some []
  | a :: l => match f a, omap f l with
    | some b, some bs => some (b :: bs)
    | _, _ => none
def keyP : DKey → PyData
  | .inl i => .int i
  | .inr s => .str ⟨s.toArray⟩
def dat (μ : Sto) : Nat → D → Option PyData
  | 0, _ => none
  | _ + 1, .non => some .none
  | _ + 1, .bl b => some (.bool b)
  | _ + 1, .int i => some (.int i)
  | _ + 1, .str s => some (.str ⟨s.toArray⟩)
  | n + 1, .tup l => (omap (dat μ n) l).map .tuple
  | n + 1, .rol l => (omap (dat μ n) l).map .list
  | n + 1, .frl l => (omap (dat μ n) l).map .list
  | n + 1, .dct kvs => (omap (fun p => (dat μ n p.2).map fun x => (keyP p.1, x)) kvs).map .dict
  | _ + 1, .rng _ _ => none
  | _ + 1, .exo _ _ => none
  | n + 1, .loc k => match μ[k]? with
    | some (.lst l) => (omap (dat μ n) l).map .list
    | some (.dic kvs) => (omap (fun p => (dat μ n p.2).map fun x => (keyP p.1, x)) kvs).map .dict
    | none => none

/-! == of data, as far as it is asked: what holds a dict is told from texts and tuples alone -/
mutual
def plainP : PyData → Bool
  | .list xs => plainPs xs
  | .tuple xs => plainPs xs
  | .dict _ => false
  | _ => true
def plainPs : List PyData → Bool
  | [] => true
  | x :: xs => plainP x && plainPs xs
end
mutual
def eqd : PyData → PyData → Option Bool
  | .tuple xs, .tuple ys => eqdL xs ys
  | .str s, y => some (PyData.eqv (.str s) y)
  | x, .str s => some (PyData.eqv x (.str s))
  | .dict _, .tuple _ => some false
  | .list _, .tuple _ => some false
  | x, y => if plainP x && plainP y then some (PyData.eqv x y) else none
def eqdL : List PyData → List PyData → Option Bool
  | [], [] => some true
  | [], _ :: _ => some false
  | _ :: _, [] => some false
  | x :: xs, y :: ys => match eqd x y, eqdL xs ys with
    | some a, some b => some (a && b)
    | _, _ => none
end

/-! operators -/
def big : Int := 18446744073709551616
def room : Nat := 16777216
/-- a list's items -/
def lsD (μ : Sto) : D → Option (List D)
  | .rol l => some l
  | .loc a => match μ[a]? with
    | some (.lst l) => some l
    | _ => none
  | _ => none
def addMop (μ : Sto) (x y : D) : Res D := match lsD μ x, lsD μ y with
  | some l, some k => if l.length + k.length ≤ room then .ok (.loc μ.length) (μ ++ [.lst (l ++ k)]) else .bad
  | _, _ => .bad
def binop (o : Bop) (x y : D) (μ : Sto) : Res D := match o, x, y with
  | .add, .int i, .int j => .ok (.int (i + j)) μ
  | .sub, .int i, .int j => .ok (.int (i - j)) μ
  | .mul, .int i, .int j => if (-big < i ∧ i < big) ∨ (-big < j ∧ j < big) then .ok (.int (i * j)) μ else .bad
  | .fdiv, .int i, .int j => if 0 < j ∧ j < 1073741824 then .ok (.int (i / j)) μ else .bad
  | .mod, .int i, .int j => if 0 < j then .ok (.int (i % j)) μ else .bad
  | .pow, .int i, .int j => if 0 ≤ j ∧ j ≤ 1000 ∧ i.natAbs < 2 ^ 2000 then .ok (.int (i ^ j.toNat)) μ else .bad
  | .shl, .int i, .int j => if 0 ≤ j ∧ j ≤ 1000000 ∧ i.natAbs < 2 ^ 64 then .ok (.int (i * 2 ^ j.toNat)) μ else .bad
  | .band, .int i, .int j => .ok (.int (Builtin.bitAnd i j)) μ
  | .bor, .int i, .int j => .ok (.int (Builtin.bitOr i j)) μ
  | .add, .bl p, .int j => .ok (.int ((if p = true then (1 : Int) else 0) + j)) μ
  | .sub, .bl p, .int j => .ok (.int ((if p = true then (1 : Int) else 0) - j)) μ
  | .add, .str a, .str b => if a.length + b.length ≤ room then .ok (.str (a ++ b)) μ else .bad
  | .add, .tup a, .tup b => if a.length + b.length ≤ room then .ok (.tup (a ++ b)) μ else .bad
  | .add, .rol l, .rol k => if l.length + k.length ≤ room then .ok (.rol (l ++ k)) μ else .bad
  | .add, .rol l, .loc b => match μ[b]? with
    | some (.lst k) => if l.length + k.length ≤ room then .ok (.rol (l ++ k)) μ else .bad
    | _ => .bad
  | .add, .loc a, .rol k => match μ[a]? with
    | some (.lst l) => if l.length + k.length ≤ room then .ok (.rol (l ++ k)) μ else .bad
    | _ => .bad
  | .add, .loc a, .loc b => match μ[a]?, μ[b]? with
    | some (.lst l), some (.lst k) => if l.length + k.length ≤ room then .ok (.rol (l ++ k)) μ else .bad
    | _, _ => .bad
  | .mul, .rol l, .int k => if 0 ≤ k ∧ k < 1000000 ∧ l.length * k.toNat ≤ room then .ok (.rol (List.replicate k.toNat l).flatten) μ else .bad
  | .mul, .tup l, .int k => if 0 ≤ k ∧ k ≤ 1000 ∧ l.length ≠ 0 ∧ l.length ≤ 1000 then .ok (.tup (List.replicate k.toNat l).flatten) μ else .bad
  | .addM, x, y => addMop μ x y
  | _, _, _ => .bad
def eqB (μ : Sto) (x y : D) : Option Bool := match dat μ 60 x, dat μ 60 y with
  | some a, some b => eqd a b
  | _, _ => none
def ned : PyData → PyData → Option Bool
  | .tuple xs, .tuple ys => (eqdL xs ys).map (!·)
  | x, y => if plainP x && plainP y then some (!PyData.eqv x y) else none
def neB (μ : Sto) (x y : D) : Option Bool := match dat μ 60 x, dat μ 60 y with
  | some a, some b => ned a b
  | _, _ => none
def inB (μ : Sto) (x : D) (l : List D) : Option Bool := match dat μ 60 x, omap (dat μ 60) l with
  | some dx, some ps => if ps.all plainP then (omap (fun p => eqd p dx) ps).map fun bs => bs.any id else none
  | _, _ => none
def inL (μ : Sto) (x : D) (a : Nat) : Option Bool := match μ[a]? with
  | some (.lst l) => inB μ x l
  | _ => none
/-- < of tuples, as far as it is asked: their data alike -/
def ltD (μ : Sto) (x y : D) : Option Bool := match dat μ 60 x, dat μ 60 y with
  | some a, some b => if PySem.W.alike a b = true then some (PySem.W.dataLt a b) else none
  | _, _ => none
def isNon : D → Bool
  | .non => true
  | _ => false
def cmpop (o : Cop) (x y : D) (μ : Sto) : Option Bool := match o, x, y with
  | .eq, .int i, .int j => some (decide (i = j))
  | .ne, .int i, .int j => some (!decide (i = j))
  | .eq, .str i, .str j => some (decide (i = j))
  | .ne, .str i, .str j => some (!decide (i = j))
  | .eq, _, _ => eqB μ x y
  | .ne, _, _ => neB μ x y
  | .lt, .int i, .int j => some (decide (i < j))
  | .le, .int i, .int j => some (decide (i ≤ j))
  | .gt, .int i, .int j => some (decide (j < i))
  | .ge, .int i, .int j => some (decide (j ≤ i))
  | .le, .str i, .str j => some (!decide (j < i))
  | .lt, .tup a, .tup b => ltD μ (.tup a) (.tup b)
  | .gt, .tup a, .tup b => ltD μ (.tup b) (.tup a)
  | .le, .tup a, .tup b => (ltD μ (.tup b) (.tup a)).map (!·)
  | .ge, .tup a, .tup b => (ltD μ (.tup a) (.tup b)).map (!·)
  | .isin, _, .tup l => inB μ x l
  | .notin, _, .tup l => (inB μ x l).map (!·)
  | .isin, _, .rol l => inB μ x l
  | .notin, _, .rol l => (inB μ x l).map (!·)
  | .isin, _, .loc a => inL μ x a
  | .notin, _, .loc a => (inL μ x a).map (!·)
  | .isin, .str [c], .str b => some (decide (c ∈ b))
  | .notin, .str [c], .str b => some (!decide (c ∈ b))
  | .isn, _, .non => some (isNon x)
  | .notn, _, .non => some (!isNon x)
  | .isn, .bl a, .bl b => some (decide (a = b))
  | _, _, _ => none
/-- the place of an index -/
def ixn (n : Nat) (i : Int) : Option Nat := if 0 ≤ i then (if i < n then some i.toNat else none) else if -(n : Int) ≤ i then some (i + n).toNat else none
def clip (n d : Nat) : Option Int → Nat
  | none => d
  | some i => if i < 0 then (i + n).toNat else min i.toNat n
def cut {α : Type} (xs : List α) (lo hi : Option Int) : List α := (xs.drop (clip xs.length 0 lo)).take (clip xs.length xs.length hi - clip xs.length 0 lo)
def ixop (x i : D) (μ : Sto) : Res D := match x, i with
  | .tup l, .int i => match (ixn l.length i).bind fun k => l[k]? with
    | some d => .ok d μ
    | none => .bad
  | .rol l, .int i => match (ixn l.length i).bind fun k => l[k]? with
    | some d => .ok d μ
    | none => .bad
  | .frl l, .int i => match (ixn l.length i).bind fun k => l[k]? with
    | some d => .ok d μ
    | none => .bad
  | .loc a, .int i => match μ[a]? with
    | some (.lst l) => match (ixn l.length i).bind fun k => l[k]? with
      | some d => .ok d μ
      | none => .bad
    | _ => .bad
  | .str s, .int i => match (ixn s.length i).bind fun k => s[k]? with
    | some c => if s.length ≤ room then .ok (.str [c]) μ else .bad
    | none => .bad
  | _, _ => .bad
def slop (x : D) (lo hi : Option Int) (μ : Sto) : Res D := match x with
  | .tup l => .ok (.tup (cut l lo hi)) μ
  | .str s => if s.length ≤ room then .ok (.str (cut s lo hi)) μ else .bad
  | .rol l => .ok (.rol (cut l lo hi)) μ
  | .loc a => match μ[a]? with
    | some (.lst l) => .ok (.rol (cut l lo hi)) μ
    | _ => .bad
  | _ => .bad
def intD : D → Option Int
  | .int i => some i
  | _ => none
def lenD (μ : Sto) : D → Option Nat
  | .tup l => some l.length
  | .rol l => some l.length
  | .frl l => some l.length
  | .str s => if s.length ≤ room then some s.length else none
  | .loc a => match μ[a]? with
    | some (.lst l) => some l.length
    | _ => none
  | _ => none
def itemsD (μ : Sto) : D → Option (List D)
  | .tup l => some l
  | .rol l => some l
  | .frl l => some l
  | .loc a => match μ[a]? with
    | some (.lst l) => some l
    | _ => none
  | _ => none
def blD : D → Option Bool
  | .bl b => some b
  | _ => none
def shownD (μ : Sto) (d : D) : Option (List Nat) := match dat μ 60 d with
  | some t => if t.showable = true ∧ t.shown.length ≤ room then some t.shown.cps.toList else none
  | none => none
/-! texts in order, each once -/
def leN (a b : List Nat) : Bool := !decide (b < a)
def insN (x : List Nat) : List (List Nat) → List (List Nat)
  | [] => [x]
  | y :: l => if leN x y = true then x :: y :: l else y :: insN x l
def sortN : List (List Nat) → List (List Nat)
  | [] => []
  | x :: l => insN x (sortN l)
def addN (L : List (List Nat)) (x : List Nat) : List (List Nat) := if x ∈ L then L else L ++ [x]
def addNs (L : List (List Nat)) : List (List Nat) → List (List Nat)
  | [] => L
  | x :: l => addNs (addN L x) l
def textD : D → Option (List Nat)
  | .str s => some s
  | _ => none
/-- a list of texts, not too long -/
def textsD (l : List D) : Option (List (List Nat)) := if l.length < 4000 then omap textD l else none
def emitD : CKd → List D → D → Option (List D)
  | .lst, acc, y => if acc.length < room then some (acc ++ [y]) else none
  | .set, acc, y => match y with
    | .str s => if acc.length < 4000 then some (acc ++ [.str s]) else none
    | _ => none
/-! tuples of whole numbers and texts in order, each once -/
instance memF (x : List DKey) (L : List (List DKey)) : Decidable (x ∈ L) := @List.instDecidableMemOfLawfulBEq _ instBEqOfDecidableEq inferInstance x L
abbrev ltF (a b : List DKey) : Bool := PyProof.Rows.lexLt PyProof.Rows.itemOrd a b
def addF (L : List (List DKey)) (x : List DKey) : List (List DKey) := if x ∈ L then L else L ++ [x]
def addFs (L : List (List DKey)) : List (List DKey) → List (List DKey)
  | [] => L
  | x :: l => addFs (addF L x) l
def sortF (L : List (List DKey)) : List (List DKey) := L.mergeSort fun a b => !ltF b a
def itemF : D → Option DKey
  | .int i => some (.inl i)
  | .str s => some (.inr s)
  | _ => none
def keyF : D → Option (List DKey)
  | .tup l => omap itemF l
  | _ => none
def valF : DKey → D
  | .inl i => .int i
  | .inr s => .str s
/-- the data of such an item -/
def enc1 : DKey → PyData
  | .inl i => .int i
  | .inr x => .str ⟨x.toArray⟩
/-- few such tuples, that can be compared -/
def flatsD (l : List D) : Option (List (List DKey)) := match omap keyF l with
  | some ks => if l.length < 64 ∧ (ks.all fun a => ks.all fun b => PySem.W.alikeAll (a.map enc1) (b.map enc1)) = true ∧ ks.all (fun a => !a.isEmpty) = true then some ks else none
  | none => none
def tupF (k : List DKey) : D := .tup (k.map valF)
/-- sorted(set(x)) of such tuples -/
def srtFD (μ : Sto) (x : D) : Option D := ((match x with | .tup l => some l | x => lsD μ x).bind flatsD).map fun ks => .rol ((sortF (addFs [] ks)).map tupF)
/-! lists as data: what stands where, how often; in order -/
def plainsD (μ : Sto) (l : List D) : Option (List PyData) := match omap (dat μ 60) l with
  | some ds => if plainPs ds = true then some ds else none
  | none => none
def sortable (ds : List PyData) : Bool := ds.all (fun d => match d with | .tuple (_ :: _) => true | _ => false) || ds.all fun d => match d with | .none => false | .tuple _ => false | _ => true
def sortedD (μ : Sto) (l : List D) : Option (List D) := match omap (dat μ 60) l with
  | some ds => if (ds.all fun a => ds.all fun b => PySem.W.alike a b) && sortable ds && decide (l.length ≤ room) then some (((l.zip ds).mergeSort (PySem.W.dataLe false fun p : D × PyData => p.2)).map (·.1)) else none
  | none => none
def ofO {α : Type} (o : Option α) (μ : Sto) : Res α := match o with
  | some a => .ok a μ
  | none => .bad
/-- list(zip(a, b)) -/
def lzipD (μ : Sto) : List D → Option D
  | [x, y] => match lsD μ x, lsD μ y with
    | some l, some k => if min l.length k.length ≤ 1000000 then some (.rol (List.zipWith (fun a b => D.tup [a, b]) l k)) else none
    | _, _ => none
  | _ => none
/-- what a thing is as a test -/
def truD (μ : Sto) : D → Option Bool
  | .bl b => some b
  | .rol l => some (!l.isEmpty)
  | .tup l => some (!l.isEmpty)
  | .loc a => match μ[a]? with
    | some (.lst l) => some (!l.isEmpty)
    | _ => none
  | _ => none
def bltop (b : Bi) (xs : List D) (μ : Sto) : Res D := match b, xs with
  | .len, [x] => (match lenD μ x with | some n => .ok (.int (Int.ofNat n)) μ | none => .bad)
  | .repr, [x] => ofO ((shownD μ x).map .str) μ
  | .abs, [.int i] => .ok (.int (if i < 0 then -i else i)) μ
  | .int, [.int i] => .ok (.int i) μ
  | .int, [.bl b] => .ok (.int (if b then 1 else 0)) μ
  | .str, [.int i] => if i.natAbs < 2 ^ 1900 then .ok (.str (Str.ofString (toString i)).cps.toList) μ else .bad
  | .str, [.bl b] => .ok (.str (if b = true then [84, 114, 117, 101] else [70, 97, 108, 115, 101])) μ
  | .list, [x] => match itemsD μ x with
    | some l => .ok (.rol l) μ
    | none => .bad
  | .listM, [x] => match itemsD μ x with
    | some l => .ok (.loc μ.length) (μ ++ [.lst l])
    | none => .bad
  | .tuple, [x] => match itemsD μ x with
    | some l => .ok (.tup l) μ
    | none => .bad
  | .all, [.rol l] => match omap blD l with
    | some bs => .ok (.bl (bs.all id)) μ
    | none => .bad
  | .any, [.rol l] => match omap blD l with
    | some bs => .ok (.bl (bs.any id)) μ
    | none => .bad
  | .sum, [x] => ofO (((lsD μ x).bind (omap intD ·)).map fun ns => .int ns.sum) μ
  | .sorted, [x] => ofO (((lsD μ x).bind (sortedD μ ·)).map .rol) μ
  | .tru, [x] => match truD μ x with
    | some b => .ok (.bl b) μ
    | none => .bad
  | .rng1, [.int j] => if -(2 ^ 62) ≤ j ∧ j < 2 ^ 62 then .ok (.rng 0 j) μ else .bad
  | .rng2, [.int i, .int j] => if -(2 ^ 62) ≤ i ∧ i < 2 ^ 62 ∧ -(2 ^ 62) ≤ j ∧ j < 2 ^ 62 then .ok (.rng i j) μ else .bad
  | .max2, [.int i, .int j] => .ok (.int (if j > i then j else i)) μ
  | .min2, [.int i, .int j] => .ok (.int (if j < i then j else i)) μ
  | _, _ => .bad
/-- what is no range -/
def noRng : D → Bool
  | .rng _ _ => false
  | .exo _ _ => false
  | _ => true
def isTy (μ : Sto) : D → Ty → Bool
  | .non, _ => false
  | .bl _, t => decide (t = .bool) || decide (t = .int)
  | .int _, t => decide (t = .int)
  | .str _, t => decide (t = .str)
  | .tup _, t => decide (t = .tuple)
  | .rol _, t => decide (t = .list)
  | .frl _, t => decide (t = .list)
  | .dct _, t => decide (t = .dict)
  | .rng _ _, _ => false
  | .exo _ _, _ => false
  | .loc a, t => match μ[a]? with
    | some (.lst _) => decide (t = .list)
    | some (.dic _) => decide (t = .dict)
    | none => false
/-- the items of a thing that has index and count -/
def rowD (μ : Sto) : D → Option (List D)
  | .rol l => some l
  | .loc a => match μ[a]? with
    | some (.lst l) => some l
    | _ => none
  | _ => none
def indexop (o x : D) (μ : Sto) : Res D := match (rowD μ o).bind (plainsD μ ·), dat μ 60 x with
  | some ds, some d => if plainP d = true then (match ds.findIdx? fun y => PyData.eqv y d with | some j => .ok (.int (j : Nat)) μ | none => .bad) else .bad
  | _, _ => .bad
def countop (o x : D) (μ : Sto) : Res D := match (rowD μ o).bind (plainsD μ ·), dat μ 60 x with
  | some ds, some d => if plainP d = true then .ok (.int (ds.countP fun y => PyData.eqv y d : Nat)) μ else .bad
  | _, _ => .bad
def mthop (m : Mt) (o : D) (xs : List D) (μ : Sto) : Res D := match m, o, xs with
  | .append, .loc a, [x] => match μ[a]? with
    | some (.lst l) => if l.length < room then .ok .non (μ.set a (.lst (l ++ [x]))) else .bad
    | _ => .bad
  | .extend, .loc a, [.loc b] => match μ[a]?, μ[b]? with
    | some (.lst l), some (.lst k) => if l.length + k.length ≤ room then .ok .non (μ.set a (.lst (l ++ k))) else .bad
    | _, _ => .bad
  | .extend, .loc a, [.rol k] => match μ[a]? with
    | some (.lst l) => if l.length + k.length ≤ room then .ok .non (μ.set a (.lst (l ++ k))) else .bad
    | _ => .bad
  | .popAt, .loc a, [.int i] => match μ[a]? with
    | some (.lst l) => match ixn l.length i with
      | some k => match l[k]? with
        | some d => .ok d (μ.set a (.lst (l.eraseIdx k)))
        | none => .bad
      | none => .bad
    | _ => .bad
  | .insert, .loc a, [.int i, x] => match μ[a]? with
    | some (.lst l) => if 0 ≤ i ∧ i ≤ l.length ∧ l.length < room then .ok .non (μ.set a (.lst (l.take i.toNat ++ x :: l.drop i.toNat))) else .bad
    | _ => .bad
  | .index, o, [x] => indexop o x μ
  | .count, o, [x] => countop o x μ
  | .upper, .str s, [] => if s.length ≤ 100000 then .ok (.str (PySem.Txt.upper ⟨s.toArray⟩).cps.toList) μ else .bad
  | _, _, _ => .bad
/-- has the value this method -/
def recv (m : Mt) (x : D) (μ : Sto) : Bool := match m, x with
  | .upper, .str _ => true
  | .upper, _ => false
  | .index, x => (rowD μ x).isSome
  | .count, x => (rowD μ x).isSome
  | _, .loc a => match μ[a]? with
    | some (.lst _) => true
    | _ => false
  | _, _ => false
def ssetop (o i e : D) (μ : Sto) : Option Sto := match o, i with
  | .loc a, .int i => match μ[a]? with
    | some (.lst l) => match ixn l.length i with
      | some k => some (μ.set a (.lst (l.set k e)))
      | none => none
    | _ => none
  | _, _ => none

/-! binding, walking -/
def bindL (ρ : Loc) : List Nat → List D → Option Loc
  | [], [] => some ρ
  | i :: is, d :: ds => bindL (ρ.set i (some d)) is ds
  | _, _ => none
def bindT (t : Tg) (d : D) (μ : Sto) (ρ : Loc) : Option Loc := match t with
  | .nm i => some (ρ.set i (some d))
  | .tp is => match d with
    | .tup l => bindL ρ is l
    | .rol l => bindL ρ is l
    | _ => none
def wipe (ρ : Loc) : List Nat → Loc
  | [] => ρ
  | v :: vs => (wipe ρ vs).set v none
/-- what is walked: items, a list that may change, a range -/
inductive Src where
  | its (l : List D)
  | live (a : Nat) (n : Nat)
  | rng (lo : Int) (n : Nat)
def Src.fuel : Src → Nat
  | .its l => l.length + 1
  | .live _ n => n + 1
  | .rng _ n => n + 1
/-- at turn i: stuck, the end, or an item -/
def Src.at (s : Src) (i : Nat) (μ : Sto) : Option (Option D) := match s with
  | .its l => some l[i]?
  | .live a _ => match μ[a]? with
    | some (.lst l) => some l[i]?
    | _ => none
  | .rng lo n => some (if i < n then some (.int (lo + i)) else none)
def rngOf (lo hi : Int) : Option Src := if -(2 ^ 62) ≤ lo ∧ lo < 2 ^ 62 ∧ -(2 ^ 62) ≤ hi ∧ hi < 2 ^ 62 then some (.rng lo (hi - lo).toNat) else none
def srcOf (d : D) (μ : Sto) : Option Src := match d with
  | .tup l => some (.its l)
  | .rol l => some (.its l)
  | .frl l => some (.its l)
  | .str s => some (.its (s.map fun c => .str [c]))
  | .rng lo hi => rngOf lo hi
  | .loc a => match μ[a]? with
    | some (.lst l) => some (.live a l.length)
    | _ => none
  | _ => none
/-- items with their places -/
def enumI (l : List D) : List D := l.mapIdx fun i x => .tup [.int (i : Nat), x]
def enumOf (d : D) : Option Src := match d with
  | .tup l => some (.its (enumI l))
  | .rol l => some (.its (enumI l))
  | _ => none
/-- two lists, two tuples, place by place -/
def zipOf (d e : D) : Option Src := match d, e with
  | .tup l, .tup k => some (.its (l.zipWith (fun x y => .tup [x, y]) k))
  | .rol l, .rol k => some (.its (l.zipWith (fun x y => .tup [x, y]) k))
  | _, _ => none

inductive Out where
  | nx (ρ : Loc) | rt (d : D) | bk (ρ : Loc) | ct (ρ : Loc)
def forN (src : Src) (t : Tg) (body : Loc → Sto → Res Out) : Nat → Nat → Loc → Sto → Res Out
  | 0, _, _, _ => .bad
  | k + 1, i, ρ, μ => match src.at i μ with
    | none => .bad
    | some none => .ok (.nx ρ) μ
    | some (some d) => match bindT t d μ ρ with
      | none => .bad
      | some ρ1 => (body ρ1 μ).bind fun o μ2 => match o with
        | .nx ρ2 => forN src t body k (i + 1) ρ2 μ2
        | .rt x => .ok (.rt x) μ2
        | .bk ρ2 => .ok (.nx ρ2) μ2
        | .ct ρ2 => forN src t body k (i + 1) ρ2 μ2
/-- a comprehension's turns -/
def lcN (src : Src) (t : Tg) (vs : List Nat) (ρ : Loc) (test : Loc → Sto → Res D) (elt : Loc → Sto → Res D) : Nat → Nat → List D → Sto → Res D
  | 0, _, _, _ => .bad
  | k + 1, i, acc, μ => match src.at i μ with
    | none => .bad
    | some none => .ok (.rol acc) μ
    | some (some d) => match bindT t d μ (wipe ρ vs) with
      | none => .bad
      | some ρ1 => (test ρ1 μ).bind fun b μ2 => match b with
        | .bl true => (elt ρ1 μ2).bind fun y μ3 => if acc.length < room then lcN src t vs ρ test elt k (i + 1) (acc ++ [y]) μ3 else .bad
        | .bl false => lcN src t vs ρ test elt k (i + 1) acc μ2
        | _ => .bad
/-- the turns of a clause; the rest is done by body -/
def clN (src : Src) (t : Tg) (vs : List Nat) (ρ : Loc) (test : Loc → Sto → Res D) (body : Loc → Sto → List D → Res (List D)) : Nat → Nat → List D → Sto → Res (List D)
  | 0, _, _, _ => .bad
  | k + 1, i, acc, μ => match src.at i μ with
    | none => .bad
    | some none => .ok acc μ
    | some (some d) => match bindT t d μ (wipe ρ vs) with
      | none => .bad
      | some ρ1 => (test ρ1 μ).bind fun b μ2 => match b with
        | .bl true => (body ρ1 μ2 acc).bind fun acc' μ3 => clN src t vs ρ test body k (i + 1) acc' μ3
        | .bl false => clN src t vs ρ test body k (i + 1) acc μ2
        | _ => .bad
def whN (c : Loc → Sto → Res D) (body : Loc → Sto → Res Out) : Nat → Loc → Sto → Res Out
  | 0, _, _ => .bad
  | k + 1, ρ, μ => (c ρ μ).bind fun b μ1 => match b with
    | .bl true => (body ρ μ1).bind fun o μ2 => match o with
      | .nx ρ2 => whN c body k ρ2 μ2
      | .rt x => .ok (.rt x) μ2
      | .bk ρ2 => .ok (.nx ρ2) μ2
      | .ct ρ2 => whN c body k ρ2 μ2
    | .bl false => .ok (.nx ρ) μ1
    | _ => .bad
def perm {α : Type} (ds : List α) : List Nat → Option (List α)
  | [] => some []
  | i :: is => match ds[i]?, perm ds is with
    | some d, some r => some (d :: r)
    | _, _ => none

abbrev Call := Nat → List D → Sto → Res D
abbrev Kwp := Unit
/-- a thing that will be changed -/
def toM : E → E
  | .lst es => .lstM es
  | .dct0 => .dct0M
  | .blt .list es => .blt .listM es
  | .bin .add a b => .bin .addM a b
  | .lc own t it e => .lc own t it (toM e)
  | e => e
def xopD : XOp → List D → Sto → Res D
  | .mk c, xs, μ => if xs.length ≤ 1 then .ok (.exo c xs) μ else .bad
  | .isx c2, [.exo c _], μ => if c < 21 then .ok (.bl (subX c c2)) μ else .bad
  | .fld f, [.exo c [x]], μ => if c < 17 ∧ errF c = f then .ok x μ else .bad
  | _, _, _ => .bad
mutual
def ev (c : Call) (kw : Kwp) : E → Loc → Sto → Res D
  | .var i, ρ, μ => match ρ[i]? with
    | some (some d) => .ok d μ
    | _ => .bad
  | .non, _, μ => .ok .non μ
  | .bl b, _, μ => .ok (.bl b) μ
  | .int i, _, μ => .ok (.int i) μ
  | .str s, _, μ => .ok (.str s) μ
  | .bin o a b, ρ, μ => (ev c kw a ρ μ).bind fun x μ => (ev c kw b ρ μ).bind fun y μ => binop o x y μ
  | .neg a, ρ, μ => (ev c kw a ρ μ).bind fun x μ => ofO ((intD x).map fun i => .int (-i)) μ
  | .cmp o a b, ρ, μ => (ev c kw a ρ μ).bind fun x μ => (ev c kw b ρ μ).bind fun y μ => ofO ((cmpop o x y μ).map .bl) μ
  | .chn o o' a b d, ρ, μ => (ev c kw a ρ μ).bind fun x μ => (ev c kw b ρ μ).bind fun y μ => match cmpop o x y μ with
    | some true => (ev c kw d ρ μ).bind fun z μ => ofO ((cmpop o' y z μ).map .bl) μ
    | some false => .ok (.bl false) μ
    | none => .bad
  | .and a b, ρ, μ => (ev c kw a ρ μ).bind fun x μ => match x with
    | .bl true => ev c kw b ρ μ
    | .bl false => .ok (.bl false) μ
    | _ => .bad
  | .or a b, ρ, μ => (ev c kw a ρ μ).bind fun x μ => match x with
    | .bl true => .ok (.bl true) μ
    | .bl false => ev c kw b ρ μ
    | _ => .bad
  | .not a, ρ, μ => (ev c kw a ρ μ).bind fun x μ => match x with
    | .bl b => .ok (.bl (!b)) μ
    | _ => .bad
  | .ite a b d, ρ, μ => (ev c kw a ρ μ).bind fun x μ => match x with
    | .bl true => ev c kw b ρ μ
    | .bl false => ev c kw d ρ μ
    | _ => .bad
  | .tup es, ρ, μ => (evs c kw es ρ μ).bind fun xs μ => if xs.length ≤ room then .ok (.tup xs) μ else .bad
  | .lst es, ρ, μ => (evs c kw es ρ μ).bind fun xs μ => if xs.length ≤ room then .ok (.rol xs) μ else .bad
  | .lstM es, ρ, μ => (evs c kw es ρ μ).bind fun xs μ => if xs.length ≤ room then .ok (.loc μ.length) (μ ++ [.lst xs]) else .bad
  | .dct0, _, μ => .ok (.dct []) μ
  | .dct0M, _, μ => .ok (.loc μ.length) (μ ++ [.dic []])
  | .dct1 k v, ρ, μ => (ev c kw k ρ μ).bind fun x μ1 => (ev c kw v ρ μ1).bind fun y μ2 => match x with
    | .str s => .ok (.dct [(.inr s, y)]) μ2
    | _ => .bad
  | .ix a i, ρ, μ => (ev c kw a ρ μ).bind fun x μ => (ev c kw i ρ μ).bind fun y μ => ixop x y μ
  | .slU a h, ρ, μ => (ev c kw a ρ μ).bind fun x μ => (ev c kw h ρ μ).bind fun y μ => match y with
    | .int j => slop x none (some j) μ
    | _ => .bad
  | .slL a l, ρ, μ => (ev c kw a ρ μ).bind fun x μ => (ev c kw l ρ μ).bind fun y μ => match y with
    | .int j => slop x (some j) none μ
    | _ => .bad
  | .slLU a l h, ρ, μ => (ev c kw a ρ μ).bind fun x μ => (ev c kw l ρ μ).bind fun y μ => (ev c kw h ρ μ).bind fun z μ => match y, z with
    | .int i, .int j => slop x (some i) (some j) μ
    | _, _ => .bad
  | .rev a, ρ, μ => (ev c kw a ρ μ).bind fun x μ => match x with
    | .tup l => .ok (.tup l.reverse) μ
    | _ => .bad
  | .call f es, ρ, μ => (evs c kw es ρ μ).bind fun xs μ => c f xs μ
  | .callk f p es ks, ρ, μ => (evs c kw es ρ μ).bind fun xs μ => (evs c kw ks ρ μ).bind fun ys μ => match perm (xs ++ ys) p with
    | some zs => c f zs μ
    | none => .bad
  | .blt b es, ρ, μ => (evs c kw es ρ μ).bind fun xs μ => bltop b xs μ
  | .xop o es, ρ, μ => (evs c kw es ρ μ).bind fun xs μ => xopD o xs μ
  | .isi e t, ρ, μ => (ev c kw e ρ μ).bind fun x μ => if noRng x = true then .ok (.bl (isTy μ x t)) μ else .bad
  | .mth m o es, ρ, μ => (ev c kw o ρ μ).bind fun x μ => if recv m x μ then (evs c kw es ρ μ).bind fun xs μ => mthop m x xs μ else .bad
  | .lzip es, ρ, μ => (evs c kw es ρ μ).bind fun xs μ => ofO (lzipD μ xs) μ
  | .mtc m f as es, ρ, μ => (evs c kw as ρ μ).bind fun xs μ => (c f xs μ).bind fun x μ => match x with
    | .tup l => (evs c kw es ρ μ).bind fun ys μ => mthop m (.rol l) ys μ
    | _ => .bad
  | .lc own t it elt, ρ, μ => (evIt c kw it ρ μ).bind fun src μ => lcN src t own ρ (fun _ μ => .ok (.bl true) μ) (fun ρ μ => ev c kw elt ρ μ) src.fuel 0 [] μ
  | .lcN n, ρ, μ => (evN c kw .lst n ρ μ []).bind fun acc μ => .ok (.rol acc) μ
  | .srtS n, ρ, μ => (evN c kw .set n ρ μ []).bind fun acc μ => ofO ((omap textD acc).map fun ts => .rol ((sortN (addNs [] ts)).map .str)) μ
  | .lenS e, ρ, μ => (ev c kw e ρ μ).bind fun x μ => ofO (((lsD μ x).bind (textsD ·)).map fun ts => .int (Int.ofNat (addNs [] ts).length)) μ
  | .srtL e, ρ, μ => (ev c kw e ρ μ).bind fun x μ => ofO (((lsD μ x).bind (textsD ·)).map fun ts => .rol ((sortN (addNs [] ts)).map .str)) μ
  | .srtF e, ρ, μ => (ev c kw e ρ μ).bind fun x μ => ofO (srtFD μ x) μ
  | .lcIf own t it d elt, ρ, μ => (evIt c kw it ρ μ).bind fun src μ => lcN src t own ρ (fun ρ μ => ev c kw d ρ μ) (fun ρ μ => ev c kw elt ρ μ) src.fuel 0 [] μ
def evs (c : Call) (kw : Kwp) : List E → Loc → Sto → Res (List D)
  | [], _, μ => .ok [] μ
  | e :: es, ρ, μ => (ev c kw e ρ μ).bind fun x μ => (evs c kw es ρ μ).bind fun xs μ => .ok (x :: xs) μ
def evN (c : Call) (kw : Kwp) (ck : CKd) : Nest → Loc → Sto → List D → Res (List D)
  | .last e, ρ, μ, acc => (ev c kw e ρ μ).bind fun y μ => ofO (emitD ck acc y) μ
  | .cl vs t it d n, ρ, μ, acc => (evIt c kw it ρ μ).bind fun src μ => clN src t vs ρ (fun ρ μ => ev c kw d ρ μ) (fun ρ μ acc => evN c kw ck n ρ μ acc) src.fuel 0 acc μ
def evIt (c : Call) (kw : Kwp) : It → Loc → Sto → Res Src
  | .seq e, ρ, μ => (ev c kw e ρ μ).bind fun x μ => ofO (srcOf x μ) μ
  | .enu e, ρ, μ => (ev c kw e ρ μ).bind fun x μ => ofO (enumOf x) μ
  | .zip a b, ρ, μ => (ev c kw a ρ μ).bind fun x μ => (ev c kw b ρ μ).bind fun y μ => ofO (zipOf x y) μ
  | .rng1 e, ρ, μ => (ev c kw e ρ μ).bind fun x μ => match x with
    | .int j => ofO (rngOf 0 j) μ
    | _ => .bad
  | .rng2 a b, ρ, μ => (ev c kw a ρ μ).bind fun x μ => (ev c kw b ρ μ).bind fun y μ => match x, y with
    | .int i, .int j => ofO (rngOf i j) μ
    | _, _ => .bad
end
/-- a fresh list as a cell -/
def pushF (f : Loc → Sto → Res D) : Loc → Sto → Res D := fun ρ μ => (f ρ μ).bind fun x μ => match x with
  | .rol l => .ok (.loc μ.length) (μ ++ [.lst l])
  | _ => .bad
/-- e ends as a Z-def does; cs: the numbers of the classes, as errT counts them -/
def tryF (ia ib ie : Nat) (cs : List Nat) (f : Loc → Sto → Res D) (ρ : Loc) (μ : Sto) : Res Out := (f ρ μ).bind fun r μ => match r with
  | .tup [.int (.ofNat 0), d] => .ok (.nx (ρ.set ia (some d))) μ
  | .tup [.int (.ofNat (n + 1)), d] => match cs[n]? with
    | some cl => .ok (.nx ((ρ.set ib (some (.exo cl [d]))).set ie none)) μ
    | none => .bad
  | _ => .bad
mutual
def ex (c : Call) (kw : Kwp) : S → Loc → Sto → Res Out
  | .set i e, ρ, μ => (ev c kw e ρ μ).bind fun x μ => .ok (.nx (ρ.set i (some x))) μ
  | .setL i e, ρ, μ => (pushF (fun ρ μ => ev c kw e ρ μ) ρ μ).bind fun x μ => .ok (.nx (ρ.set i (some x))) μ
  | .par i j a b, ρ, μ => (ev c kw a ρ μ).bind fun x μ => (ev c kw b ρ μ).bind fun y μ => .ok (.nx ((ρ.set i (some x)).set j (some y))) μ
  | .par3 i j l a b d, ρ, μ => (ev c kw a ρ μ).bind fun x μ => (ev c kw b ρ μ).bind fun y μ => (ev c kw d ρ μ).bind fun z μ => .ok (.nx (((ρ.set i (some x)).set j (some y)).set l (some z))) μ
  | .unp is e, ρ, μ => (ev c kw e ρ μ).bind fun x μ => match bindT (.tp is) x μ ρ with
    | some ρ' => .ok (.nx ρ') μ
    | none => .bad
  | .sset o i e, ρ, μ => (ev c kw e ρ μ).bind fun x μ => (ev c kw o ρ μ).bind fun y μ => (ev c kw i ρ μ).bind fun z μ => match ssetop y z x μ with
    | some μ' => .ok (.nx ρ) μ'
    | none => .bad
  | .expr e, ρ, μ => (ev c kw e ρ μ).bind fun _ μ => .ok (.nx ρ) μ
  | .ret e, ρ, μ => (ev c kw e ρ μ).bind fun x μ => .ok (.rt x) μ
  | .iff d a b, ρ, μ => (ev c kw d ρ μ).bind fun x μ => match x with
    | .bl true => exs c kw a ρ μ
    | .bl false => exs c kw b ρ μ
    | _ => .bad
  | .for t it body, ρ, μ => (evIt c kw it ρ μ).bind fun src μ => forN src t (fun ρ μ => exs c kw body ρ μ) src.fuel 0 ρ μ
  | .while d body, ρ, μ => whN (fun ρ μ => ev c kw d ρ μ) (fun ρ μ => exs c kw body ρ μ) 1000000 ρ μ
  | .tryz ia ib ie cs g es, ρ, μ => tryF ia ib ie cs (fun ρ μ => (evs c kw es ρ μ).bind fun xs μ => c g xs μ) ρ μ
  | .pass, ρ, μ => .ok (.nx ρ) μ
  | .brk, ρ, μ => .ok (.bk ρ) μ
  | .cnt, ρ, μ => .ok (.ct ρ) μ
  | .stuck, _, _ => .bad
def exs (c : Call) (kw : Kwp) : List S → Loc → Sto → Res Out
  | [], ρ, μ => .ok (.nx ρ) μ
  | s :: ss, ρ, μ => (ex c kw s ρ μ).bind fun o μ => match o with
    | .nx ρ => exs c kw ss ρ μ
    | .rt x => .ok (.rt x) μ
    | .bk ρ => .ok (.bk ρ) μ
    | .ct ρ => .ok (.ct ρ) μ
end

/-! what leaves a def: a value; what the def made is forgotten -/
/-- no place from n on -/
def lowD : Nat → Nat → D → Bool
  | 0, _, _ => false
  | _ + 1, _, .non => true
  | _ + 1, _, .bl _ => true
  | _ + 1, _, .int _ => true
  | _ + 1, _, .str _ => true
  | k + 1, n, .tup l => l.all (lowD k n)
  | k + 1, n, .rol l => l.all (lowD k n)
  | k + 1, n, .frl l => l.all (lowD k n)
  | k + 1, n, .dct l => l.all fun p => lowD k n p.2
  | _ + 1, _, .rng _ _ => true
  | k + 1, n, .exo _ l => l.all (lowD k n)
  | _ + 1, n, .loc i => decide (i < n)
def lowM (n : Nat) : Mo → Bool
  | .lst l => l.all (lowD 100 n)
  | .dic l => l.all fun p => lowD 100 n p.2
/-- the value without the places from n on -/
def frz (μ : Sto) (n : Nat) : Nat → D → Option D
  | 0, _ => none
  | _ + 1, .non => some .non
  | _ + 1, .bl b => some (.bl b)
  | _ + 1, .int i => some (.int i)
  | _ + 1, .str s => some (.str s)
  | k + 1, .tup l => (omap (frz μ n k) l).map .tup
  | k + 1, .rol l => (omap (frz μ n k) l).map .rol
  | k + 1, .frl l => (omap (frz μ n k) l).map .frl
  | k + 1, .dct l => (omap (fun p => (frz μ n k p.2).map fun x => (p.1, x)) l).map .dct
  | _ + 1, .rng i j => some (.rng i j)
  | k + 1, .exo c l => (omap (frz μ n k) l).map (.exo c)
  | k + 1, .loc i => if i < n then some (.loc i) else match μ[i]? with
    | some (.lst l) => (omap (frz μ n k) l).map .rol
    | some (.dic l) => (omap (fun p => (frz μ n k p.2).map fun x => (p.1, x)) l).map .dct
    | none => none
def Kept (μ μ' : Sto) : Prop := ∀ (k : Nat) (m : Mo), k < μ.length → μ'[k]? = some m → μ[k]? = some m ∨ lowM μ.length m = true
open Classical in
noncomputable def trim (μ : Sto) (d : D) (μ' : Sto) : Res D := if Kept μ μ' ∧ μ.length ≤ μ'.length then ofO (frz μ' μ.length 100 d) (μ'.take μ.length) else .bad
/-! defs -/
structure Fn where
  par : Nat
  slots : Nat
  body : List S
  tr : Bool
def enter (n : Nat) (ds : List D) : Loc := ds.map some ++ List.replicate (n - ds.length) none
noncomputable def runFn (c : Call) (kw : Kwp) (f : Fn) (ds : List D) (μ : Sto) : Res D := if ds.length = f.par then
    (exs c kw f.body (enter f.slots ds) μ).bind fun o μ' => match o with
      | .nx _ => if f.tr then trim μ .non μ' else .ok .non μ'
      | .rt x => if f.tr then trim μ x μ' else .ok x μ'
      | _ => .bad
  else .bad
noncomputable def run (fns : List (Nat × Fn)) (kw : Kwp) : Nat → Call
  | 0, _, _, _ => .bad
  | k + 1, f, ds, μ => match fns.lookup f with
    | some fn => runFn (run fns kw k) kw fn ds μ
    | none => .bad
end Ev

namespace Ev
open PySem PySem.Spec L2

/-! ### what is meant by a value, by the store -/
/-- the places of what can change; what is being made and not yet read -/
structure Ix where
  loc : List Addr
  hid : List Addr
def SqF (K : PySem.W.Frag) (H : Hp) (a : Addr) (xs : List V) : Prop :=
  (∃ o, H a = some (.frz o (.lst xs))) ∨
    ∃ (o : Obj) (its : Array Value) (n : Nat), K.lookup a = some o ∧ o.cls = .type "list" ∧ o.dict = none ∧ o.data = .seq its n ∧ its.size ≤ sizeLine ∧ Vals xs its.toList
theorem SqF.sq {K : PySem.W.Frag} {H : Hp} {a : Addr} {xs : List V} (h : SqF K H a xs) : SqL K H a xs := by
  rcases h with ⟨o, h⟩ | h
  · exact .inl (.inr ⟨o, h⟩)
  · exact .inr h
def SqR (H : Hp) (ι : Ix) (a : Addr) (xs : List V) : Prop := a ∉ ι.loc ∧ a ∉ ι.hid ∧ H a = some (.lst xs)
theorem SqR.sq {K : PySem.W.Frag} {H : Hp} {ι : Ix} {a : Addr} {xs : List V} (h : SqR H ι a xs) : SqL K H a xs := .inl (.inl h.2.2)
def DkR (H : Hp) (ι : Ix) (a : Addr) (ps : List (Key × V)) : Prop := a ∉ ι.loc ∧ a ∉ ι.hid ∧ H a = some (.dK ps)
def keyK : DKey → Key
  | .inl i => .inl i
  | .inr s => .inr ⟨s.toArray⟩
/-- the class of that number is at C -/
def ClsAt (K : PySem.W.Frag) (c : Nat) (C : Addr) : Prop := PySem.W.nsIn K mainGlobals (errN c) = some (some (.ref C))
/-- at a: an error of that class, with that dict, that nobody changes -/
def ExR (H : Hp) (ι : Ix) (a : Addr) (cls : Value) (d : Option Addr) : Prop := a ∉ ι.loc ∧ a ∉ ι.hid ∧ H a = some (ExH cls d a)
mutual
inductive Rel (K : PySem.W.Frag) (H : Hp) (ι : Ix) : D → V → Prop
  | non : Rel K H ι .non .non
  | bl (b : Bool) : Rel K H ι (.bl b) (.bl b)
  | int (i : Int) : Rel K H ι (.int i) (.int i)
  | str (s : List Nat) : Rel K H ι (.str s) (.str ⟨s.toArray⟩)
  | tup {l : List D} {a : Addr} {xs : List V} : SqT K H a xs → RelL K H ι l xs → Rel K H ι (.tup l) (.ref a)
  | rol {l : List D} {a : Addr} {xs : List V} : SqR H ι a xs → RelL K H ι l xs → Rel K H ι (.rol l) (.ref a)
  | frl {l : List D} {a : Addr} {xs : List V} : SqF K H a xs → RelL K H ι l xs → Rel K H ι (.frl l) (.ref a)
  | dct {l : List (DKey × D)} {a : Addr} {xs : List (Key × V)} : DkR H ι a xs → RelK K H ι l xs → Rel K H ι (.dct l) (.ref a)
  | rng {lo hi : Int} {a : Addr} : H a = some (.rng lo hi) → Rel K H ι (.rng lo hi) (.ref a)
  | exo {c : Nat} {a C : Addr} : ClsAt K c C → ExR H ι a (.ref C) none → Rel K H ι (.exo c []) (.ref a)
  | exo1 {c : Nat} {x : D} {v : V} {a C dd : Addr} : ClsAt K c C → ExR H ι a (.ref C) (some dd) → H dd = some (.xd [(errF c, v)]) → Rel K H ι x v → Rel K H ι (.exo c [x]) (.ref a)
  | loc {n : Nat} {a : Addr} : ι.loc[n]? = some a → Rel K H ι (.loc n) (.ref a)
inductive RelL (K : PySem.W.Frag) (H : Hp) (ι : Ix) : List D → List V → Prop
  | nil : RelL K H ι [] []
  | cons {d : D} {v : V} {ds : List D} {vs : List V} : Rel K H ι d v → RelL K H ι ds vs → RelL K H ι (d :: ds) (v :: vs)
inductive RelK (K : PySem.W.Frag) (H : Hp) (ι : Ix) : List (DKey × D) → List (Key × V) → Prop
  | nil : RelK K H ι [] []
  | cons {k : DKey} {d : D} {v : V} {ds : List (DKey × D)} {vs : List (Key × V)} : Rel K H ι d v → RelK K H ι ds vs → RelK K H ι ((k, d) :: ds) ((keyK k, v) :: vs)
end
/-- a list or dict at a is changed -/
def Chg : HO → Prop
  | .lst _ => True
  | .dK _ => True
  | .ext _ => True
  | _ => False
def MoOk (K : PySem.W.Frag) (H : Hp) (ι : Ix) (a : Addr) : Mo → Prop
  | .lst l => ∃ xs, H a = some (.lst xs) ∧ RelL K H ι l xs
  | .dic kvs => ∃ ps, H a = some (.dK ps) ∧ RelK K H ι kvs ps
structure StOk (K : PySem.W.Frag) (H : Hp) (ι : Ix) (μ : Sto) : Prop where
  len : ι.loc.length = μ.length
  nd : ι.loc.Nodup
  dj : ∀ a ∈ ι.loc, a ∉ ι.hid
  hd : ∀ a ∈ ι.hid, ∃ o, H a = some o ∧ Chg o
  ok : ∀ (n : Nat) (m : Mo), μ[n]? = some m → ∃ a, ι.loc[n]? = some a ∧ MoOk K H ι a m
/-- what was a value stays it -/
structure Ext (K : PySem.W.Frag) (ι : Ix) (H : Hp) (ι' : Ix) (H' : Hp) : Prop where
  pre : ι.loc <+: ι'.loc
  tup : ∀ a xs, SqT K H a xs → SqT K H' a xs
  rol : ∀ a xs, SqR H ι a xs → SqR H' ι' a xs
  frl : ∀ a xs, SqF K H a xs → SqF K H' a xs
  dct : ∀ a ps, DkR H ι a ps → DkR H' ι' a ps
  rng : ∀ a lo hi, H a = some (HO.rng lo hi) → H' a = some (HO.rng lo hi)
  exo : ∀ a cls d, ExR H ι a cls d → ExR H' ι' a cls d
  xd : ∀ a fs, H a = some (HO.xd fs) → H' a = some (HO.xd fs)
structure Grow (K : PySem.W.Frag) (ι : Ix) (H : Hp) (ι' : Ix) (H' : Hp) : Prop where
  ext : Ext K ι H ι' H'
  hid : ι'.hid = ι.hid
  hk : ∀ a ∈ ι.hid, ∀ o, H a = some o → H' a = some o
structure EnvOk (K : PySem.W.Frag) (H : Hp) (ι : Ix) (ρ : Loc) (σ : St) : Prop where
  len : ρ.length = σ.length
  get : ∀ (i : Nat) (d : D), ρ[i]? = some (some d) → ∃ v, σ[i]? = some (some v) ∧ Rel K H ι d v

section
variable {K : PySem.W.Frag} {ι ι' ι'' : Ix} {H H' H'' : Hp} {ρ : Loc} {σ : St} {μ : Sto}
theorem Ext.refl : Ext K ι H ι H := ⟨List.prefix_refl _, fun _ _ h => h, fun _ _ h => h, fun _ _ h => h, fun _ _ h => h, fun _ _ _ h => h, fun _ _ _ h => h, fun _ _ h => h⟩
theorem Ext.trans (g : Ext K ι H ι' H') (g' : Ext K ι' H' ι'' H'') : Ext K ι H ι'' H'' :=
  ⟨g.pre.trans g'.pre, fun a xs h => g'.tup a xs (g.tup a xs h), fun a xs h => g'.rol a xs (g.rol a xs h), fun a xs h => g'.frl a xs (g.frl a xs h), fun a xs h => g'.dct a xs (g.dct a xs h), fun a i j h => g'.rng a i j (g.rng a i j h), fun a i j h => g'.exo a i j (g.exo a i j h), fun a fs h => g'.xd a fs (g.xd a fs h)⟩
theorem Grow.refl : Grow K ι H ι H := ⟨Ext.refl, rfl, fun _ _ _ h => h⟩
theorem Grow.trans (g : Grow K ι H ι' H') (g' : Grow K ι' H' ι'' H'') : Grow K ι H ι'' H'' := ⟨g.ext.trans g'.ext, g'.hid.trans g.hid, fun a ha o h => g'.hk a (by rw [g.hid]; exact ha) o (g.hk a ha o h)⟩
theorem Grow.pre (g : Grow K ι H ι' H') : ι.loc <+: ι'.loc := g.ext.pre
theorem Grow.tup (g : Grow K ι H ι' H') : ∀ a xs, SqT K H a xs → SqT K H' a xs := g.ext.tup
theorem Grow.rol (g : Grow K ι H ι' H') : ∀ a xs, SqR H ι a xs → SqR H' ι' a xs := g.ext.rol
theorem pre_get {α : Type} {l l' : List α} (p : l <+: l') {n : Nat} {a : α} (h : l[n]? = some a) : l'[n]? = some a := by
  obtain ⟨r, rfl⟩ := p
  obtain ⟨hn, e⟩ := List.getElem?_eq_some_iff.mp h
  rw [List.getElem?_append_left hn]; exact h
mutual
theorem Rel.ext (g : Ext K ι H ι' H') : ∀ {d : D} {v : V}, Rel K H ι d v → Rel K H' ι' d v
  | _, _, .non => .non
  | _, _, .bl b => .bl b
  | _, _, .int i => .int i
  | _, _, .str s => .str s
  | _, _, .tup h r => .tup (g.tup _ _ h) (RelL.ext g r)
  | _, _, .rol h r => .rol (g.rol _ _ h) (RelL.ext g r)
  | _, _, .frl h r => .frl (g.frl _ _ h) (RelL.ext g r)
  | _, _, .dct h r => .dct (g.dct _ _ h) (RelK.ext g r)
  | _, _, .rng h => .rng (g.rng _ _ _ h)
  | _, _, .exo hc h => .exo hc (g.exo _ _ _ h)
  | _, _, .exo1 hc h hd r => .exo1 hc (g.exo _ _ _ h) (g.xd _ _ hd) (Rel.ext g r)
  | _, _, .loc h => .loc (pre_get g.pre h)
theorem RelL.ext (g : Ext K ι H ι' H') : ∀ {d : List D} {v : List V}, RelL K H ι d v → RelL K H' ι' d v
  | _, _, .nil => .nil
  | _, _, .cons r t => .cons (Rel.ext g r) (RelL.ext g t)
theorem RelK.ext (g : Ext K ι H ι' H') : ∀ {d : List (DKey × D)} {v : List (Key × V)}, RelK K H ι d v → RelK K H' ι' d v
  | _, _, .nil => .nil
  | _, _, .cons r t => .cons (Rel.ext g r) (RelK.ext g t)
end
theorem Rel.grow (g : Grow K ι H ι' H') {d : D} {v : V} (r : Rel K H ι d v) : Rel K H' ι' d v := r.ext g.ext
theorem RelL.grow (g : Grow K ι H ι' H') {d : List D} {v : List V} (r : RelL K H ι d v) : RelL K H' ι' d v := r.ext g.ext
theorem RelK.grow (g : Grow K ι H ι' H') {d : List (DKey × D)} {v : List (Key × V)} (r : RelK K H ι d v) : RelK K H' ι' d v := r.ext g.ext
theorem EnvOk.ext (e : EnvOk K H ι ρ σ) (g : Ext K ι H ι' H') : EnvOk K H' ι' ρ σ :=
  ⟨e.len, fun i d h => let ⟨v, h1, h2⟩ := e.get i d h; ⟨v, h1, h2.ext g⟩⟩
theorem EnvOk.grow (e : EnvOk K H ι ρ σ) (g : Grow K ι H ι' H') : EnvOk K H' ι' ρ σ := e.ext g.ext

theorem RelL.length : ∀ {ds : List D} {vs : List V}, RelL K H ι ds vs → ds.length = vs.length
  | _, _, .nil => rfl
  | _, _, .cons _ t => by simp [RelL.length t]
theorem RelL.get : ∀ {ds : List D} {vs : List V} {i : Nat} {d : D}, RelL K H ι ds vs → ds[i]? = some d → ∃ v, vs[i]? = some v ∧ Rel K H ι d v
  | _, _, _, _, .nil, h => by simp at h
  | _, _, 0, _, .cons r _, h => by simp at h; subst h; exact ⟨_, rfl, r⟩
  | _, _, i + 1, _, .cons _ t, h => by
    obtain ⟨v, h1, h2⟩ := RelL.get (i := i) t (by simpa using h)
    exact ⟨v, by simpa using h1, h2⟩
theorem RelL.append : ∀ {ds es : List D} {vs us : List V}, RelL K H ι ds vs → RelL K H ι es us → RelL K H ι (ds ++ es) (vs ++ us)
  | _, _, _, _, .nil, h => h
  | _, _, _, _, .cons r t, h => .cons r (RelL.append t h)
theorem RelL.take : ∀ {ds : List D} {vs : List V} (n : Nat), RelL K H ι ds vs → RelL K H ι (ds.take n) (vs.take n)
  | _, _, 0, _ => .nil
  | _, _, n + 1, .nil => .nil
  | _, _, n + 1, .cons r t => .cons r (RelL.take n t)
theorem RelL.drop : ∀ {ds : List D} {vs : List V} (n : Nat), RelL K H ι ds vs → RelL K H ι (ds.drop n) (vs.drop n)
  | _, _, 0, h => h
  | _, _, n + 1, .nil => .nil
  | _, _, n + 1, .cons r t => RelL.drop n t
theorem RelL.set : ∀ {ds : List D} {vs : List V} (n : Nat) {d : D} {v : V}, RelL K H ι ds vs → Rel K H ι d v → RelL K H ι (ds.set n d) (vs.set n v)
  | _, _, _, _, _, .nil, _ => .nil
  | _, _, 0, _, _, .cons _ t, q => .cons q t
  | _, _, n + 1, _, _, .cons r t, q => .cons r (RelL.set n t q)
theorem RelL.eraseIdx : ∀ {ds : List D} {vs : List V} (n : Nat), RelL K H ι ds vs → RelL K H ι (ds.eraseIdx n) (vs.eraseIdx n)
  | _, _, _, .nil => .nil
  | _, _, 0, .cons _ t => t
  | _, _, n + 1, .cons r t => .cons r (RelL.eraseIdx n t)
theorem RelL.reverse {ds : List D} {vs : List V} (h : RelL K H ι ds vs) : RelL K H ι ds.reverse vs.reverse := by
  induction ds generalizing vs with
  | nil => cases h; exact .nil
  | cons d ds ih =>
    cases h with
    | cons r t => rw [List.reverse_cons, List.reverse_cons]; exact (ih t).append (.cons r .nil)
theorem RelL.rep {ds : List D} {vs : List V} (h : RelL K H ι ds vs) : ∀ k : Nat, RelL K H ι (List.replicate k ds).flatten (List.replicate k vs).flatten
  | 0 => .nil
  | k + 1 => by rw [List.replicate_succ, List.replicate_succ, List.flatten_cons, List.flatten_cons]; exact h.append (RelL.rep h k)

/-! ### the heap grows, a list changes -/
theorem sqT_fresh {p a : Addr} {o : HO} {xs : List V} (hp : H p = none) (h : SqT K H a xs) : SqT K (upd H p o) a xs := by
  rcases h with (h | ⟨ob, h⟩) | h
  · exact .inl (.inl (by rw [upd_ne (ne_of_none h hp)]; exact h))
  · exact .inl (.inr ⟨ob, by rw [upd_ne (ne_of_none h hp)]; exact h⟩)
  · exact .inr h
theorem sqF_fresh {p a : Addr} {o : HO} {xs : List V} (hp : H p = none) (h : SqF K H a xs) : SqF K (upd H p o) a xs := by
  rcases h with ⟨ob, h⟩ | h
  · exact .inl ⟨ob, by rw [upd_ne (ne_of_none h hp)]; exact h⟩
  · exact .inr h
theorem sqR_fresh {p a : Addr} {o : HO} {xs : List V} (hp : H p = none) (hl : ∀ b, b ≠ p → (b ∉ ι.loc ∧ b ∉ ι.hid) → b ∉ ι'.loc ∧ b ∉ ι'.hid) (h : SqR H ι a xs) : SqR (upd H p o) ι' a xs := by
  obtain ⟨h1, h2, h3⟩ := h
  have hne := ne_of_none h3 hp
  obtain ⟨q1, q2⟩ := hl a hne ⟨h1, h2⟩
  exact ⟨q1, q2, by rw [upd_ne hne]; exact h3⟩
theorem dkR_fresh {p a : Addr} {o : HO} {ps : List (Key × V)} (hp : H p = none) (hl : ∀ b, b ≠ p → (b ∉ ι.loc ∧ b ∉ ι.hid) → b ∉ ι'.loc ∧ b ∉ ι'.hid) (h : DkR H ι a ps) : DkR (upd H p o) ι' a ps := by
  obtain ⟨h1, h2, h3⟩ := h
  have hne := ne_of_none h3 hp
  obtain ⟨q1, q2⟩ := hl a hne ⟨h1, h2⟩
  exact ⟨q1, q2, by rw [upd_ne hne]; exact h3⟩
theorem exR_fresh {p a : Addr} {o : HO} {cls : Value} {d : Option Addr} (hp : H p = none) (hl : ∀ b, b ≠ p → (b ∉ ι.loc ∧ b ∉ ι.hid) → b ∉ ι'.loc ∧ b ∉ ι'.hid) (h : ExR H ι a cls d) : ExR (upd H p o) ι' a cls d := by
  obtain ⟨h1, h2, h3⟩ := h
  have hne := ne_of_none h3 hp
  obtain ⟨q1, q2⟩ := hl a hne ⟨h1, h2⟩
  exact ⟨q1, q2, by rw [upd_ne hne]; exact h3⟩
theorem xd_fresh {p a : Addr} {o : HO} {fs : List (Str × V)} (hp : H p = none) (h : H a = some (HO.xd fs)) : L2.upd H p o a = some (HO.xd fs) := by
  rw [upd_ne (ne_of_none h hp)]; exact h
theorem rng_fresh {p a : Addr} {o : HO} {i j : Int} (hp : H p = none) (h : H a = some (HO.rng i j)) : L2.upd H p o a = some (HO.rng i j) := by
  rw [upd_ne (ne_of_none h hp)]; exact h
def Ix.push (ι : Ix) (p : Addr) : Ix := ⟨ι.loc ++ [p], ι.hid⟩
def Ix.hide (ι : Ix) (p : Addr) : Ix := ⟨ι.loc, p :: ι.hid⟩
def Ix.show (ι : Ix) : Ix := ⟨ι.loc, ι.hid.tail⟩
theorem push_at (S : ι.loc.length = μ.length) {p : Addr} : (ι.push p).loc[μ.length]? = some p := by rw [← S]; unfold Ix.push; simp
theorem Grow.fresh {p : Addr} {o : HO} (hp : H p = none) : Grow K ι H ι (upd H p o) := ⟨⟨List.prefix_refl _, fun _ _ h => sqT_fresh hp h, fun _ _ h => sqR_fresh hp (fun _ _ q => q) h, fun _ _ h => sqF_fresh hp h, fun _ _ h => dkR_fresh hp (fun _ _ q => q) h, fun _ _ _ h => rng_fresh hp h, fun _ _ _ h => exR_fresh hp (fun _ _ q => q) h, fun _ _ h => xd_fresh hp h⟩, rfl, fun a _ o h => by rw [upd_ne (ne_of_none h hp)]; exact h⟩
theorem push_no {p b : Addr} (hb : b ≠ p) (q : b ∉ ι.loc ∧ b ∉ ι.hid) : b ∉ (ι.push p).loc ∧ b ∉ (ι.push p).hid := by
  refine ⟨fun z => ?_, q.2⟩
  rcases List.mem_append.mp z with z | z
  · exact q.1 z
  · exact hb (List.mem_singleton.mp z)
theorem Grow.fresh1 {p : Addr} {o : HO} (hp : H p = none) : Grow K ι H (ι.push p) (upd H p o) := ⟨⟨List.prefix_append _ _, fun _ _ h => sqT_fresh hp h, fun _ _ h => sqR_fresh hp (fun _ => push_no) h, fun _ _ h => sqF_fresh hp h, fun _ _ h => dkR_fresh hp (fun _ => push_no) h, fun _ _ _ h => rng_fresh hp h, fun _ _ _ h => exR_fresh hp (fun _ => push_no) h, fun _ _ h => xd_fresh hp h⟩, rfl, fun a _ o h => by rw [upd_ne (ne_of_none h hp)]; exact h⟩
theorem Ext.hide {p : Addr} {o : HO} (hp : H p = none) : Ext K ι H (ι.hide p) (upd H p o) := by
  have no : ∀ b, b ≠ p → (b ∉ ι.loc ∧ b ∉ ι.hid) → b ∉ (ι.hide p).loc ∧ b ∉ (ι.hide p).hid := fun b hb q => ⟨q.1, fun z => by
    rcases List.mem_cons.mp z with z | z
    · exact hb z
    · exact q.2 z⟩
  exact ⟨List.prefix_refl _, fun _ _ h => sqT_fresh hp h, fun _ _ h => sqR_fresh hp no h, fun _ _ h => sqF_fresh hp h, fun _ _ h => dkR_fresh hp no h, fun _ _ _ h => rng_fresh hp h, fun _ _ _ h => exR_fresh hp no h, fun _ _ h => xd_fresh hp h⟩
theorem Ext.show : Ext K ι H ι.show H := by
  have no : ∀ b, b ∉ ι.hid → b ∉ ι.show.hid := fun b q z => q (List.mem_of_mem_tail z)
  exact ⟨List.prefix_refl _, fun _ _ h => h, fun a xs h => ⟨h.1, no _ h.2.1, h.2.2⟩, fun _ _ h => h, fun a ps h => ⟨h.1, no _ h.2.1, h.2.2⟩, fun _ _ _ h => h, fun a _ _ h => ⟨h.1, no _ h.2.1, h.2.2⟩, fun _ _ h => h⟩
theorem Ext.upd {a : Addr} {o o' : HO} (ha : H a = some o) (hm : Chg o) (hi : a ∈ ι.loc ∨ a ∈ ι.hid) : Ext K ι H ι (upd H a o') := by
  have ne : ∀ {b : Addr}, b ∉ ι.loc → b ∉ ι.hid → b ≠ a := fun h1 h2 e => by subst e; rcases hi with hi | hi; exact h1 hi; exact h2 hi
  refine ⟨List.prefix_refl _, fun b xs h => ?_, fun b xs h => ⟨h.1, h.2.1, by rw [upd_ne (ne h.1 h.2.1)]; exact h.2.2⟩, fun b xs h => ?_, fun b ps h => ⟨h.1, h.2.1, by rw [upd_ne (ne h.1 h.2.1)]; exact h.2.2⟩, fun b i j h => by rw [upd_ne (fun e => by subst e; rw [ha] at h; cases h; exact hm)]; exact h, fun b cls d h => ⟨h.1, h.2.1, by rw [upd_ne (ne h.1 h.2.1)]; exact h.2.2⟩, fun b fs h => by rw [upd_ne (fun e => by subst e; rw [ha] at h; cases h; exact hm)]; exact h⟩
  · rcases h with (h | ⟨ob, h⟩) | h
    · exact .inl (.inl (by rw [upd_ne (fun e => by subst e; rw [ha] at h; cases h; exact hm)]; exact h))
    · exact .inl (.inr ⟨ob, by rw [upd_ne (fun e => by subst e; rw [ha] at h; cases h; exact hm)]; exact h⟩)
    · exact .inr h
  · rcases h with ⟨ob, h⟩ | h
    · exact .inl ⟨ob, by rw [upd_ne (fun e => by subst e; rw [ha] at h; cases h; exact hm)]; exact h⟩
    · exact .inr h
theorem Grow.upd {a : Addr} {o o' : HO} (ha : H a = some o) (hm : Chg o) (hi : a ∈ ι.loc) (hn : a ∉ ι.hid) : Grow K ι H ι (L2.upd H a o') :=
  ⟨Ext.upd ha hm (.inl hi), rfl, fun b hb o h => by rw [upd_ne fun e => by subst e; exact hn hb]; exact h⟩
theorem MoOk.some {a : Addr} {m : Mo} (h : MoOk K H ι a m) : ∃ o, H a = Option.some o ∧ Chg o := by
  cases m with
  | lst l => obtain ⟨xs, h, _⟩ := h; exact ⟨_, h, trivial⟩
  | dic l => obtain ⟨xs, h, _⟩ := h; exact ⟨_, h, trivial⟩
theorem MoOk.move {a : Addr} {m : Mo} (h : MoOk K H ι a m) (g : Ext K ι H ι' H') (e : ∀ o, H a = Option.some o → H' a = Option.some o) : MoOk K H' ι' a m := by
  cases m with
  | lst l => obtain ⟨xs, h, r⟩ := h; exact ⟨xs, e _ h, r.ext g⟩
  | dic l => obtain ⟨xs, h, r⟩ := h; exact ⟨xs, e _ h, r.ext g⟩
theorem StOk.fresh {p : Addr} {o : HO} (s : StOk K H ι μ) (hp : H p = none) : StOk K (L2.upd H p o) ι μ :=
  ⟨s.len, s.nd, s.dj, fun a ha => by
    obtain ⟨o', h1, h2⟩ := s.hd a ha
    exact ⟨o', by rw [upd_ne (ne_of_none h1 hp)]; exact h1, h2⟩, fun n m h => by
    obtain ⟨a, h1, h2⟩ := s.ok n m h
    exact ⟨a, h1, h2.move (Grow.fresh hp).ext fun o q => by rw [upd_ne (ne_of_none q hp)]; exact q⟩⟩
theorem StOk.not_mem {p : Addr} (s : StOk K H ι μ) (hp : H p = none) : p ∉ ι.loc := fun hm => by
  obtain ⟨n, hn⟩ := List.mem_iff_getElem?.mp hm
  have hlt : n < μ.length := by rw [← s.len]; exact (List.getElem?_eq_some_iff.mp hn).1
  obtain ⟨a, h1, h2⟩ := s.ok n μ[n] (List.getElem?_eq_getElem hlt)
  rw [hn] at h1; cases h1
  obtain ⟨o, q, _⟩ := h2.some
  rw [hp] at q; cases q
theorem StOk.not_hid {p : Addr} (s : StOk K H ι μ) (hp : H p = none) : p ∉ ι.hid := fun hm => by
  obtain ⟨o, q, _⟩ := s.hd p hm
  rw [hp] at q; cases q
/-- one more thing -/
theorem StOk.push {p : Addr} {o : HO} {m : Mo} (s : StOk K H ι μ) (hp : H p = none) (hm : MoOk K (L2.upd H p o) (ι.push p) p m) : StOk K (L2.upd H p o) (ι.push p) (μ ++ [m]) := by
  refine ⟨by simp [s.len, Ix.push], ?_, fun a ha => ?_, fun a ha => ?_, fun n m' h => ?_⟩
  · show (ι.loc ++ [p]).Nodup
    rw [List.nodup_append]
    refine ⟨s.nd, by simp, fun a ha b hb => ?_⟩
    rw [List.mem_singleton] at hb
    subst hb
    intro e
    subst e
    exact s.not_mem hp ha
  · rcases List.mem_append.mp ha with ha | ha
    · exact s.dj a ha
    · rw [List.mem_singleton.mp ha]; exact s.not_hid hp
  · obtain ⟨o', h1, h2⟩ := s.hd a ha
    exact ⟨o', by rw [upd_ne (ne_of_none h1 hp)]; exact h1, h2⟩
  · by_cases hn : n < μ.length
    · rw [List.getElem?_append_left hn] at h
      obtain ⟨a, h1, h2⟩ := s.ok n m' h
      exact ⟨a, pre_get (List.prefix_append _ _) h1, h2.move (Grow.fresh1 hp).ext fun o q => by rw [upd_ne (ne_of_none q hp)]; exact q⟩
    · have hn' : n = μ.length := by
        have := (List.getElem?_eq_some_iff.mp h).1
        rw [List.length_append, List.length_singleton] at this; omega
      subst hn'
      rw [List.getElem?_append_right (Nat.le_refl _)] at h
      simp at h
      subst h
      exact ⟨p, push_at s.len, hm⟩
/-- a thing that is being made -/
theorem Grow.up {a : Addr} {o o' : HO} (s : StOk K H ι μ) {n : Nat} (hn : ι.loc[n]? = Option.some a) (ha : H a = Option.some o) (hm : Chg o) : Grow K ι H ι (L2.upd H a o') :=
  Grow.upd ha hm (List.mem_of_getElem? hn) (s.dj _ (List.mem_of_getElem? hn))
theorem StOk.hide {p : Addr} {o : HO} (s : StOk K H ι μ) (hp : H p = none) (ho : Chg o) : StOk K (L2.upd H p o) (ι.hide p) μ := by
  refine ⟨s.len, s.nd, fun a ha z => ?_, fun a ha => ?_, fun n m h => ?_⟩
  · rcases List.mem_cons.mp z with z | z
    · subst z; exact s.not_mem hp ha
    · exact s.dj a ha z
  · by_cases e : a = p
    · subst e; exact ⟨o, upd_same, ho⟩
    · rcases List.mem_cons.mp ha with z | z
      · exact absurd z e
      · obtain ⟨o', h1, h2⟩ := s.hd a z
        exact ⟨o', by rw [upd_ne e]; exact h1, h2⟩
  · obtain ⟨a, h1, h2⟩ := s.ok n m h
    exact ⟨a, h1, h2.move (Ext.hide hp) fun o q => by rw [upd_ne (ne_of_none q hp)]; exact q⟩
theorem StOk.show (s : StOk K H ι μ) : StOk K H ι.show μ :=
  ⟨s.len, s.nd, fun a ha z => s.dj a ha (List.mem_of_mem_tail z), fun a ha => s.hd a (List.mem_of_mem_tail ha), fun n m h => by
    obtain ⟨a, h1, h2⟩ := s.ok n m h
    exact ⟨a, h1, h2.move Ext.show fun o q => q⟩⟩
theorem StOk.grow_hid {a : Addr} {o : HO} (s : StOk K H ι μ) (ha : a ∈ ι.hid) (ho : Chg o) : StOk K (L2.upd H a o) ι μ := by
  obtain ⟨o1, q1, c1⟩ := s.hd a ha
  refine ⟨s.len, s.nd, s.dj, fun b hb => ?_, fun n m h => ?_⟩
  · by_cases e : b = a
    · subst e; exact ⟨o, upd_same, ho⟩
    · obtain ⟨o', h1, h2⟩ := s.hd b hb
      exact ⟨o', by rw [upd_ne e]; exact h1, h2⟩
  · obtain ⟨b, h1, h2⟩ := s.ok n m h
    refine ⟨b, h1, h2.move (Ext.upd q1 c1 (.inr ha)) fun o q => ?_⟩
    rw [upd_ne fun e => by subst e; exact s.dj _ (List.mem_of_getElem? h1) ha]; exact q
/-- a thing changes -/
theorem StOk.put {a : Addr} {n : Nat} {o : HO} {m m' : Mo} (s : StOk K H ι μ) (hn : μ[n]? = Option.some m) (ha : ι.loc[n]? = Option.some a) (hm : MoOk K (L2.upd H a o) ι a m') : StOk K (L2.upd H a o) ι (μ.set n m') := by
  refine ⟨by rw [List.length_set]; exact s.len, s.nd, s.dj, fun b hb => ?_, fun k x h => ?_⟩
  · obtain ⟨o', h1, h2⟩ := s.hd b hb
    exact ⟨o', by rw [upd_ne fun e => by subst e; exact s.dj _ (List.mem_of_getElem? ha) hb]; exact h1, h2⟩
  obtain ⟨b, hb, hb2⟩ := s.ok n m hn
  rw [ha] at hb; cases hb
  obtain ⟨oa, qa, ca⟩ := hb2.some
  by_cases hk : n = k
  · subst hk
    have hlt := (List.getElem?_eq_some_iff.mp hn).1
    rw [List.getElem?_set_self hlt] at h
    cases h
    exact ⟨a, ha, hm⟩
  · rw [List.getElem?_set_ne hk] at h
    obtain ⟨c, h1, h2⟩ := s.ok k x h
    refine ⟨c, h1, h2.move (Ext.upd qa ca (.inl (List.mem_of_getElem? ha))) fun o q => ?_⟩
    rw [upd_ne (fun e => ?_)]
    · exact q
    · subst e
      have i1 := (List.getElem?_eq_some_iff.mp ha)
      have i2 := (List.getElem?_eq_some_iff.mp h1)
      exact hk ((List.getElem_inj (h₀ := i1.1) (h₁ := i2.1) s.nd).mp (i1.2.trans i2.2.symm))
theorem StOk.lst {n : Nat} {l : List D} (s : StOk K H ι μ) (h : μ[n]? = Option.some (.lst l)) {a : Addr} (ha : ι.loc[n]? = Option.some a) : ∃ xs, H a = Option.some (.lst xs) ∧ RelL K H ι l xs := by
  obtain ⟨b, h1, h2⟩ := s.ok n _ h
  rw [ha] at h1; cases h1
  exact h2
/-- a new value list -/
theorem rol_new {l : List D} {xs : List V} {p : Addr} (s : StOk K H ι μ) (hp : H p = none) (r : RelL K H ι l xs) : Rel K (L2.upd H p (.lst xs)) ι (.rol l) (.ref p) :=
  .rol ⟨s.not_mem hp, s.not_hid hp, upd_same⟩ (r.grow (Grow.fresh hp))
theorem dct_new {l : List (DKey × D)} {xs : List (Key × V)} {p : Addr} (s : StOk K H ι μ) (hp : H p = none) (r : RelK K H ι l xs) : Rel K (L2.upd H p (.dK xs)) ι (.dct l) (.ref p) :=
  .dct ⟨s.not_mem hp, s.not_hid hp, upd_same⟩ (r.grow (Grow.fresh hp))
end

/-! ### readings by evaluation -/
/-- what follows a value -/
def Aft (K : PySem.W.Frag) (ι : Ix) (H : Hp) (Q : VK) (d : D) (μ : Sto) : Prop := ∀ ι' H' v, Grow K ι H ι' H' → StOk K H' ι' μ → Rel K H' ι' d v → Q v H'
def TV (K : PySem.W.Frag) (f : Loc → Sto → Res D) : TE := fun σ H Q => ∃ ι ρ μ d μ', EnvOk K H ι ρ σ ∧ StOk K H ι μ ∧ f ρ μ = .ok d μ' ∧ Aft K ι H Q d μ'
def TB (K : PySem.W.Frag) (f : Loc → Sto → Res D) : TT := fun σ H Q => ∃ ι ρ μ b μ', EnvOk K H ι ρ σ ∧ StOk K H ι μ ∧ f ρ μ = .ok (.bl b) μ' ∧ ∀ ι' H', Grow K ι H ι' H' → StOk K H' ι' μ' → Q b H'
def TL (K : PySem.W.Frag) (f : Loc → Sto → Res (List D)) : TA := fun σ H Q => ∃ ι ρ μ ds μ', EnvOk K H ι ρ σ ∧ StOk K H ι μ ∧ f ρ μ = .ok ds μ' ∧ ∀ ι' H' vs, Grow K ι H ι' H' → StOk K H' ι' μ' → RelL K H' ι' ds vs → Q vs H'
theorem Res.bind_ok {α β : Type} {r : Res α} {f : α → Sto → Res β} {b : β} {μ' : Sto} (h : r.bind f = .ok b μ') : ∃ a μ, r = .ok a μ ∧ f a μ = .ok b μ' := by
  cases r with
  | bad => cases h
  | err c xs μ => cases h
  | ok a μ => exact ⟨a, μ, rfl, h⟩
theorem ofO_ok {α : Type} {o : Option α} {μ μ' : Sto} {a : α} (h : ofO o μ = .ok a μ') : o = some a ∧ μ' = μ := by
  cases o with
  | none => cases h
  | some b => cases h; exact ⟨rfl, rfl⟩
section
variable {X : Cx} {e : Expr} {t t' : TE}
theorem peImp (h : PE X e t) (i : ∀ σ H Q, t' σ H Q → t σ H Q) : PE X e t' := ⟨fun pins s σ H Q I q => h.run pins s σ H Q I (i σ H Q q)⟩
theorem ptImp {t t' : TT} (h : PT X e t) (i : ∀ σ H Q, t' σ H Q → t σ H Q) : PT X e t' := ⟨fun pins s σ H Q I q => h.run pins s σ H Q I (i σ H Q q)⟩
theorem pwImp {t t' : TT} (h : PW X e t) (i : ∀ σ H Q, t' σ H Q → t σ H Q) : PW X e t' := ⟨fun w pins s σ H Q I q => h.run w pins s σ H Q I (i σ H Q q)⟩
theorem psImp {st : Stmt} {t t' : TS} (h : PS X st t) (i : ∀ D σ H, t' D σ H → t D σ H) : PS X st t' := ⟨fun pins s σ H D I q => h.run pins s σ H D I (i D σ H q)⟩
theorem pssImp {st : List Stmt} {t t' : TS} (h : PSs X st t) (i : ∀ D σ H, t' D σ H → t D σ H) : PSs X st t' := ⟨fun pins s σ H D I q => h.run pins s σ H D I (i D σ H q)⟩
end
/-- two in a row -/
theorem TV.two {K : PySem.W.Frag} {f g : Loc → Sto → Res D} {k : D → D → Sto → Res D} {σ : St} {H : Hp} {Q : VK} {R : V → V → Hp → Prop}
    (h : TV K (fun ρ μ => (f ρ μ).bind fun x μ => (g ρ μ).bind fun y μ => k x y μ) σ H Q)
    (hR : ∀ ι H μ x y d μ' u v, StOk K H ι μ → Rel K H ι x u → Rel K H ι y v → k x y μ = .ok d μ' → Aft K ι H Q d μ' → R u v H) :
    TV K f σ H fun u H1 => TV K g σ H1 fun v H2 => R u v H2 := by
  obtain ⟨ι, ρ, μ, d, μ', he, hs, hf, ha⟩ := h
  obtain ⟨x, μ1, h1, hf⟩ := Res.bind_ok hf
  obtain ⟨y, μ2, h2, hk⟩ := Res.bind_ok hf
  refine ⟨ι, ρ, μ, x, μ1, he, hs, h1, fun ι1 H1 u g1 s1 r1 => ?_⟩
  refine ⟨ι1, ρ, μ1, y, μ2, he.grow g1, s1, h2, fun ι2 H2 v g2 s2 r2 => ?_⟩
  exact hR ι2 H2 μ2 x y d μ' u v s2 (r1.grow g2) r2 hk fun ι3 H3 w g3 s3 r3 => ha ι3 H3 w ((g1.trans g2).trans g3) s3 r3
end Ev

namespace Ev
open PySem PySem.Spec L2

/-! ### a dict is no text, no tuple -/
abbrev DictAt (h : Heap) (a : Addr) : Prop := ∃ o es n, h.get? a = some o ∧ o.cls = Value.type "dict" ∧ o.data = Data.dict es n
open SeqAt AutoSeq1 MeetsSeq in
theorem dict_no_str (l : Addr) (dd : Option Addr) (es : Array DictEntry) (n : Nat) (sl : Array (Option Value)) (b : Str) (u : Tok) :
    Meets (Builtin.«dict.__eq__» ⟨[.ref l, .str b u], []⟩) (fun _ R s => s.heap.get? l = some { cls := .type "dict", dict := dd, data := .dict es n, slots := sl } ∧ R (.ok (.ret .notImplemented)) s) :=
  .of_wp fun prog w A R s h => by
    obtain ⟨hp, g, d, tk, os⟩ := s
    obtain ⟨hl, h⟩ := h
    have f1 := F.sub_str_dict
    wp_walk using wpAny_loadPart' hl
    exact ⟨_, rfl, h⟩
open SeqAt AutoSeq1 MeetsSeq in
theorem str_no_dict (l : Addr) (dd : Option Addr) (es : Array DictEntry) (n : Nat) (sl : Array (Option Value)) (b : Str) (u : Tok) :
    Meets (Builtin.«str.__eq__» ⟨[.str b u, .ref l], []⟩) (fun _ R s => s.heap.get? l = some { cls := .type "dict", dict := dd, data := .dict es n, slots := sl } ∧ R (.ok (.ret .notImplemented)) s) :=
  .of_wp fun prog w A R s h => by
    obtain ⟨hp, g, d, tk, os⟩ := s
    obtain ⟨hl, h⟩ := h
    wp_walk using wpAny_loadPart' hl, wpAny_load hl
    exact ⟨_, rfl, h⟩
open SeqAt AutoSeq1 MeetsSeq in
theorem dict_no_tuple (l t : Addr) (dd de : Option Addr) (es : Array DictEntry) (n : Nat) (sl sm : Array (Option Value)) (its : Array Value) (k : Nat) :
    Meets (Builtin.«dict.__eq__» ⟨[.ref l, .ref t], []⟩) (fun _ R s => s.heap.get? l = some { cls := .type "dict", dict := dd, data := .dict es n, slots := sl } ∧ s.heap.get? t = some { cls := .type "tuple", dict := de, data := .seq its k, slots := sm } ∧ R (.ok (.ret .notImplemented)) s) :=
  .of_wp fun prog w A R s h => by
    obtain ⟨hp, g, d, tk, os⟩ := s
    obtain ⟨hl, ht, h⟩ := h
    have f1 := F.sub_tuple_dict
    wp_walk using wpAny_loadPart' hl, wpAny_loadPart' ht
    exact ⟨_, rfl, h⟩
open SeqAt AutoSeq1 MeetsSeq in
theorem tuple_no_dict (l t : Addr) (dd de : Option Addr) (es : Array DictEntry) (n : Nat) (sl sm : Array (Option Value)) (its : Array Value) (k : Nat) :
    Meets (Builtin.«tuple.__eq__» ⟨[.ref t, .ref l], []⟩) (fun _ R s => s.heap.get? l = some { cls := .type "dict", dict := dd, data := .dict es n, slots := sl } ∧ s.heap.get? t = some { cls := .type "tuple", dict := de, data := .seq its k, slots := sm } ∧ R (.ok (.ret .notImplemented)) s) :=
  .of_wp fun prog w A R s h => by
    obtain ⟨hp, g, d, tk, os⟩ := s
    obtain ⟨hl, ht, h⟩ := h
    have f1 := F.sub_dict_tuple
    wp_walk using wpAny_loadPart' hl, wpAny_loadPart' ht
    exact ⟨_, rfl, h⟩
section
variable {A : Around} {s : Shared}
theorem rc_dict_str {l : Addr} (b : Str) (u : Tok) (hl : DictAt s.heap l) (hu : A.units < cLine) : SeqAt.RcAt A s (.ref l) (.str b u) false := fun prog w E Q h => by
  obtain ⟨⟨cls, dd, data, sl⟩, es, n, ho, hc, hd⟩ := hl
  simp only at hc hd
  subst hc hd
  refine SeqAt.rc_eq_decline_or (k := false) ⟨_, ho, rfl⟩ (typeIs_str s b u) (by decide) F.sub_str_dict F.slot_dict_eq F.slot_str_eq_refl ?_ ?_
    (fun _ hq => wpAny_of_eq (rfl : isSame (.ref l) (.str b u) = pure false) hq) (.inr hu) h
  · intro Q' hq
    exact call_meets F.slot_dict_eq ⟨_, ho, rfl⟩ F.entry_dict_eq (F.args_dict_eq_2 _ _) (dict_no_str l dd es n sl b u) ⟨ho, hq⟩
  · intro Q' hq
    exact call_meets F.slot_str_eq_refl (typeIs_str s b u) F.entry_str_eq (F.args_str_eq_2 _ _) (str_no_dict l dd es n sl b u) ⟨ho, hq⟩
theorem rc_str_dict {l : Addr} (b : Str) (u : Tok) (hl : DictAt s.heap l) (hu : A.units < cLine) : SeqAt.RcAt A s (.str b u) (.ref l) false := fun prog w E Q h => by
  obtain ⟨⟨cls, dd, data, sl⟩, es, n, ho, hc, hd⟩ := hl
  simp only at hc hd
  subst hc hd
  refine SeqAt.rc_eq_decline_or (k := false) (typeIs_str s b u) ⟨_, ho, rfl⟩ (by decide) F.sub_dict_str F.slot_str_eq F.slot_dict_eq_refl ?_ ?_
    (fun _ hq => wpAny_of_eq (rfl : isSame (.str b u) (.ref l) = pure false) hq) (.inr hu) h
  · intro Q' hq
    exact call_meets F.slot_str_eq (typeIs_str s b u) F.entry_str_eq (F.args_str_eq_2 _ _) (str_no_dict l dd es n sl b u) ⟨ho, hq⟩
  · intro Q' hq
    exact call_meets F.slot_dict_eq_refl ⟨_, ho, rfl⟩ F.entry_dict_eq (F.args_dict_eq_2 _ _) (dict_no_str l dd es n sl b u) ⟨ho, hq⟩
theorem eq_dict_str {l : Addr} (b : Str) (u : Tok) (hl : DictAt s.heap l) (hu : A.units < cLine) : SeqAt.EqAt A s (.ref l) (.str b u) false := fun prog w E Q h => by
  unfold eqBool
  exact wpAny_holding (wpAny_ite_split (fun hab => absurd (eq_of_beq hab) nofun) fun _ => wpAny_bind (rc_dict_str b u hl hu prog w E _ (wpAny_truthy_bool h)))
theorem eq_str_dict {l : Addr} (b : Str) (u : Tok) (hl : DictAt s.heap l) (hu : A.units < cLine) : SeqAt.EqAt A s (.str b u) (.ref l) false := fun prog w E Q h => by
  unfold eqBool
  exact wpAny_holding (wpAny_ite_split (fun hab => absurd (eq_of_beq hab) nofun) fun _ => wpAny_bind (rc_str_dict b u hl hu prog w E _ (wpAny_truthy_bool h)))
theorem dict_ne_tuple {l t : Addr} {its : Array Value} (hl : DictAt s.heap l) (ht : s.heap.IsTuple t its) : l ≠ t := fun e => by
  subst e
  obtain ⟨o, es, n, ho, hc, hd⟩ := hl
  obtain ⟨o2, ho2, hc2, _⟩ := ht
  rw [ho] at ho2
  cases ho2
  rw [hc] at hc2
  exact absurd hc2 (by simp)
theorem rc_dict_tuple {l t : Addr} {its : Array Value} (hl : DictAt s.heap l) (ht : s.heap.IsTuple t its) (hu : A.units < cLine) : SeqAt.RcAt A s (.ref l) (.ref t) false := fun prog w E Q h => by
  have hne := dict_ne_tuple hl ht
  obtain ⟨⟨cls, dd, data, sl⟩, es, n, ho, hc, hd⟩ := hl
  obtain ⟨⟨cls2, de, data2, sm⟩, ho2, hc2, k, hd2⟩ := id ht
  simp only at hc hd hc2 hd2
  subst hc hd hc2 hd2
  refine SeqAt.rc_eq_decline_or (k := false) ⟨_, ho, rfl⟩ ⟨_, ho2, rfl⟩ (by decide) F.sub_tuple_dict F.slot_dict_eq F.slot_tuple_eq_refl ?_ ?_
    (fun _ hq => wpAny_isSame_ref_other hne ho ho2 (by simp) hq) (.inr hu) h
  · intro Q' hq
    exact call_meets F.slot_dict_eq ⟨_, ho, rfl⟩ F.entry_dict_eq (F.args_dict_eq_2 _ _) (dict_no_tuple l t dd de es n sl sm its k) ⟨ho, ho2, hq⟩
  · intro Q' hq
    exact call_meets F.slot_tuple_eq_refl ⟨_, ho2, rfl⟩ F.entry_tuple_eq (F.args_tuple_eq_2 _ _) (tuple_no_dict l t dd de es n sl sm its k) ⟨ho, ho2, hq⟩
theorem eq_dict_tuple {l t : Addr} {its : Array Value} (hl : DictAt s.heap l) (ht : s.heap.IsTuple t its) (hu : A.units < cLine) : SeqAt.EqAt A s (.ref l) (.ref t) false := .of_refs (dict_ne_tuple hl ht) (rc_dict_tuple hl ht hu)
end
end Ev

namespace Ev
open PySem PySem.Spec L2

mutual
theorem plainP_eq : ∀ d : PyData, plainP d = d.plain
  | .none => by simp [plainP, PyData.plain]
  | .bool _ => by simp [plainP, PyData.plain]
  | .int _ => by simp [plainP, PyData.plain]
  | .str _ => by simp [plainP, PyData.plain]
  | .list xs => by simp [plainP, PyData.plain, plainPs_eq xs]
  | .tuple xs => by simp [plainP, PyData.plain, plainPs_eq xs]
  | .dict _ => by simp [plainP, PyData.plain]
theorem plainPs_eq : ∀ d : List PyData, plainPs d = PyData.plainAll d
  | [] => by simp [plainPs, PyData.plainAll]
  | x :: xs => by simp [plainPs, PyData.plainAll, plainP_eq x, plainPs_eq xs]
end
theorem dict_of {h : Heap} {v : Value} {kvs : List (PyData × PyData)} {as : List Addr} (r : Reads h v (.dict kvs) as) : ∃ l, v = .ref l ∧ DictAt h l := by
  cases r with
  | dict h1 h2 h3 _ _ => exact ⟨_, rfl, _, _, _, h1, h2, h3⟩
/-- the same value, told twice -/
theorem eqL_of {xs ys : List PyData} {r : Bool} (h : eqd (.tuple xs) (.tuple ys) = some r) : eqdL xs ys = some r := by simpa [eqd] using h
mutual
theorem eqd_self {h : Heap} : ∀ (d d' : PyData) (v : Value) (as as' : List Addr) (r : Bool), Reads h v d as → Reads h v d' as' → eqd d d' = some r → r = true
  | .tuple xs, d', v, as, as', r, h1, h2, e => by
    cases h1 with
    | tuple a1 a2 a3 a4 =>
      cases h2 with
      | tuple b1 b2 b3 b4 =>
        rw [a1] at b1; cases b1
        rw [a3] at b3; cases b3
        exact eqdL_self xs _ _ _ _ r a4 b4 (eqL_of e)
      | list b1 b2 b3 b4 => rw [a1] at b1; cases b1; rw [a2] at b2; exact absurd b2 (by simp)
      | dict b1 b2 b3 b4 b5 => rw [a1] at b1; cases b1; rw [a2] at b2; exact absurd b2 (by simp)
  | .str s, d', v, as, as', r, h1, h2, e => by
    cases h1
    cases h2
    simp [eqd, PyData.eqv] at e
    exact e
  | .none, d', v, as, as', r, h1, h2, e => by
    cases h1; cases h2
    simp [eqd, PyData.eqv, plainP] at e
    exact e
  | .bool s, d', v, as, as', r, h1, h2, e => by
    cases h1; cases h2
    simp [eqd, PyData.eqv, plainP] at e
    exact e
  | .int s, d', v, as, as', r, h1, h2, e => by
    cases h1; cases h2
    simp [eqd, PyData.eqv, plainP] at e
    exact e
  | .list xs, d', v, as, as', r, h1, h2, e => by
    cases h1 with
    | list a1 a2 a3 a4 =>
      cases h2 with
      | tuple b1 b2 b3 b4 => rw [a1] at b1; cases b1; rw [a2] at b2; exact absurd b2 (by simp)
      | dict b1 b2 b3 b4 b5 => rw [a1] at b1; cases b1; rw [a2] at b2; exact absurd b2 (by simp)
      | list b1 b2 b3 b4 =>
        simp only [eqd] at e
        split at e
        · rename_i hp
          rw [plainP_eq, plainP_eq, Bool.and_eq_true] at hp
          have q := SeqAt.plain_unique _ _ _ _ _ hp.1 (.list a1 a2 a3 a4) (.list b1 b2 b3 b4)
          rw [← q, SeqAt.eqv_refl_plain _ hp.1] at e
          exact (Option.some.inj e).symm
        · cases e
  | .dict k, d', v, as, as', r, h1, h2, e => by
    cases h1 with
    | dict a1 a2 a3 a4 a5 =>
      cases h2 with
      | tuple b1 b2 b3 b4 => rw [a1] at b1; cases b1; rw [a2] at b2; exact absurd b2 (by simp)
      | list b1 b2 b3 b4 => rw [a1] at b1; cases b1; rw [a2] at b2; exact absurd b2 (by simp)
      | dict b1 b2 b3 b4 b5 => simp [eqd, plainP] at e
theorem eqdL_self {h : Heap} : ∀ (d d' : List PyData) (v : List Value) (as as' : List Addr) (r : Bool), ReadsAll h v d as → ReadsAll h v d' as' → eqdL d d' = some r → r = true
  | [], d', v, as, as', r, h1, h2, e => by
    cases h1; cases h2
    simp [eqdL] at e
    exact e
  | x :: xs, d', v, as, as', r, h1, h2, e => by
    cases h1 with
    | cons p q =>
      cases h2 with
      | cons p' q' =>
        simp only [eqdL] at e
        split at e
        · rename_i a b ha hb
          have i1 := eqd_self x _ _ _ _ a p p' ha
          have i2 := eqdL_self xs _ _ _ _ b q q' hb
          subst i1 i2
          exact (Option.some.inj e).symm
        · cases e
end
def pairE : List PyData → List PyData → Nat → Bool
  | x :: _, y :: _, 0 => (eqd x y).getD false
  | _ :: xs, _ :: ys, n + 1 => pairE xs ys n
  | _, _, _ => false
theorem eqdL_eq : ∀ (xs ys : List PyData) (r : Bool), eqdL xs ys = some r → r = ((List.range (min xs.length ys.length)).all (pairE xs ys) && xs.length == ys.length)
  | [], [], r, h => by simp [eqdL] at h; simp [h]
  | [], _ :: _, r, h => by simp [eqdL] at h; simp [h]
  | _ :: _, [], r, h => by simp [eqdL] at h; simp [h]
  | x :: xs, y :: ys, r, h => by
    simp only [eqdL] at h
    split at h
    · rename_i a b ha hb
      have ih := eqdL_eq xs ys b hb
      cases h
      rw [ih, List.length_cons, List.length_cons, Nat.add_min_add_right, List.range_succ_eq_map, List.all_cons]
      have e0 : pairE (x :: xs) (y :: ys) 0 = a := by simp [pairE, ha]
      have e1 : (List.map Nat.succ (List.range (min xs.length ys.length))).all (pairE (x :: xs) (y :: ys)) = (List.range (min xs.length ys.length)).all (pairE xs ys) := by
        rw [List.all_map]; rfl
      rw [e0, e1]
      cases a <;> simp
    · cases h
mutual
theorem eqd_at : ∀ (da db : PyData) (A : Around) (s : Shared) (a b : Value) (as bs : List Addr) (r : Bool), Reads s.heap a da as → Reads s.heap b db bs → eqd da db = some r → A.units + min da.depth db.depth < cLine → SeqAt.EqAt A s a b r
  | .tuple xs, db, A, s, a, b, as, bs, r, ra, rb, e, hu => by
    cases ra with
    | @tuple l o vs n _ as₁ h1 h2 h3 h4 =>
      have hl : s.heap.IsTuple l vs := ⟨_, h1, h2, _, h3⟩
      have hu0 : A.units < cLine := by omega
      cases rb with
      | none => simp [eqd, PyData.eqv] at e; rw [e.2]; exact SeqAt.EqAt.tuple_none hl hu0
      | bool y => simp [eqd, PyData.eqv] at e; rw [e.2]; exact SeqAt.EqAt.tuple_bool y hl hu0
      | int y u => simp [eqd, PyData.eqv] at e; rw [e.2]; exact SeqAt.EqAt.tuple_int y u hl hu0
      | str y u => simp [eqd, PyData.eqv] at e; rw [e]; exact SeqAt.EqAt.tuple_str y u hl hu0
      | list k1 k2 k3 k4 => simp [eqd, PyData.eqv] at e; rw [e.2]; exact SeqAt.EqAt.tuple_list hl ⟨_, k1, k2, _, k3⟩ hu0
      | dict => simp [eqd, plainP] at e
      | @tuple l' o' vs' n' ys bs₁ k1 k2 k3 k4 =>
        have hl' : s.heap.IsTuple l' vs' := ⟨_, k1, k2, _, k3⟩
        have n1 : vs.size = xs.length := by simpa using SeqAt.ReadsAll.length _ _ _ h4
        have n2 : vs'.size = ys.length := by simpa using SeqAt.ReadsAll.length _ _ _ k4
        have e' := eqL_of e
        by_cases hll : l = l'
        · subst hll
          have := eqd_self (.tuple xs) (.tuple ys) _ _ _ r (.tuple h1 h2 h3 h4) (.tuple k1 k2 k3 k4) e
          subst this
          exact SeqAt.EqAt.same _
        · have er := eqdL_eq xs ys r e'
          rw [er, ← n1, ← n2]
          have hu1 : A.in1.units + min (PyData.depthAll xs) (PyData.depthAll ys) < cLine := by
            simp only [PyData.depth] at hu
            show A.units + 1 + _ < _
            omega
          refine SeqAt.EqAt.of_refs hll (SeqAt.RcAt.tuples hl hl' hu0 fun j j1 j2 => ?_)
          have := eqd_atAll xs ys A.in1 s vs.toList vs'.toList _ _ r h4 k4 e' hu1 j (by simpa using j1) (by simpa using j2)
          simpa using this
  | .str x, db, A, s, a, b, as, bs, r, ra, rb, e, hu => by
    have hu0 : A.units < cLine := by omega
    cases ra with
    | str _ t =>
      cases rb with
      | none => simp [eqd, PyData.eqv] at e; rw [e]; exact SeqAt.EqAt.str_none x t
      | bool y => simp [eqd, PyData.eqv] at e; rw [e]; exact SeqAt.EqAt.str_bool x t y
      | int y u => simp [eqd, PyData.eqv] at e; rw [e]; exact SeqAt.EqAt.str_int x t y u
      | str y u => simp only [eqd, PyData.eqv, Option.some.injEq] at e; rw [← e]; exact SeqAt.EqAt.str_str x t y u
      | list k1 k2 k3 k4 => simp [eqd, PyData.eqv] at e; rw [e]; exact SeqAt.EqAt.str_list x t ⟨_, k1, k2, _, k3⟩ hu0
      | tuple k1 k2 k3 k4 => simp [eqd, PyData.eqv] at e; rw [e]; exact SeqAt.EqAt.str_tuple x t ⟨_, k1, k2, _, k3⟩ hu0
      | dict k1 k2 k3 k4 k5 => simp [eqd, PyData.eqv] at e; rw [e]; exact eq_str_dict x t ⟨_, _, _, k1, k2, k3⟩ hu0
  | .none, db, A, s, a, b, as, bs, r, ra, rb, e, hu => by
    by_cases hd : db.plain = true
    · have : r = PyData.eqv .none db := by
        cases db <;> simp_all [eqd, plainP, plainPs_eq, PyData.plain, PyData.eqv]
      rw [this]
      exact SeqAt.eqAt_plain _ _ A s a b _ _ ra rb rfl hd hu
    · cases db <;> simp_all [eqd, plainP, plainPs_eq, PyData.plain]
  | .bool x, db, A, s, a, b, as, bs, r, ra, rb, e, hu => by
    by_cases hd : db.plain = true
    · have : r = PyData.eqv (.bool x) db := by
        cases db <;> simp_all [eqd, plainP, plainPs_eq, PyData.plain, PyData.eqv]
      rw [this]
      exact SeqAt.eqAt_plain _ _ A s a b _ _ ra rb rfl hd hu
    · cases db <;> simp_all [eqd, plainP, plainPs_eq, PyData.plain]
  | .int x, db, A, s, a, b, as, bs, r, ra, rb, e, hu => by
    by_cases hd : db.plain = true
    · have : r = PyData.eqv (.int x) db := by
        cases db <;> simp_all [eqd, plainP, plainPs_eq, PyData.plain, PyData.eqv]
      rw [this]
      exact SeqAt.eqAt_plain _ _ A s a b _ _ ra rb rfl hd hu
    · cases db <;> simp_all [eqd, plainP, plainPs_eq, PyData.plain]
  | .list xs, db, A, s, a, b, as, bs, r, ra, rb, e, hu => by
    have hu0 : A.units < cLine := by omega
    cases rb with
    | str y u =>
      cases ra with
      | list h1 h2 h3 h4 => simp [eqd, PyData.eqv] at e; rw [e]; exact SeqAt.EqAt.list_str y u ⟨_, h1, h2, _, h3⟩ hu0
    | tuple k1 k2 k3 k4 =>
      cases ra with
      | list h1 h2 h3 h4 => simp [eqd, PyData.eqv] at e; rw [e]; exact SeqAt.EqAt.list_tuple ⟨_, h1, h2, _, h3⟩ ⟨_, k1, k2, _, k3⟩ hu0
    | dict k1 k2 k3 k4 k5 => simp [eqd, plainP] at e
    | none =>
      simp only [eqd, plainP_eq] at e
      split at e
      · rename_i hp
        rw [Bool.and_eq_true] at hp
        rw [← Option.some.inj e]; exact SeqAt.eqAt_plain _ _ A s a _ _ _ ra .none hp.1 hp.2 hu
      · cases e
    | bool y =>
      simp only [eqd, plainP_eq] at e
      split at e
      · rename_i hp
        rw [Bool.and_eq_true] at hp
        rw [← Option.some.inj e]; exact SeqAt.eqAt_plain _ _ A s a _ _ _ ra (.bool y) hp.1 hp.2 hu
      · cases e
    | int y t =>
      simp only [eqd, plainP_eq] at e
      split at e
      · rename_i hp
        rw [Bool.and_eq_true] at hp
        rw [← Option.some.inj e]; exact SeqAt.eqAt_plain _ _ A s a _ _ _ ra (.int y t) hp.1 hp.2 hu
      · cases e
    | list k1 k2 k3 k4 =>
      simp only [eqd, plainP_eq] at e
      split at e
      · rename_i hp
        rw [Bool.and_eq_true] at hp
        rw [← Option.some.inj e]; exact SeqAt.eqAt_plain _ _ A s a _ _ _ ra (.list k1 k2 k3 k4) hp.1 hp.2 hu
      · cases e
  | .dict k, db, A, s, a, b, as, bs, r, ra, rb, e, hu => by
    have hu0 : A.units < cLine := by omega
    obtain ⟨l, rfl, hl⟩ := dict_of ra
    cases rb with
    | str y u => simp [eqd, PyData.eqv] at e; rw [e]; exact eq_dict_str y u hl hu0
    | tuple k1 k2 k3 k4 => simp [eqd] at e; rw [e]; exact eq_dict_tuple hl ⟨_, k1, k2, _, k3⟩ hu0
    | none => simp [eqd, plainP] at e
    | bool y => simp [eqd, plainP] at e
    | int y t => simp [eqd, plainP] at e
    | list k1 k2 k3 k4 => simp [eqd, plainP] at e
    | dict k1 k2 k3 k4 k5 => simp [eqd, plainP] at e
theorem eqd_atAll : ∀ (xs ys : List PyData) (A : Around) (s : Shared) (vs ws : List Value) (as bs : List Addr) (r : Bool), ReadsAll s.heap vs xs as → ReadsAll s.heap ws ys bs → eqdL xs ys = some r →
    A.units + min (PyData.depthAll xs) (PyData.depthAll ys) < cLine → ∀ j (h1 : j < vs.length) (h2 : j < ws.length), SeqAt.EqAt A s vs[j] ws[j] (pairE xs ys j)
  | [], _, _, _, _, _, _, _, _, ra, _, _, _, j, h1, _ => by cases ra; exact absurd h1 (Nat.not_lt_zero _)
  | _ :: _, [], _, _, _, _, _, _, _, _, rb, _, _, j, _, h2 => by cases rb; exact absurd h2 (Nat.not_lt_zero _)
  | x :: xs, y :: ys, A, s, _, _, _, _, r, ra, rb, e, hu, j, h1, h2 => by
    simp only [PyData.depthAll] at hu
    simp only [eqdL] at e
    split at e
    · rename_i a b ha hb
      cases ra with
      | cons p q =>
        cases rb with
        | cons p' q' =>
          cases j with
          | zero =>
            have : pairE (x :: xs) (y :: ys) 0 = a := by simp [pairE, ha]
            rw [this]
            exact eqd_at x y A s _ _ _ _ a p p' ha (by omega)
          | succ j => exact eqd_atAll xs ys A s _ _ _ _ b q q' hb (by omega) j (Nat.lt_of_succ_lt_succ h1) (Nat.lt_of_succ_lt_succ h2)
    · cases e
end
end Ev

namespace Ev
open PySem PySem.Spec L2

mutual
inductive Rz (h : Heap) : Value → PyData → Prop
  | non : Rz h .none .none
  | bool (b : Bool) : Rz h (.bool b) (.bool b)
  | int (i : Int) (t : Tok) : Rz h (.int i t) (.int i)
  | str (x : Str) (t : Tok) : Rz h (.str x t) (.str x)
  | list {a : Addr} {o : Obj} {vs : List Value} {n : Nat} {xs : List PyData} : h.get? a = some o → o.cls = .type "list" → o.data = .seq vs.toArray n → RzL h vs xs → Rz h (.ref a) (.list xs)
  | tup {a : Addr} {o : Obj} {vs : List Value} {n : Nat} {xs : List PyData} : h.get? a = some o → o.cls = .type "tuple" → o.data = .seq vs.toArray n → RzL h vs xs → Rz h (.ref a) (.tuple xs)
  | dict {a : Addr} {o : Obj} {es : List DictEntry} {n : Nat} {kvs : List (PyData × PyData)} : h.get? a = some o → o.cls = .type "dict" → o.data = .dict es.toArray n → (a == sysModules) = false → RzE h es kvs → Rz h (.ref a) (.dict kvs)
inductive RzL (h : Heap) : List Value → List PyData → Prop
  | nil : RzL h [] []
  | cons {v : Value} {d : PyData} {vs : List Value} {ds : List PyData} : Rz h v d → RzL h vs ds → RzL h (v :: vs) (d :: ds)
inductive RzE (h : Heap) : List DictEntry → List (PyData × PyData) → Prop
  | nil : RzE h [] []
  | cons {e : DictEntry} {k v : PyData} {es : List DictEntry} {ds : List (PyData × PyData)} : Rz h e.key k → Rz h e.val v → RzE h es ds → RzE h (e :: es) ((k, v) :: ds)
end
mutual
theorem Rz.reads {h : Heap} : ∀ {v : Value} {d : PyData}, Rz h v d → ∃ as, Reads h v d as
  | _, _, .non => ⟨_, .none⟩
  | _, _, .bool b => ⟨_, .bool b⟩
  | _, _, .int i t => ⟨_, .int i t⟩
  | _, _, .str x t => ⟨_, .str x t⟩
  | _, _, .list h1 h2 h3 h4 => let ⟨_, r⟩ := RzL.reads h4; ⟨_, .list h1 h2 h3 r⟩
  | _, _, .tup h1 h2 h3 h4 => let ⟨_, r⟩ := RzL.reads h4; ⟨_, .tuple h1 h2 h3 r⟩
  | _, _, .dict h1 h2 h3 _ h5 => let ⟨_, _, r, q⟩ := RzE.reads h5; ⟨_, .dict h1 h2 h3 r q⟩
theorem RzL.reads {h : Heap} : ∀ {v : List Value} {d : List PyData}, RzL h v d → ∃ as, ReadsAll h v d as
  | _, _, .nil => ⟨_, .nil⟩
  | _, _, .cons r t => let ⟨_, a⟩ := Rz.reads r; let ⟨_, b⟩ := RzL.reads t; ⟨_, .cons a b⟩
theorem RzE.reads {h : Heap} : ∀ {es : List DictEntry} {kvs : List (PyData × PyData)}, RzE h es kvs → ∃ as bs, ReadsAll h (es.map (·.key)) (kvs.map (·.1)) as ∧ ReadsAll h (es.map (·.val)) (kvs.map (·.2)) bs
  | _, _, .nil => ⟨_, _, .nil, .nil⟩
  | _, _, .cons r q t => by
    obtain ⟨_, a⟩ := Rz.reads r
    obtain ⟨_, b⟩ := Rz.reads q
    obtain ⟨_, _, x, y⟩ := RzE.reads t
    exact ⟨_, _, .cons a x, .cons b y⟩
end
section
variable {prog : Program} {w : World} {h : Heap}
theorem entK {as as' : List Addr} {d d' : Nat} (hsub : ∀ b ∈ as, b ∈ as') (hd : d ≤ d') : ∀ {es : List DictEntry} {ps : List Str}, ReprEntriesK prog w as h d es ps → ReprEntriesK prog w as' h d' es ps
  | _, _, .nil => .nil
  | _, _, .cons a b t => .cons ((a.more hsub).level_le hd) ((b.more hsub).level_le hd) (entK hsub hd t)
mutual
theorem Rz.repr : ∀ {v : Value} {d : PyData}, Rz h v d → d.showable = true → d.shown.length ≤ sizeLine → ∃ bs, ReadAtMost h d.depth bs ∧ ReprK prog w bs h d.depth v d.shown
  | _, _, .non, _, _ => ⟨[], nofun, by rw [PyData.shown]; exact ReprK.of_is ReprIs.none _ _ _⟩
  | _, _, .bool b, _, _ => ⟨[], nofun, by rw [PyData.shown]; exact ReprK.of_is (ReprIs.bool b) _ _ _⟩
  | _, _, .int i t, hs, _ => ⟨[], nofun, by rw [PyData.shown]; exact ReprK.of_is (ReprIs.int t (by rw [PyData.showable] at hs; exact of_decide_eq_true hs)) _ _ _⟩
  | _, _, .str x t, _, hz => ⟨[], nofun, by rw [PyData.shown] at hz ⊢; exact ReprK.of_is (ReprIs.str x t hz) _ _ _⟩
  | _, _, .list (a := a) (vs := vs) (xs := xs) h1 h2 h3 h4, hs, hz => by
    rw [PyData.shown] at hz ⊢
    rw [PyData.showable] at hs
    obtain ⟨bs, hb, hk⟩ := RzL.repr h4 hs (fun t ht => Nat.le_trans (listText_mem_le ht) hz)
    obtain ⟨_, rr⟩ := (Rz.list h1 h2 h3 h4).reads
    have hna : a ∉ bs := not_mem_of_deeper rr (by rw [PyData.depth]; omega) hb
    rw [PyData.depth]
    refine ⟨a :: bs, by have q := ReadAtMost.cons rr (by rw [PyData.depth]; omega) hb; rw [PyData.depth] at q; exact q, ?_⟩
    cases h4 with
    | nil =>
      rw [PyData.shownAll, listText_nil]
      exact ReprK.listEmpty h1 h2 h3
    | cons r t => exact ReprK.list h1 h2 h3 hna (by simpa using hk.length_eq) (fun i y e => hk.item i y (by simpa using e))
  | _, _, .tup (a := a) (vs := vs) (xs := xs) h1 h2 h3 h4, hs, hz => by
    rw [PyData.shown] at hz ⊢
    rw [PyData.showable] at hs
    obtain ⟨bs, hb, hk⟩ := RzL.repr h4 hs (fun t ht => Nat.le_trans (tupleText_mem_le ht) hz)
    obtain ⟨_, rr⟩ := (Rz.tup h1 h2 h3 h4).reads
    have hna : a ∉ bs := not_mem_of_deeper rr (by rw [PyData.depth]; omega) hb
    rw [PyData.depth]
    exact ⟨a :: bs, by have q := ReadAtMost.cons rr (by rw [PyData.depth]; omega) hb; rw [PyData.depth] at q; exact q, ReprK.tuple h1 h2 h3 hna hk⟩
  | _, _, .dict (a := a) (es := es) (kvs := kvs) h1 h2 h3 h4 h5, hs, hz => by
    rw [PyData.shown] at hz ⊢
    rw [PyData.showable] at hs
    obtain ⟨bs, hb, hk⟩ := RzE.repr h5 hs (fun t ht => Nat.le_trans (dictText_mem_le ht) hz)
    obtain ⟨_, rr⟩ := (Rz.dict h1 h2 h3 h4 h5).reads
    have hna : a ∉ bs := not_mem_of_deeper rr (by rw [PyData.depth]; omega) hb
    rw [PyData.depth]
    exact ⟨a :: bs, by have q := ReadAtMost.cons rr (by rw [PyData.depth]; omega) hb; rw [PyData.depth] at q; exact q, ReprK.dict h1 h2 h3 h4 hna hk⟩
theorem RzL.repr : ∀ {v : List Value} {d : List PyData}, RzL h v d → PyData.showableAll d = true → (∀ t ∈ PyData.shownAll d, t.length ≤ sizeLine) → ∃ bs, ReadAtMost h (PyData.depthAll d) bs ∧ ReprAllK prog w bs h (PyData.depthAll d) v (PyData.shownAll d)
  | _, _, .nil, _, _ => ⟨[], nofun, by rw [PyData.shownAll]; exact .nil⟩
  | _, _, .cons (d := d) (ds := ds) r t, hs, hz => by
    rw [PyData.showableAll, Bool.and_eq_true] at hs
    rw [PyData.shownAll] at hz ⊢
    rw [PyData.depthAll]
    obtain ⟨b1, q1, k1⟩ := Rz.repr r hs.1 (hz _ List.mem_cons_self)
    obtain ⟨b2, q2, k2⟩ := RzL.repr t hs.2 (fun y hy => hz y (List.mem_cons_of_mem _ hy))
    refine ⟨b1 ++ b2, (q1.mono (Nat.le_max_left _ _)).append (q2.mono (Nat.le_max_right _ _)), ?_⟩
    exact .cons ((k1.more fun b hb => List.mem_append_left _ hb).level_le (Nat.le_max_left _ _)) (k2.more_le (fun b hb => List.mem_append_right _ hb) (Nat.le_max_right _ _))
theorem RzE.repr : ∀ {v : List DictEntry} {d : List (PyData × PyData)}, RzE h v d → PyData.showableKv d = true → (∀ t ∈ PyData.shownKv d, t.length ≤ sizeLine) → ∃ bs, ReadAtMost h (PyData.depthKv d) bs ∧ ReprEntriesK prog w bs h (PyData.depthKv d) v (PyData.shownKv d)
  | _, _, .nil, _, _ => ⟨[], nofun, by rw [PyData.shownKv]; exact .nil⟩
  | _, _, .cons (k := k) (v := v) (ds := ds) r q t, hs, hz => by
    rw [PyData.showableKv, Bool.and_eq_true, Bool.and_eq_true] at hs
    rw [PyData.shownKv] at hz ⊢
    rw [PyData.depthKv]
    have hl := hz _ List.mem_cons_self
    rw [strLen_append, strLen_append] at hl
    obtain ⟨b1, q1, k1⟩ := Rz.repr r hs.1.1 (by omega)
    obtain ⟨b2, q2, k2⟩ := Rz.repr q hs.1.2 (by omega)
    obtain ⟨b3, q3, k3⟩ := RzE.repr t hs.2 (fun y hy => hz y (List.mem_cons_of_mem _ hy))
    refine ⟨b1 ++ (b2 ++ b3), (q1.mono (by omega)).append ((q2.mono (by omega)).append (q3.mono (by omega))), .cons ((k1.more fun b hb => ?_).level_le (by omega)) ((k2.more fun b hb => ?_).level_le (by omega)) (entK (fun b hb => ?_) (by omega) k3)⟩
    · exact List.mem_append_left _ hb
    · exact List.mem_append_right _ (List.mem_append_left _ hb)
    · exact List.mem_append_right _ (List.mem_append_right _ hb)
end
end

/-! ### the store's data -/
theorem omap_cons {α β : Type} {f : α → Option β} {a : α} {l : List α} {r : List β} (h : omap f (a :: l) = some r) : ∃ b bs, f a = some b ∧ omap f l = some bs ∧ r = b :: bs := by
  simp only [omap] at h
  split at h
  · rename_i b bs h1 h2
    exact ⟨b, bs, h1, h2, (Option.some.inj h).symm⟩
  · cases h
theorem map_some' {α β : Type} {f : α → β} {o : Option α} {b : β} (h : o.map f = some b) : ∃ a, o = some a ∧ b = f a := by
  cases o with
  | none => cases h
  | some a => exact ⟨a, rfl, (Option.some.inj h).symm⟩
section
variable {X : Cx} {pins : List (Addr × Obj)} {σ : L2.St} {H : Hp} {s : Shared} {ι : Ix} {μ : Sto}
theorem pairs_rz {vs : List (Key × Value)} : ∀ {es : List DictEntry} {kvs : List (DKey × D)} {ps : List (Key × V)} {ts : List (PyData × PyData)} {vs : List (Key × Value)} {f : D → Option PyData},
    Pairs (mixKind X.prog X.w) es vs → KV ps vs → RelK X.K H ι kvs ps → omap (fun p : DKey × D => (f p.2).map fun x => (keyP p.1, x)) kvs = some ts →
    (∀ d t v u, f d = some t → Rel X.K H ι d v → RelV v u → Rz s.heap u t) → RzE s.heap es ts := by
  intro es
  induction es with
  | nil =>
    intro kvs ps ts vs f hp hk hr ho ih
    cases hp
    cases hk
    cases hr
    cases ho
    exact .nil
  | cons e es ihe =>
    intro kvs ps ts vs f hp hk hr ho ih
    cases hp with
    | @cons _ kv _ vs' p1 p2 p3 =>
      cases hk with
      | @cons pk _ ps' _ k1 k2 =>
        cases hr with
        | @cons dk d v ds vs2 r1 r2 =>
          obtain ⟨b, bs, h1, h2, rfl⟩ := omap_cons ho
          obtain ⟨x, hx, rfl⟩ := map_some' h1
          refine .cons ?_ (by rw [p2]; exact ih _ _ _ _ hx r1 k1.2) (ihe p3 k2 r2 h2 ih)
          have hk1 : keyIs kv.1 e.key = true := p1
          rw [← k1.1] at hk1
          cases dk with
          | inl i =>
            obtain ⟨tk, e1⟩ := Value.isInt_shape (show Value.isInt i e.key = true from hk1)
            rw [e1]; exact .int i tk
          | inr z =>
            obtain ⟨tk, e1⟩ := Value.isStrOf_shape (show Value.isStrOf ⟨z.toArray⟩ e.key = true from hk1)
            rw [e1]; exact .str _ tk
theorem dat_rz (I : Inv X pins σ H s) (S : StOk X.K H ι μ) : ∀ (n : Nat) (d : D) (t : PyData) (v : V) (u : Value), dat μ n d = some t → Rel X.K H ι d v → RelV v u → Rz s.heap u t := by
  intro n
  induction n with
  | zero => intro d t v u h; cases h
  | succ n ih =>
    have ihL : ∀ (l : List D) (ts : List PyData) (vs : List V) (us : List Value), omap (dat μ n) l = some ts → RelL X.K H ι l vs → Vals vs us → RzL s.heap us ts := by
      intro l
      induction l with
      | nil => intro ts vs us h r q; cases h; cases r; cases q; exact .nil
      | cons a l ihl =>
        intro ts vs us h r q
        obtain ⟨b, bs, h1, h2, rfl⟩ := omap_cons h
        cases r with
        | cons r1 r2 =>
          cases q with
          | cons q1 q2 => exact .cons (ih _ _ _ _ h1 r1 q1) (ihl _ _ _ h2 r2 q2)
    intro d t v u h r q
    cases d with
    | non => cases h; cases r; cases q; exact .non
    | bl b => cases h; cases r; cases q; exact .bool b
    | int i => cases h; cases r; obtain ⟨tk, rfl⟩ := q; exact .int i tk
    | str x => cases h; cases r; obtain ⟨tk, rfl⟩ := q; exact .str _ tk
    | tup l =>
      obtain ⟨ts, h1, rfl⟩ := map_some' h
      cases r with
      | tup hs hr =>
        cases q
        obtain ⟨its, rv, ⟨o, ho, hc, k, hd⟩, _⟩ := I.tuple hs
        exact .tup ho hc hd (ihL _ _ _ _ h1 hr rv)
    | rol l =>
      obtain ⟨ts, h1, rfl⟩ := map_some' h
      cases r with
      | rol hs hr =>
        cases q
        obtain ⟨its, rv, ⟨o, k, ho, hc, _, hd⟩, _⟩ := I.list (SqR.sq hs)
        exact .list ho hc hd (ihL _ _ _ _ h1 hr rv)
    | frl l =>
      obtain ⟨ts, h1, rfl⟩ := map_some' h
      cases r with
      | frl hs hr =>
        cases q
        obtain ⟨its, rv, ⟨o, k, ho, hc, _, hd⟩, _⟩ := I.list hs.sq
        exact .list ho hc hd (ihL _ _ _ _ h1 hr rv)
    | dct kvs =>
      obtain ⟨ts, h1, rfl⟩ := map_some' h
      cases r with
      | dct hs hr =>
        cases q
        obtain ⟨_, hsys, vs, rv, o, es, ep, ho, hex, hd, _, hp, _⟩ := dk_of I.hok hs.2.2
        exact .dict ho hex.1 hd hsys (pairs_rz (vs := vs) hp rv hr h1 ih)
    | rng i j => cases h
    | exo c l => cases h
    | loc k =>
      cases r with
      | loc ha =>
        cases q
        simp only [dat] at h
        split at h
        · rename_i l hl
          obtain ⟨ts, h1, rfl⟩ := map_some' h
          obtain ⟨xs, hx, hr⟩ := S.lst hl ha
          obtain ⟨its, rv, ⟨o, k, ho, hc, _, hd⟩, _⟩ := I.list (SqL.of hx)
          exact .list ho hc hd (ihL _ _ _ _ h1 hr rv)
        · rename_i kvs hl
          obtain ⟨ts, h1, rfl⟩ := map_some' h
          obtain ⟨a', ha', hm⟩ := S.ok k _ hl
          rw [ha] at ha'; cases ha'
          obtain ⟨ps, hx, hr⟩ := hm
          obtain ⟨_, hsys, vs, rv, o, es, ep, ho, hex, hd, _, hp, _⟩ := dk_of I.hok hx
          exact .dict ho hex.1 hd hsys (pairs_rz (vs := vs) hp rv hr h1 ih)
        · cases h
theorem dat_depth : ∀ (n : Nat) (d : D) (t : PyData), dat μ n d = some t → t.depth ≤ n := by
  intro n
  induction n with
  | zero => intro d t h; cases h
  | succ n ih =>
    have ihL : ∀ (l : List D) (ts : List PyData), omap (dat μ n) l = some ts → PyData.depthAll ts ≤ n := by
      intro l
      induction l with
      | nil => intro ts h; cases h; simp [PyData.depthAll]
      | cons a l ihl =>
        intro ts h
        obtain ⟨b, bs, h1, h2, rfl⟩ := omap_cons h
        rw [PyData.depthAll]
        have := ih _ _ h1
        have := ihl _ h2
        omega
    have ihK : ∀ (l : List (DKey × D)) (ts : List (PyData × PyData)), omap (fun p : DKey × D => (dat μ n p.2).map fun x => (keyP p.1, x)) l = some ts → PyData.depthKv ts ≤ n := by
      intro l
      induction l with
      | nil => intro ts h; cases h; simp [PyData.depthKv]
      | cons a l ihl =>
        intro ts h
        obtain ⟨b, bs, h1, h2, rfl⟩ := omap_cons h
        obtain ⟨x, hx, rfl⟩ := map_some' h1
        rw [PyData.depthKv]
        have := ih _ _ hx
        have := ihl _ h2
        have : (keyP a.1).depth = 0 := by cases a.1 <;> simp [keyP, PyData.depth]
        omega
    intro d t h
    cases d with
    | non => cases h; simp [PyData.depth]
    | bl b => cases h; simp [PyData.depth]
    | int i => cases h; simp [PyData.depth]
    | str x => cases h; simp [PyData.depth]
    | tup l =>
      obtain ⟨ts, h1, rfl⟩ := map_some' h
      rw [PyData.depth]
      have := ihL _ _ h1
      omega
    | rol l =>
      obtain ⟨ts, h1, rfl⟩ := map_some' h
      rw [PyData.depth]
      have := ihL _ _ h1
      omega
    | frl l =>
      obtain ⟨ts, h1, rfl⟩ := map_some' h
      rw [PyData.depth]
      have := ihL _ _ h1
      omega
    | dct l =>
      obtain ⟨ts, h1, rfl⟩ := map_some' h
      rw [PyData.depth]
      have := ihK _ _ h1
      omega
    | rng i j => cases h
    | exo c l => cases h
    | loc k =>
      simp only [dat] at h
      split at h
      · obtain ⟨ts, h1, rfl⟩ := map_some' h
        rw [PyData.depth]
        have := ihL _ _ h1
        omega
      · obtain ⟨ts, h1, rfl⟩ := map_some' h
        rw [PyData.depth]
        have := ihK _ _ h1
        omega
      · cases h
end

/-! ### repr -/
section
variable {X : Cx}
def rShow (K : PySem.W.Frag) : List V → Hp → VK → Prop := fun xs H Q => ∃ x ι μ d l, xs = [x] ∧ StOk K H ι μ ∧ Rel K H ι d x ∧ shownD μ d = some l ∧ Q (.str ⟨l.toArray⟩) H
theorem call_show (hg : X.A.guards = some []) (hu : X.A.units + 100 < cLine) : CallR X (.builtin "repr") (rShow X.K) := by
  intro pins s σ H xs us Q I rs h
  obtain ⟨x, ι, μ, d, l, rfl, S, r, hl, q⟩ := h
  obtain ⟨u, rfl, ru⟩ := rs.one
  unfold shownD at hl
  split at hl
  · rename_i t ht
    split at hl
    · rename_i hc
      cases hl
      obtain ⟨hsh, hz⟩ := hc
      have hz : t.shown.length ≤ sizeLine := by rw [sizeLine_eq]; exact hz
      have z := dat_rz I S 60 d t x u ht r ru
      have dp := dat_depth (μ := μ) 60 d t ht
      have q : Q (.str t.shown) H := by simpa using q
      have fin : ∀ h' u tk, (∀ b o, s.heap.get? b = some o → h'.get? b = some o) → EP X pins σ Q (.str t.shown u) { s with heap := h', toks := tk } := fun h' u tk hk =>
        ⟨.str t.shown, H, I.kept hk, ⟨u, rfl⟩, q⟩
      cases z with
      | non => rw [PyData.shown] at fin; exact PySem.P.repr_of_none (fin s.heap _ _ fun _ _ e => e)
      | bool b => rw [PyData.shown] at fin; exact PySem.P.repr_of_bool (fin s.heap _ _ fun _ _ e => e)
      | int i tk =>
        rw [PyData.shown] at fin
        rw [PyData.showable] at hsh
        exact PySem.P.repr_of_int (of_decide_eq_true hsh) (fin s.heap _ _ fun _ _ e => e)
      | str y tk =>
        rw [PyData.shown] at fin hz
        exact PySem.P.repr_of_str (fin s.heap _ _ fun _ _ e => e) hz
      | list h1 h2 h3 h4 =>
        have hz' := hz
        rw [PyData.shown] at hz fin
        rw [PyData.showable] at hsh
        rw [PyData.depth] at dp
        obtain ⟨bs, hb, hk⟩ := RzL.repr (prog := X.prog) (w := X.w) h4 hsh (fun t ht => Nat.le_trans (listText_mem_le ht) hz)
        obtain ⟨_, rr⟩ := (Rz.list h1 h2 h3 h4).reads
        have hna := not_mem_of_deeper rr (by rw [PyData.depth]; omega) hb
        refine call_repr_slot (by omega) ⟨_, h1, h2⟩ F.slot_list_repr.toG ?_
        cases h4 with
        | nil =>
          rw [PyData.shownAll, listText_nil] at fin
          exact call_list_repr_empty ⟨_, h1, h2⟩ h1 h3 ⟨_, _, rfl, fin s.heap _ _ fun _ _ e => e⟩
        | cons r t =>
          exact call_list_reprK h1 h2 h3 hna (by simpa using hk.length_eq) (fun i y e => hk.item i y (by simpa using e)) (by exact hg) (fun b _ => Clear.nil b) (by show X.A.units + 1 + _ < _; omega) (fun _ _ e => e)
            (fun h' u tk hk' => ⟨_, _, rfl, fin h' u tk hk'⟩) hz
      | tup h1 h2 h3 h4 =>
        rw [PyData.shown] at hz fin
        rw [PyData.showable] at hsh
        rw [PyData.depth] at dp
        obtain ⟨bs, hb, hk⟩ := RzL.repr (prog := X.prog) (w := X.w) h4 hsh (fun t ht => Nat.le_trans (tupleText_mem_le ht) hz)
        obtain ⟨_, rr⟩ := (Rz.tup h1 h2 h3 h4).reads
        have hna := not_mem_of_deeper rr (by rw [PyData.depth]; omega) hb
        refine call_repr_slot (by omega) ⟨_, h1, h2⟩ F.slot_tuple_repr ?_
        exact call_tuple_reprK h1 h2 h3 hna hk (by exact hg) (fun b _ => Clear.nil b) (by show X.A.units + 1 + _ < _; omega) (fun _ _ e => e) (fun h' u tk hk' => ⟨_, _, rfl, fin h' u tk hk'⟩) hz
      | dict h1 h2 h3 h4 h5 =>
        rw [PyData.shown] at hz fin
        rw [PyData.showable] at hsh
        rw [PyData.depth] at dp
        obtain ⟨bs, hb, hk⟩ := RzE.repr (prog := X.prog) (w := X.w) h5 hsh (fun t ht => Nat.le_trans (dictText_mem_le ht) hz)
        obtain ⟨_, rr⟩ := (Rz.dict h1 h2 h3 h4 h5).reads
        have hna := not_mem_of_deeper rr (by rw [PyData.depth]; omega) hb
        refine call_repr_slot (by omega) ⟨_, h1, h2⟩ F.slot_dict_repr ?_
        exact call_dict_reprK h1 h2 h3 h4 hna hk (by exact hg) (fun b _ => Clear.nil b) (by show X.A.units + 1 + _ < _; omega) (fun _ _ e => e) (fun h' u tk hk' => ⟨_, _, rfl, fin h' u tk hk'⟩) hz
    · cases hl
  · cases hl
end
end Ev

namespace Ev
open PySem PySem.Spec L2 PyProof.Rows
theorem tuple_mul1 (l : Addr) (items : Array Value) (n : Nat) (dd : Option Addr) (sl : Array (Option Value)) (x : Int) (u : Tok) (c0 : (decide (x < -(2 ^ 63)) || decide (x ≥ 2 ^ 63)) = false) (c1 : (items.isEmpty || x == 1) = true) :
    Meets (Builtin.«tuple.__mul__» ⟨[.ref l, .int x u], []⟩) (fun _ R s => s.heap.get? l = some { cls := .type "tuple", dict := dd, data := .seq items n, slots := sl } ∧
      R (.ok (.ret (Value.ref l))) { s with heap := s.heap, toks := s.toks }) :=
  .of_wp fun prog w A R s h => by
    obtain ⟨hp, g, d, tk, os⟩ := s
    obtain ⟨hl, h⟩ := h
    have f1 := AutoSeq1.idx_int
    wp_walk using wpAny_loadPart' hl
    repeat (first
      | (refine wpAny_ite_false (decide_eq_false (by rw [c0]; exact Bool.false_ne_true)) ?_; wp_walk using wpAny_loadPart' hl)
      | (refine wpAny_ite_true (decide_eq_true (by rw [c1])) ?_; wp_walk using wpAny_loadPart' hl))
    exact ⟨_, rfl, h⟩
theorem tuple_mul0 (l : Addr) (items : Array Value) (n : Nat) (dd : Option Addr) (sl : Array (Option Value)) (x : Int) (u : Tok) (c0 : (decide (x < -(2 ^ 63)) || decide (x ≥ 2 ^ 63)) = false) (c1 : (items.isEmpty || x == 1) = false) (c2 : (decide (x ≤ 0) || items.isEmpty) = true) :
    Meets (Builtin.«tuple.__mul__» ⟨[.ref l, .int x u], []⟩) (fun _ R s => s.heap.get? l = some { cls := .type "tuple", dict := dd, data := .seq items n, slots := sl } ∧
      R (.ok (.ret (Value.ref s.heap.objs.size))) { s with heap := s.heap.push { cls := Value.type "tuple", data := Data.seq #[] }, toks := s.toks }) :=
  .of_wp fun prog w A R s h => by
    obtain ⟨hp, g, d, tk, os⟩ := s
    obtain ⟨hl, h⟩ := h
    have f1 := AutoSeq1.idx_int
    wp_walk using wpAny_loadPart' hl
    repeat (first
      | (refine wpAny_ite_false (decide_eq_false (by rw [c0]; exact Bool.false_ne_true)) ?_; wp_walk using wpAny_loadPart' hl)
      | (refine wpAny_ite_false (decide_eq_false (by rw [c1]; exact Bool.false_ne_true)) ?_; wp_walk using wpAny_loadPart' hl)
      | (refine wpAny_ite_true (decide_eq_true (by rw [c2])) ?_; wp_walk using wpAny_loadPart' hl))
    exact ⟨_, rfl, h⟩
def rRepT1 (K : PySem.W.Frag) : R2 := fun x y H Q => ∃ l xs, x = .ref l ∧ y = .int 1 ∧ SqT K H l xs ∧ Q (.ref l) H
def rRepT0 (K : PySem.W.Frag) : R2 := fun x y H Q => ∃ l xs, x = .ref l ∧ y = .int 0 ∧ SqT K H l xs ∧ xs ≠ [] ∧ ∀ p, H p = none → Q (.ref p) (upd H p (.tup []))
section
variable {X : Cx}
theorem op_repT1 : OpR X (binaryOp .Mult) (rRepT1 X.K) := by
  intro pins s σ H x y v u Q I rx ry h
  obtain ⟨l, xs, rfl, rfl, hT, q⟩ := h
  cases rx
  obtain ⟨t, rfl⟩ := ry
  obtain ⟨its, r, ⟨⟨cls, dd, data, sl⟩, ho, hc, n, hd⟩, hs⟩ := I.tuple hT
  simp only at hc hd
  subst hc hd
  refine wpAny_binaryOp_repeat_ref (T := "tuple") (U := "int") (by decide) ⟨_, ho, rfl⟩ (fun s' => typeIs_int s' 1 t) noFill_tuple_mul F.fills_int_mul F.slot_int_rmul repeat_tuple F.slot_int_index.lookup
    (call_meets F.slot_int_rmul (typeIs_int s 1 t) F.entry_int_rmul (F.args_int_rmul_2 _ _) (int_rmul_tuple 1 t l its.toArray n dd sl)
      ⟨ho, rfl, ⟨_, ho, rfl⟩, call_meets F.slot_tuple_mul ⟨_, ho, rfl⟩ F.entry_tuple_mul (F.args_tuple_mul_2 _ _) (tuple_mul1 l its.toArray n dd sl 1 t (by decide) (by simp)) ⟨ho, ?_⟩⟩)
  exact ⟨.ref l, H, I, rfl, q⟩
theorem op_repT0 : OpR X (binaryOp .Mult) (rRepT0 X.K) := by
  intro pins s σ H x y v u Q I rx ry h
  obtain ⟨l, xs, rfl, rfl, hT, hne, q⟩ := h
  cases rx
  obtain ⟨t, rfl⟩ := ry
  obtain ⟨its, r, ⟨⟨cls, dd, data, sl⟩, ho, hc, n, hd⟩, hs⟩ := I.tuple hT
  simp only at hc hd
  subst hc hd
  have hle : its.length = xs.length := r.length.symm
  have hn : its ≠ [] := fun e => hne (by
    rw [e] at hle
    exact List.eq_nil_of_length_eq_zero hle.symm)
  have hi : its.toArray.isEmpty = false := by
    cases its with
    | nil => exact absurd rfl hn
    | cons a b => rfl
  have c1 : (its.toArray.isEmpty || (0 : Int) == 1) = false := by
    rw [hi, Bool.false_or]; rfl
  refine wpAny_binaryOp_repeat_ref (T := "tuple") (U := "int") (by decide) ⟨_, ho, rfl⟩ (fun s' => typeIs_int s' 0 t) noFill_tuple_mul F.fills_int_mul F.slot_int_rmul repeat_tuple F.slot_int_index.lookup
    (call_meets F.slot_int_rmul (typeIs_int s 0 t) F.entry_int_rmul (F.args_int_rmul_2 _ _) (int_rmul_tuple 0 t l its.toArray n dd sl)
      ⟨ho, rfl, ⟨_, ho, rfl⟩, call_meets F.slot_tuple_mul ⟨_, ho, rfl⟩ F.entry_tuple_mul (F.args_tuple_mul_2 _ _) (tuple_mul0 l its.toArray n dd sl 0 t (by decide) c1 (by simp)) ⟨ho, ?_⟩⟩)
  refine ⟨.ref s.heap.objs.size, _, I.laid (t' := s.toks) (o := .tup []) (fun b ob q => Heap.get?_push_of_some _ q) (Nat.le_refl _) ?_, rfl, q _ (I.hok.fresh (Nat.le_refl _))⟩
  exact ⟨by simp, _, .nil, IsTup.new _ _⟩
end
end Ev

namespace Ev.LZ
open PySem PySem.W PySem.Calls PyProof.Rows PyProof.V PySem.Spec
/-! ### list(zip(a, b)) of two lists: the pairs, as tuples that lie above the new list -/
structure ZG (xs ys : Array Value) (lo : Addr) (h : Heap) (as : List Addr) : Prop where
  rise : as.Pairwise (· < ·)
  above : ∀ a ∈ as, lo < a
  pairs : ∀ (j : Nat) (a : Addr), as[j]? = some a → ∃ x y, xs[j]? = some x ∧ ys[j]? = some y ∧ h.get? a = some { cls := .type "tuple", data := .seq #[x, y] }
theorem ZG.there {xs ys : Array Value} {lo : Addr} {h : Heap} {as : List Addr} (g : ZG xs ys lo h as) {a : Addr} (ha : a ∈ as) : a < h.objs.size := by
  obtain ⟨j, hj⟩ := List.mem_iff_getElem?.mp ha
  obtain ⟨_, _, _, _, e⟩ := g.pairs j a hj
  exact Heap.lt_size e
def ZSt (h : Heap) (z TI TO i1 i2 l1 l2 S : Addr) (xs ys : Array Value) (i : Nat) : Prop :=
  IsPair h TI (.ref i1) (.ref i2) ∧ h.IsListIter i1 l1 i ∧ h.IsListIter i2 l2 i ∧ h.IsList l1 xs ∧ h.IsList l2 ys ∧
    ((IsZip h z TI TO .none ∧ ∃ a b, IsPair h TO a b) ∨ ∃ T f oT, IsZipHeld h z TI TO T f ∧ h.get? T = some oT ∧ T ≠ z ∧ T ≠ i1 ∧ T ≠ i2 ∧ T ≠ S)
structure Bel (S : Addr) (z TI TO i1 i2 l1 l2 : Addr) : Prop where
  z : z < S
  TI : TI < S
  TO : TO < S
  i1 : i1 < S
  i2 : i2 < S
  l1 : l1 < S
  l2 : l2 < S
section
variable {prog : Program} {w : World} {A : Around} {E : Value → Shared → Prop} {s : Shared} {z TI TO i1 i2 l1 l2 S : Addr} {xs ys : Array Value} {i : Nat}
theorem zs_item {Q : Option Value → Shared → Prop} (D : ZipApart z TI TO i1 i2 l1 l2) (st : ZSt s.heap z TI TO i1 i2 l1 l2 S xs ys i) (hS : S < s.heap.objs.size) {x y : Value} (ex : xs[i]? = some x) (ey : ys[i]? = some y)
    (hQ : ∀ h', ZSt h' z TI TO i1 i2 l1 l2 S xs ys (i + 1) → h'.get? s.heap.objs.size = some { cls := .type "tuple", data := .seq #[x, y] } → h'.objs.size = s.heap.objs.size + 1 →
      (∀ c o, c ≠ z → c ≠ TO → c ≠ i1 → c ≠ i2 → s.heap.get? c = some o → h'.get? c = some o) → Q (some (.ref s.heap.objs.size)) { s with heap := h' }) :
    wpAny (model prog w) A (pyNext (.ref z)) Q E s := by
  obtain ⟨hTI, h1, h2, hl1, hl2, hz⟩ := st
  have lt : ∀ {c o}, s.heap.get? c = some o → s.heap.objs.size ≠ c := fun e => Nat.ne_of_gt (Heap.lt_size e)
  have n1 : s.heap.objs.size ≠ i1 := let ⟨_, e, _⟩ := h1; lt e
  have n2 : s.heap.objs.size ≠ i2 := let ⟨_, e, _⟩ := h2; lt e
  rcases hz with ⟨hz, a, b, hTO⟩ | ⟨T, f, oT, hz, hT, r1, r2, r3, r4⟩
  · refine wpAny_pyNext_zip_item D hz hTI hTO h1 h2 hl1 hl2 ex ey fun h' a1 a2 a3 a4 a5 a6 hk => ?_
    exact hQ h' ⟨hk _ _ D.TIz D.TITO D.TIi1 D.TIi2 hTI, a3, a4, hl1.at fun o e => hk _ o D.l1z D.l1TO D.l1i1 D.l1i2 e, hl2.at fun o e => hk _ o D.l2z D.l2TO D.l2i1 D.l2i2 e,
        .inr ⟨s.heap.objs.size, false, _, a1, a5, lt hz, n1, n2, Nat.ne_of_gt hS⟩⟩ a5 a6 hk
  · refine wpAny_pyNext_zip_item_held D hz hT hTI h1 h2 hl1 hl2 ex ey fun h' a1 a3 a4 a5 a6 hk => ?_
    exact hQ h' ⟨hk _ _ D.TIz D.TIi1 D.TIi2 hTI, a3, a4, hl1.at fun o e => hk _ o D.l1z D.l1i1 D.l1i2 e, hl2.at fun o e => hk _ o D.l2z D.l2i1 D.l2i2 e,
        .inr ⟨T, true, oT, a1, hk _ _ r1 r2 r3 hT, r1, r2, r3, r4⟩⟩ a5 a6 fun c o h1 _ h3 h4 e => hk c o h1 h3 h4 e
theorem zs_done {Q : Option Value → Shared → Prop} (hh : A.handled = none) (D : ZipApart z TI TO i1 i2 l1 l2) (st : ZSt s.heap z TI TO i1 i2 l1 l2 S xs ys i) (hend : xs[i]? = none ∨ ys[i]? = none)
    (hQ : ∀ h', (∀ c o, c ≠ z → c ≠ TO → c ≠ i1 → c ≠ i2 → s.heap.get? c = some o → h'.get? c = some o) → Q none { s with heap := h' }) : wpAny (model prog w) A (pyNext (.ref z)) Q E s := by
  obtain ⟨hTI, h1, h2, hl1, hl2, hz⟩ := st
  rcases hz with ⟨hz, a, b, hTO⟩ | ⟨T, f, oT, hz, hT, r1, r2, r3, r4⟩
  · exact wpAny_pyNext_zip_end hh D hz hTI hTO h1 h2 hl1 hl2 hend hQ
  · exact wpAny_pyNext_zip_end_held hh D hz hT hTI h1 h2 hl1 hl2 hend fun h' hk => hQ h' fun c o h1 _ h3 h4 e => hk c o h1 h3 h4 e
theorem zs_frame {h h' : Heap} (B : Bel S z TI TO i1 i2 l1 l2) (st : ZSt h z TI TO i1 i2 l1 l2 S xs ys i) (hk : ∀ b o, b ≠ S → h.get? b = some o → h'.get? b = some o) : ZSt h' z TI TO i1 i2 l1 l2 S xs ys i := by
  obtain ⟨hTI, h1, h2, hl1, hl2, hz⟩ := st
  refine ⟨hk _ _ (Nat.ne_of_lt B.TI) hTI, h1.at fun o e => hk _ o (Nat.ne_of_lt B.i1) e, h2.at fun o e => hk _ o (Nat.ne_of_lt B.i2) e, hl1.at fun o e => hk _ o (Nat.ne_of_lt B.l1) e, hl2.at fun o e => hk _ o (Nat.ne_of_lt B.l2) e, ?_⟩
  rcases hz with ⟨hz, a, b, hTO⟩ | ⟨T, f, oT, hz, hT, r1, r2, r3, r4⟩
  · exact .inl ⟨hk _ _ (Nat.ne_of_lt B.z) hz, a, b, hk _ _ (Nat.ne_of_lt B.TO) hTO⟩
  · exact .inr ⟨T, f, oT, hk _ _ (Nat.ne_of_lt B.z) hz, hk _ _ r4 hT, r1, r2, r3, r4⟩
end
section
variable {prog : Program} {w : World} {A : Around} {s : Shared} {R : Result → Shared → Prop} {z TI TO i1 i2 l1 l2 S : Addr} {xs ys : Array Value}
theorem lz_loop (hh : A.handled = none) (D : ZipApart z TI TO i1 i2 l1 l2) (B : Bel S z TI TO i1 i2 l1 l2) (hn : min xs.size ys.size ≤ sizeLine) (res : Value) {h₁ : Heap}
    (hR : ∀ h' tk acc c as, (∀ b o, b ≠ S → b ≠ z → b ≠ TO → b ≠ i1 → b ≠ i2 → h₁.get? b = some o → h'.get? b = some o) → h'.get? S = some { cls := .type "list", dict := none, data := .seq acc c, slots := #[] } → as.length = min xs.size ys.size → ZG xs ys S h' as →
      acc.toList = as.map Value.ref → R (.ok (.ret res)) { s with heap := h', toks := tk }) :
    ∀ (k i : Nat) (h : Heap) (tk c : Nat) (acc : Array Value) (as : List Addr), min xs.size ys.size - i = k → i ≤ min xs.size ys.size → ZSt h z TI TO i1 i2 l1 l2 S xs ys i → (∀ b o, b ≠ S → b ≠ z → b ≠ TO → b ≠ i1 → b ≠ i2 → h₁.get? b = some o → h.get? b = some o) →
      h.get? S = some { cls := .type "list", dict := none, data := .seq acc c, slots := #[] } → acc.toList = as.map Value.ref → as.length = i → ZG xs ys S h as →
      codeAny (model prog w) A (.builtin "list.extend.loop" ⟨[.ref S, .ref z, res], []⟩) R { s with heap := h, toks := tk } := by
  intro k
  have gt : ∀ {a b : Addr}, S < a → b < S → a ≠ b := fun h1 h2 => Nat.ne_of_gt (Nat.lt_trans h2 h1)
  induction k with
  | zero =>
    intro i h tk c acc as hk hi hst hkeep hS hacc hal hG
    have hin : i = min xs.size ys.size := by omega
    refine codeAny_builtin PySem.F.entry_extend_loop ?_
    rw [Around.under_plainId PySem.F.plain_extend_loop _]
    show wpAny _ A.in1 (pyNext (.ref z) >>= _) _ _ _
    have hend : xs[i]? = none ∨ ys[i]? = none := by
      subst hin
      rcases Nat.le_total xs.size ys.size with h | h
      · exact .inl (Array.getElem?_eq_none (by rw [Nat.min_eq_left h]; exact Nat.le_refl _))
      · exact .inr (Array.getElem?_eq_none (by rw [Nat.min_eq_right h]; exact Nat.le_refl _))
    refine wpAny_bind (zs_done (s := { s with heap := h, toks := tk }) (A := A.in1) hh D hst hend fun h' he => ?_)
    refine wpAny_pure (hR h' tk acc c as (fun b o h0 h1 h2 h3 h4 e => he b o h1 h2 h3 h4 (hkeep b o h0 h1 h2 h3 h4 e)) (he S _ (Nat.ne_of_gt B.z) (Nat.ne_of_gt B.TO) (Nat.ne_of_gt B.i1) (Nat.ne_of_gt B.i2) hS) (by omega) ⟨hG.rise, hG.above, fun j a hj => ?_⟩ hacc)
    obtain ⟨x, y, e1, e2, e3⟩ := hG.pairs j a hj
    have ha := hG.above a (List.mem_of_getElem? hj)
    exact ⟨x, y, e1, e2, he a _ (gt ha B.z) (gt ha B.TO) (gt ha B.i1) (gt ha B.i2) e3⟩
  | succ k ih =>
    intro i h tk c acc as hk hi hst hkeep hS hacc hal hG
    have hix : i < xs.size := by omega
    have hiy : i < ys.size := by omega
    have hsz : acc.size = i := by rw [← Array.length_toList, hacc, List.length_map, hal]
    refine codeAny_builtin PySem.F.entry_extend_loop ?_
    rw [Around.under_plainId PySem.F.plain_extend_loop _]
    show wpAny _ A.in1 (pyNext (.ref z) >>= _) _ _ _
    refine wpAny_bind (zs_item (s := { s with heap := h, toks := tk }) D hst (Heap.lt_size hS) (Array.getElem?_eq_getElem hix) (Array.getElem?_eq_getElem hiy) fun h' hst' ht hz hkp => ?_)
    dsimp only at ht hz hkp ⊢
    have hS' := hkp S _ (Nat.ne_of_gt B.z) (Nat.ne_of_gt B.TO) (Nat.ne_of_gt B.i1) (Nat.ne_of_gt B.i2) hS
    have up : ∀ b o, b ≠ S → h'.get? b = some o → (h'.update S (Obj.mapSeq (·.push (Value.ref h.objs.size)))).get? b = some o := fun b o hb e => (Heap.get?_update_other _ _ (Ne.symm hb)).trans e
    have hSl : S < h.objs.size := Heap.lt_size hS
    show wpAny _ A.in1 (updateSeq S (·.push (Value.ref h.objs.size)) >>= _) _ _ _
    refine wpAny_bind ?_
    refine wpAny_updateSeq hS' rfl (wpAny_pure ⟨plainId_quiet PySem.F.plain_extend_loop _, ih (i + 1) _ tk _ (acc.push (Value.ref h.objs.size)) (as ++ [h.objs.size]) (by omega) (by omega) (zs_frame B hst' up)
      (fun b o h0 h1 h2 h3 h4 e => up b o h0 (hkp b o h1 h2 h3 h4 (hkeep b o h0 h1 h2 h3 h4 e))) (Heap.get?_update_self _ hS' rfl) (by rw [Array.toList_push, hacc, List.map_append]; rfl) (by rw [List.length_append, hal]; rfl) ⟨?_, ?_, ?_⟩⟩) (by rw [hsz]; omega) (by show (acc.push (Value.ref h.objs.size)).size ≤ sizeLine + 1; rw [Array.size_push, hsz]; omega)
    · refine List.pairwise_append.mpr ⟨hG.rise, List.pairwise_singleton _ _, fun a ha b hb => ?_⟩
      rw [List.mem_singleton.mp hb]
      exact hG.there ha
    · intro a ha
      rcases List.mem_append.mp ha with ha | ha
      · exact hG.above a ha
      · rw [List.mem_singleton.mp ha]; exact hSl
    · intro j b hj
      rcases Nat.lt_trichotomy j as.length with h1 | h1 | h1
      · rw [List.getElem?_append_left h1] at hj
        obtain ⟨x, y, e1, e2, e3⟩ := hG.pairs j b hj
        have hb := hG.above b (List.mem_of_getElem? hj)
        exact ⟨x, y, e1, e2, up b _ (Nat.ne_of_gt hb) (hkp b _ (gt hb B.z) (gt hb B.TO) (gt hb B.i1) (gt hb B.i2) e3)⟩
      · subst h1
        have hb : h.objs.size = b := by simpa using hj
        subst hb
        exact ⟨xs[i], ys[i], by rw [hal]; exact Array.getElem?_eq_getElem hix, by rw [hal]; exact Array.getElem?_eq_getElem hiy, up _ _ (Nat.ne_of_gt hSl) ht⟩
      · have hnone : (as ++ [h.objs.size])[j]? = none := List.getElem?_eq_none (by rw [List.length_append, List.length_singleton]; omega)
        rw [hnone] at hj; cases hj
end
theorem zip_no_len : typeLookup (.type "zip") "__len__" = pure none := by rw [typeLookup_type, builtinLookup_eq_fast]; kernel_rfl
theorem zip_no_hint : typeLookup (.type "zip") "__length_hint__" = pure none := by rw [typeLookup_type, builtinLookup_eq_fast]; kernel_rfl
section
variable {prog : Program} {w : World} {A : Around} {E : Value → Shared → Prop} {s : Shared} {z TI TO i1 i2 l1 l2 : Addr} {xs ys : Array Value}
theorem lz_hint (hT : s.TypeIs (.ref z) "zip") {Q : Bool → Shared → Prop} (h : Q true s) : wpAny (model prog w) A (Builtin.List.listLengthHint (.ref z)) Q E s := by
  unfold Builtin.List.listLengthHint
  refine wpAny_bind (wpAny_specialOf hT zip_no_len ?_)
  wp_delta
  refine wpAny_ite_split (fun hab => absurd hab (by decide)) (fun _ => ?_)
  refine wpAny_ite_split (fun hab => absurd hab (by decide)) (fun _ => ?_)
  refine wpAny_bind (wpAny_specialOf hT zip_no_hint ?_)
  exact wpAny_pure h
def ZOk (h : Heap) (z TI TO i1 i2 l1 l2 : Addr) (xs ys : Array Value) : Prop :=
  IsPair h TI (.ref i1) (.ref i2) ∧ h.IsListIter i1 l1 0 ∧ h.IsListIter i2 l2 0 ∧ h.IsList l1 xs ∧ h.IsList l2 ys ∧ IsZip h z TI TO .none ∧ ∃ a b, IsPair h TO a b
theorem ZOk.at {h h' : Heap} {S : Addr} (B : Bel S z TI TO i1 i2 l1 l2) (o : ZOk h z TI TO i1 i2 l1 l2 xs ys) (hk : ∀ b o, b ≠ S → h.get? b = some o → h'.get? b = some o) : ZOk h' z TI TO i1 i2 l1 l2 xs ys := by
  obtain ⟨hTI, h1, h2, hl1, hl2, hz, a, b, hTO⟩ := o
  exact ⟨hk _ _ (Nat.ne_of_lt B.TI) hTI, h1.at fun o e => hk _ o (Nat.ne_of_lt B.i1) e, h2.at fun o e => hk _ o (Nat.ne_of_lt B.i2) e, hl1.at fun o e => hk _ o (Nat.ne_of_lt B.l1) e, hl2.at fun o e => hk _ o (Nat.ne_of_lt B.l2) e,
    hk _ _ (Nat.ne_of_lt B.z) hz, a, b, hk _ _ (Nat.ne_of_lt B.TO) hTO⟩
theorem ZOk.st {h : Heap} {S : Addr} (o : ZOk h z TI TO i1 i2 l1 l2 xs ys) : ZSt h z TI TO i1 i2 l1 l2 S xs ys 0 := by
  obtain ⟨hTI, h1, h2, hl1, hl2, hz, a, b, hTO⟩ := o
  exact ⟨hTI, h1, h2, hl1, hl2, .inl ⟨hz, a, b, hTO⟩⟩
def Kp (S z TO i1 i2 : Addr) (h h' : Heap) : Prop := ∀ b o, b ≠ S → b ≠ z → b ≠ TO → b ≠ i1 → b ≠ i2 → h.get? b = some o → h'.get? b = some o
theorem lz_extend {R : Result → Shared → Prop} (hh : A.handled = none) (D : ZipApart z TI TO i1 i2 l1 l2) (hv : ZOk s.heap z TI TO i1 i2 l1 l2 xs ys) (S : Addr) (B : Bel S z TI TO i1 i2 l1 l2) (res : Value) (c₀ : Nat) (hS : s.heap.get? S = some { cls := .type "list", data := .seq #[] c₀ })
    (hR : ∀ h' tk acc c as, Kp S z TO i1 i2 s.heap h' → h'.get? S = some { cls := .type "list", dict := none, data := .seq acc c, slots := #[] } → as.length = min xs.size ys.size → ZG xs ys S h' as →
      acc.toList = as.map Value.ref → R (.ok (.ret res)) { s with heap := h', toks := tk }) (hn : min xs.size ys.size ≤ sizeLine) :
    wpAny (model prog w) A.in1 (Builtin.List.listExtendWith (.ref S) (.ref z) res)
      (fun fin s' => match fin with | .done f => R (.ok f) s' | .again c' => c'.quiet = true ∧ codeAny (model prog w) A c' R s') (fun e s' => R (.error e) s') s := by
  have key : ∀ (h : Heap) (c₁ tk : Nat), (∀ b o, b ≠ S → s.heap.get? b = some o → h.get? b = some o) →
      h.get? S = some { cls := .type "list", data := .seq #[] c₁ } → codeAny (model prog w) A (.builtin "list.extend.loop" ⟨[.ref S, .ref z, res], []⟩) R { s with heap := h, toks := tk } := by
    intro h c₁ tk hk hS₁
    exact lz_loop (s := s) (h₁ := s.heap) hh D B hn res (fun h' tk' acc c as hk' hS' hl hG hacc => hR h' tk' acc c as hk' hS' hl hG hacc)
      (min xs.size ys.size) 0 h tk c₁ #[] [] (Nat.sub_zero _) (Nat.zero_le _) (hv.at B hk).st (fun b o hb _ _ _ _ e => hk b o hb e) hS₁ rfl rfl
      ⟨List.Pairwise.nil, (fun _ ha => nomatch ha), (fun j a hj => by simp at hj)⟩
  have hz := hv.2.2.2.2.2.1
  have hT : s.TypeIs (.ref z) "zip" := ⟨_, hz, rfl⟩
  unfold Builtin.List.listExtendWith
  refine wpAny_bind (wpAny_typeOf (T := "zip") hT ?_)
  have h1 : Builtin.List.listSameRef (.ref S) (.ref z) = false := by simp [Builtin.List.listSameRef, Nat.ne_of_gt B.z]
  have h2 : (Value.type "zip" == Value.type "list") = false := by decide
  have h3 : (Value.type "zip" == Value.type "tuple") = false := by decide
  simp only [h1, h2, h3, Bool.or_false, Bool.false_eq_true, if_false]
  refine wpAny_bind (wpAny_pyIter_zip hz ?_)
  refine wpAny_bind (wpAny_holding (lz_hint hT ?_))
  refine wpAny_ite_split (fun _ => ?_) (fun hab => absurd rfl hab)
  refine wpAny_bind (wpAny_rule ?_)
  refine wpAny_bind ?_
  show wpAny _ _ (updateSeq S (·.push .none) >>= fun _ => updateSeq S (·.pop)) _ _ _
  refine wpAny_bind (wpAny_updateSeq hS rfl ?_)
  have hS₂ := Heap.get?_update_self (Obj.mapSeq (·.push Value.none)) hS rfl
  refine wpAny_updateSeq (hz := by seq_fits) hS₂ rfl ?_
  have hS₃ := Heap.get?_update_self (Obj.mapSeq (·.pop)) hS₂ rfl
  refine wpAny_pure ⟨plainId_quiet PySem.F.plain_extend_loop _, key _ _ _ (fun b o hb e => ?_) hS₃⟩
  exact (Heap.get?_update_other _ _ (Ne.symm hb)).trans ((Heap.get?_update_other _ _ (Ne.symm hb)).trans e)
theorem lz_init {R : Result → Shared → Prop} (hh : A.handled = none) (D : ZipApart z TI TO i1 i2 l1 l2) (hv : ZOk s.heap z TI TO i1 i2 l1 l2 xs ys) (S : Addr) (B : Bel S z TI TO i1 i2 l1 l2) (hS : s.heap.get? S = some { cls := .type "list", data := .seq #[] })
    (hR : ∀ h' tk acc c as, Kp S z TO i1 i2 s.heap h' → h'.get? S = some { cls := .type "list", dict := none, data := .seq acc c, slots := #[] } → as.length = min xs.size ys.size → ZG xs ys S h' as →
      acc.toList = as.map Value.ref → R (.ok (.ret .none)) { s with heap := h', toks := tk }) (hn : min xs.size ys.size ≤ sizeLine) :
    wpAny (model prog w) A.in1 (Builtin.«list.__init__» ⟨[.ref S, .ref z], []⟩)
      (fun fin s' => match fin with | .done f => R (.ok f) s' | .again c' => c'.quiet = true ∧ codeAny (model prog w) A c' R s') (fun e s' => R (.error e) s') s := by
  show wpAny _ _ (do let old ← Builtin.List.listItems (.ref S); Builtin.List.listUpdate (.ref S) (fun _ => #[]); letGo old.toList.reverse; Builtin.List.listExtendWith (.ref S) (.ref z) .none) _ _ s
  refine wpAny_bind ?_
  unfold Builtin.List.listItems
  refine wpAny_bind (wpAny_seqItems hS rfl (wpAny_pure ?_))
  show wpAny _ _ (updateSeq S (fun _ => #[]) >>= fun _ => letGo (#[] : Array Value).toList.reverse >>= fun _ => Builtin.List.listExtendWith (.ref S) (.ref z) .none) _ _ s
  refine wpAny_bind (wpAny_updateSeq hS rfl ?_)
  have hS₂ := Heap.get?_update_self (Obj.mapSeq (fun _ => (#[] : Array Value))) hS rfl
  have oth : ∀ b o, b ≠ S → s.heap.get? b = some o → (s.heap.update S (Obj.mapSeq (fun _ => (#[] : Array Value)))).get? b = some o :=
    fun b o hb e => (Heap.get?_update_other _ _ (Ne.symm hb)).trans e
  refine wpAny_bind (wpAny_letGo ?_)
  refine lz_extend hh D (hv.at B oth) S B .none _ hS₂ (fun h' tk acc c as hk hS' hl hG hacc => ?_) hn
  exact hR h' tk acc c as (fun b o h0 h1 h2 h3 h4 e => hk b o h0 h1 h2 h3 h4 (oth b o h0 e)) hS' hl hG hacc
theorem lz_call {Q : Value → Shared → Prop} (hh : A.handled = none) (D : ZipApart z TI TO i1 i2 l1 l2) (hv : ZOk s.heap z TI TO i1 i2 l1 l2 xs ys) (B : Bel s.heap.objs.size z TI TO i1 i2 l1 l2) (hn : min xs.size ys.size ≤ sizeLine)
    (hQ : ∀ h' tk acc c as, (∀ b o, b ≠ z → b ≠ TO → b ≠ i1 → b ≠ i2 → s.heap.get? b = some o → h'.get? b = some o) → h'.get? s.heap.objs.size = some { cls := .type "list", dict := none, data := .seq acc c, slots := #[] } → as.length = min xs.size ys.size → ZG xs ys s.heap.objs.size h' as →
      acc.toList = as.map Value.ref → Q (.ref s.heap.objs.size) { s with heap := h', toks := tk }) :
    wpAny (model prog w) A (call (.type "list") [.ref z]) Q E s := by
  refine callType_codes (Q₁ := fun obj s₁ => obj = .ref s.heap.objs.size ∧ s₁ = { s with heap := s.heap.push { cls := .type "list", data := .seq #[] } }) PySem.F.called_list (PySem.F.typeCall_list_1 _) PySem.F.entry_list_init
    (code_list_new _ ⟨rfl, rfl⟩) fun obj s₁ h₁ => ?_
  obtain ⟨rfl, rfl⟩ := h₁
  have hS : (s.heap.push { cls := .type "list", data := .seq #[] }).get? s.heap.objs.size = some { cls := .type "list", data := .seq #[] } := Heap.get?_push_size _ rfl
  refine ⟨⟨_, hS, rfl⟩, PySem.F.args_list_init_2 _ _, lz_init (A := A.in1) hh D (hv.at B fun b o _ e => Heap.get?_push_of_some _ e) _ B hS (fun h' tk acc c as hk hS' hl hG hacc => ?_) hn⟩
  exact ⟨rfl, hQ h' tk acc c as (fun b o h1 h2 h3 h4 e => hk b o (Nat.ne_of_lt (Heap.lt_size e)) h1 h2 h3 h4 (Heap.get?_push_of_some _ e)) hS' hl hG hacc⟩
end
end Ev.LZ

namespace Ev.LZ
open PySem PySem.Spec L2 PyProof.Rows PyProof.V
section
variable {X : Cx} {pins : List (Addr × Obj)} {σ : L2.St} {H : Hp} {s : Shared}
/-- an object that was laid, and is not known so far, is known from now on -/
theorem inv_track {a : Addr} {o : HO} (I : Inv X pins σ H s) (hf : FpOk X pins H a) (new : ObjOk X.prog X.w (upd H a o) s.heap a o) : Inv X pins σ (upd H a o) s := by
  have hn := hf.1
  refine I.call' (ch := [a]) rfl ⟨fun b ob e _ _ _ => e, fun b ob e _ _ _ => ⟨ob.slots, e⟩, fun b ob e n hx => ?_, fun b ob e _ => ⟨ob, e⟩, fun b xs e => ?_, fun b ob u e => ?_, fun b ps e => ⟨#[], ?_⟩⟩ (fun b u e => ?_) I.bare fun b hb => ?_
  · rw [upd_ne (fun z => hx (by simp [z]))]; exact n
  · rw [upd_ne (ne_of_none e hn)]; exact e
  · rw [upd_ne (ne_of_none e hn)]; exact e
  · rw [upd_ne (ne_of_none e hn), e]; simp
  · by_cases hb : b = a
    · subst hb; rw [upd_same] at e; cases e; exact new
    · rw [upd_ne hb] at e
      exact (I.hok b u e).stay (fun c v _ q => q) (fun c q => by rw [upd_ne (ne_of_none q hn)]; exact q) fun c xs q => by rw [upd_ne (ne_of_none q hn)]; exact q
  · have e : b = a := by simpa using hb
    subst e
    exact ⟨hf.2.2.2.1, hf.2.1, hf.2.2.2.2.1, hf.2.2.2.2.2⟩
def trk (H : Hp) : List Addr → List (List V) → Hp
  | a :: as, x :: xs => trk (upd H a (.tup x)) as xs
  | _, _ => H
theorem trk_ne : ∀ {as : List Addr} {ps : List (List V)} {H : Hp} {b : Addr}, b ∉ as → trk H as ps b = H b
  | [], _, _, _, _ => rfl
  | a :: as, [], _, _, _ => rfl
  | a :: as, p :: ps, H, b, h => by
    show trk (upd H a (.tup p)) as ps b = _
    rw [trk_ne (fun z => h (List.mem_cons_of_mem _ z)), upd_ne (fun z => h (by rw [z]; exact List.mem_cons_self))]
theorem trk_at : ∀ {as : List Addr} {ps : List (List V)} {H : Hp} {j : Nat} {a : Addr} {p : List V}, as.Nodup → as[j]? = some a → ps[j]? = some p → trk H as ps a = some (.tup p)
  | [], _, _, _, _, _, _, h, _ => by simp at h
  | a :: as, [], _, _, _, _, _, _, h => by simp at h
  | a :: as, p :: ps, H, 0, b, q, hd, h1, h2 => by
    simp at h1 h2
    subst h1 h2
    show trk (upd H a (.tup p)) as ps a = _
    rw [trk_ne (List.nodup_cons.mp hd).1, upd_same]
  | a :: as, p :: ps, H, j + 1, b, q, hd, h1, h2 => trk_at (H := upd H a (.tup p)) (List.nodup_cons.mp hd).2 (by simpa using h1) (by simpa using h2)
theorem fpOk_upd {a b : Addr} {o : HO} (h : FpOk X pins H b) (hb : b ≠ a) : FpOk X pins (upd H a o) b := ⟨by rw [upd_ne hb]; exact h.1, h.2⟩
theorem trk_inv : ∀ (as : List Addr) (ps : List (List V)) (H : Hp), Inv X pins σ H s → as.Nodup → (∀ a ∈ as, FpOk X pins H a) →
    (∀ (j : Nat) (a : Addr) (p : List V), as[j]? = some a → ps[j]? = some p → p.length ≤ sizeLine ∧ ∃ its : List Value, Vals p its ∧ IsTup s.heap a its.toArray) → Inv X pins σ (trk H as ps) s
  | [], _, _, I, _, _, _ => I
  | a :: as, [], _, I, _, _, _ => I
  | a :: as, p :: ps, H, I, hd, hf, hp => by
    have hd' := List.nodup_cons.mp hd
    refine trk_inv as ps (upd H a (.tup p)) (inv_track I (hf a List.mem_cons_self) (hp 0 a p rfl rfl)) hd'.2 (fun b hb => fpOk_upd (hf b (List.mem_cons_of_mem _ hb)) fun z => hd'.1 (by rw [← z]; exact hb)) fun j b q h1 h2 => hp (j + 1) b q (by simpa using h1) (by simpa using h2)
end
section
variable {X : Cx}
def pairs (xs ys : List V) : List (List V) := List.zipWith (fun x y => [x, y]) xs ys
/-- list(zip(a, b)), a and b lists: fresh pairs as, a fresh list S -/
def tLz (K : PySem.W.Frag) (ta : TA) : TE := fun σ H Q => ta σ H fun vs H1 => ∃ a b xs ys, vs = [.ref a, .ref b] ∧ SqL K H1 a xs ∧ SqL K H1 b ys ∧ min xs.length ys.length ≤ 1000000 ∧
  ∀ (S : Addr) (as : List Addr), as.length = min xs.length ys.length → (S :: as).Nodup → (∀ c ∈ S :: as, H1 c = none) → Q (.ref S) (upd (trk H1 as (pairs xs ys)) S (.lst (as.map V.ref)))
theorem vals_refs : ∀ as : List Addr, Vals (as.map V.ref) (as.map Value.ref)
  | [] => .nil
  | a :: as => .cons rfl (vals_refs as)
theorem vals_at : ∀ {xs : List V} {its : List Value} {j : Nat} {x : V} {v : Value}, Vals xs its → xs[j]? = some x → its[j]? = some v → RelV x v
  | _, _, _, _, _, .nil, h, _ => by simp at h
  | _, _, 0, _, _, .cons r _, h1, h2 => by simp at h1 h2; subst h1 h2; exact r
  | _, _, j + 1, _, _, .cons _ t, h1, h2 => vals_at (j := j) t (by simpa using h1) (by simpa using h2)
theorem pe_lzip {e e2 : Expr} {ta : TA} {p p2 pos pos2 : Pos} (hc : X.calm = true) (hg : Gl X "list") (hm : X.mg "list" = none) (hg2 : Gl X "zip") (hm2 : X.mg "zip" = none) (ha : PA X [e, e2] ta)
    (hs : starEach [e, e2] X.env = (false, eval e X.env) :: starEach [e2] X.env := by rfl) (hpl : (backTo pos2 (starEach [e2] X.env)).any (·.1) = false := by rfl) :
    PE X (.Call (.Name "list" p) [.Call (.Name "zip" p2) [e, e2] [] pos2] [] pos) (tLz X.K ta) := by
  refine ⟨fun pins s σ H Q I h => ?_⟩
  refine Call_ (ld_blt I hg hm boot_list (PyProof.Rows.callWith_type1 (args_cons (Call_ (ld_blt I hg2 hm2 PyProof.Rows.boot_zip (PyProof.Rows.callWith_type1 (thn (ha.run pos2 pins s σ H _ I h) fun us s1 ⟨vs, H1, I1, r1, q1⟩ => ?_) hs hpl))))))
  obtain ⟨a, b, xs, ys, ex, hqx, hqy, hsz, q⟩ := q1
  subst ex
  cases r1 with
  | cons r rr =>
    cases rr with
    | cons r' rr =>
      cases rr
      cases r
      cases r'
      obtain ⟨its, rv, p1, _⟩ := I1.list hqx
      obtain ⟨its2, rv2, p2, _⟩ := I1.list hqy
      refine call_zip_2 p1.isList p2.isList fun h' hz hTI hTO h1 h2 hsize hk => args_nil ?_
      have lx := rv.length
      have ly := rv2.length
      have D := PySem.W.ktu_apart s1.heap.objs.size a b p1.lt p2.lt
      have B : Bel h'.objs.size (s1.heap.objs.size + 4) (s1.heap.objs.size + 2) (s1.heap.objs.size + 3) s1.heap.objs.size (s1.heap.objs.size + 1) a b := by
        have e1 := p1.lt
        have e2 := p2.lt
        rw [hsize]
        exact ⟨Nat.add_lt_add_left (by decide) _, Nat.add_lt_add_left (by decide) _, Nat.add_lt_add_left (by decide) _, Nat.lt_add_of_pos_right (by decide), Nat.add_lt_add_left (by decide) _, Nat.lt_of_lt_of_le e1 (Nat.le_add_right _ _), Nat.lt_of_lt_of_le e2 (Nat.le_add_right _ _)⟩
      refine lz_call (s := { s1 with heap := h' }) (xs := its.toArray) (ys := its2.toArray) (I1.ok.hd hc) D ⟨hTI, h1, h2, p1.isList.at fun o e => hk _ o e, p2.isList.at fun o e => hk _ o e, hz, _, _, hTO⟩ B ?_ fun h2 tk acc cc as hk2 hS hl hG hacc => ?_
      · simp only [List.size_toArray]
        rw [sizeLine_eq]
        omega
      · dsimp only at hk2 hS hl hG ⊢
        simp only [List.size_toArray] at hl
        have ge : ∀ {a : Addr}, h'.objs.size ≤ a → s1.heap.objs.size ≤ a := fun h => Nat.le_trans (by rw [hsize]; exact Nat.le_add_right _ _) h
        have fr : ∀ {a : Addr}, s1.heap.objs.size ≤ a → FpOk X pins H1 a := fun h => I1.fpOk h (I1.hok.fresh h)
        have I2 : Inv X pins σ H1 { s1 with heap := h' } := I1.kept (t' := s1.toks) hk
        have I3 : Inv X pins σ H1 { s1 with heap := h2, toks := tk } := Inv.turnedL (s := { s1 with heap := h' }) (t' := tk) I2 (ch := [s1.heap.objs.size + 4, s1.heap.objs.size + 3, s1.heap.objs.size, s1.heap.objs.size + 1]) (fun b o hb e => hk2 b o (fun z => hb (by simp [z])) (fun z => hb (by simp [z])) (fun z => hb (by simp [z])) (fun z => hb (by simp [z])) e) fun b hb => by
          simp only [List.mem_cons, List.not_mem_nil, or_false] at hb
          rcases hb with e | e | e | e
          · rw [e]; exact fr (Nat.le_add_right _ _)
          · rw [e]; exact fr (Nat.le_add_right _ _)
          · rw [e]; exact fr (Nat.le_refl _)
          · rw [e]; exact fr (Nat.le_add_right _ _)
        have hnd : as.Nodup := hG.rise.imp fun h => Nat.ne_of_lt h
        have hSn : h'.objs.size ∉ as := fun z => absurd (hG.above _ z) (Nat.lt_irrefl _)
        have fas : ∀ a ∈ as, FpOk X pins H1 a := fun a ha => fr (ge (Nat.le_of_lt (hG.above a ha)))
        have I4 := trk_inv as (pairs xs ys) H1 I3 hnd fas fun j a p h1 h3 => by
          obtain ⟨xv, yv, e1, e2, e3⟩ := hG.pairs j a h1
          unfold pairs at h3
          rw [List.getElem?_zipWith] at h3
          cases hx : xs[j]? with
          | none => rw [hx] at h3; cases h3
          | some x =>
            cases hy : ys[j]? with
            | none => rw [hx, hy] at h3; cases h3
            | some y =>
              rw [hx, hy] at h3
              cases h3
              refine ⟨by show 2 ≤ sizeLine; rw [sizeLine_eq]; decide, [xv, yv], .cons (vals_at rv hx (by simpa using e1)) (.cons (vals_at rv2 hy (by simpa using e2)) .nil), _, e3, rfl, _, rfl⟩
        have hS1 : FpOk X pins (trk H1 as (pairs xs ys)) h'.objs.size := by
          have := fr (ge (Nat.le_refl h'.objs.size))
          exact ⟨by rw [trk_ne hSn]; exact this.1, this.2⟩
        have hacc' : acc = (as.map Value.ref).toArray := by rw [← hacc]
        have I5 := inv_track (o := .lst (as.map V.ref)) I4 hS1 ⟨by rw [List.length_map, hl, sizeLine_eq]; omega, as.map Value.ref, cc, vals_refs as, by rw [← hacc']; exact hS⟩
        refine ⟨.ref h'.objs.size, _, I5, rfl, q h'.objs.size as (by rw [hl]; omega) (List.nodup_cons.mpr ⟨hSn, hnd⟩) fun c hc' => ?_⟩
        rcases List.mem_cons.mp hc' with z | z
        · rw [z]; exact (fr (ge (Nat.le_refl _))).1
        · exact (fas c z).1
end
section
open Ev
variable {K : PySem.W.Frag} {ι : Ix} {H : Hp} {μ : Sto}
theorem grow_trk : ∀ (as : List Addr) (ps : List (List V)) {H : Hp}, as.Nodup → (∀ a ∈ as, H a = none) → Grow K ι H ι (trk H as ps)
  | [], _, _, _, _ => Grow.refl
  | a :: as, [], _, _, _ => Grow.refl
  | a :: as, p :: ps, H, hd, hn => by
    have hd' := List.nodup_cons.mp hd
    exact (Grow.fresh (hn a List.mem_cons_self)).trans (grow_trk as ps hd'.2 fun b hb => by rw [upd_ne (fun z => hd'.1 (by rw [← z]; exact hb))]; exact hn b (List.mem_cons_of_mem _ hb))
theorem stok_trk : ∀ (as : List Addr) (ps : List (List V)) {H : Hp}, as.Nodup → (∀ a ∈ as, H a = none) → StOk K H ι μ → StOk K (trk H as ps) ι μ
  | [], _, _, _, _, s => s
  | a :: as, [], _, _, _, s => s
  | a :: as, p :: ps, H, hd, hn, s => by
    have hd' := List.nodup_cons.mp hd
    exact stok_trk as ps hd'.2 (fun b hb => by rw [upd_ne (fun z => hd'.1 (by rw [← z]; exact hb))]; exact hn b (List.mem_cons_of_mem _ hb)) (s.fresh (hn a List.mem_cons_self))
theorem relL_zip : ∀ {l k : List D} {xs ys : List V} (as : List Addr), RelL K H ι l xs → RelL K H ι k ys → as.length = min xs.length ys.length → (∀ (j : Nat) (a : Addr) (p : List V), as[j]? = some a → (pairs xs ys)[j]? = some p → H a = some (.tup p)) →
    RelL K H ι (List.zipWith (fun a b => D.tup [a, b]) l k) (as.map V.ref)
  | _, _, _, _, [], .nil, _, _, _ => .nil
  | _, _, _, _, [], .cons _ _, .nil, _, _ => .nil
  | _, _, _, _, [], .cons _ _, .cons _ _, hl, _ => by simp at hl
  | _, _, _, _, a :: as, .nil, _, hl, _ => by simp at hl
  | _, _, _, _, a :: as, .cons _ _, .nil, hl, _ => by simp at hl
  | _, _, _, _, a :: as, .cons r t, .cons r' t', hl, hp => .cons (.tup (.inl (.inl (hp 0 a _ rfl rfl))) (.cons r (.cons r' .nil))) (relL_zip as t t' (by simp only [List.length_cons] at hl; omega) fun j b p h1 h2 => hp (j + 1) b p (by simpa using h1) (by simpa [pairs] using h2))
end
end Ev.LZ

namespace Ev
open PySem PySem.Spec L2

theorem room_eq : room = sizeLine := by rw [sizeLine_eq]; rfl
theorem big_eq : big = 2 ^ 64 := by decide
section
variable {K : PySem.W.Frag} {ι : Ix} {H : Hp} {μ : Sto} {Q : VK} {d : D} {v : V} {l : List D} {xs : List V}
theorem Aft.here (a : Aft K ι H Q d μ) (s : StOk K H ι μ) (r : Rel K H ι d v) : Q v H := a ι H v Grow.refl s r
theorem Aft.tup (a : Aft K ι H Q (.tup l) μ) (s : StOk K H ι μ) (r : RelL K H ι l xs) {p : Addr} (hp : H p = none) : Q (.ref p) (upd H p (.tup xs)) :=
  a ι _ _ (Grow.fresh hp) (s.fresh hp) (.tup (.inl (.inl upd_same)) (r.grow (Grow.fresh hp)))
theorem Aft.rol (a : Aft K ι H Q (.rol l) μ) (s : StOk K H ι μ) (r : RelL K H ι l xs) {p : Addr} (hp : H p = none) : Q (.ref p) (upd H p (.lst xs)) :=
  a ι _ _ (Grow.fresh hp) (s.fresh hp) (rol_new s hp r)
theorem Aft.dct {kvs : List (DKey × D)} {ps : List (Key × V)} (a : Aft K ι H Q (.dct kvs) μ) (s : StOk K H ι μ) (r : RelK K H ι kvs ps) {p : Addr} (hp : H p = none) : Q (.ref p) (upd H p (.dK ps)) :=
  a ι _ _ (Grow.fresh hp) (s.fresh hp) (dct_new s hp r)
theorem Aft.lst (a : Aft K ι H Q (.loc μ.length) (μ ++ [.lst l])) (s : StOk K H ι μ) (r : RelL K H ι l xs) {p : Addr} (hp : H p = none) : Q (.ref p) (upd H p (.lst xs)) :=
  a (ι.push p) _ _ (Grow.fresh1 hp) (s.push hp ⟨xs, upd_same, r.grow (Grow.fresh1 hp)⟩) (.loc (push_at s.len))
theorem Aft.dic {kvs : List (DKey × D)} {ps : List (Key × V)} (a : Aft K ι H Q (.loc μ.length) (μ ++ [.dic kvs])) (s : StOk K H ι μ) (r : RelK K H ι kvs ps) {p : Addr} (hp : H p = none) : Q (.ref p) (upd H p (.dK ps)) :=
  a (ι.push p) _ _ (Grow.fresh1 hp) (s.push hp ⟨ps, upd_same, r.grow (Grow.fresh1 hp)⟩) (.loc (push_at s.len))
theorem Aft.put {n : Nat} {a : Addr} {l' : List D} {xs' : List V} (f : Aft K ι H Q d (μ.set n (.lst l'))) (s : StOk K H ι μ) (hn : μ[n]? = some (.lst l)) (ha : ι.loc[n]? = some a) (r : RelL K H ι l' xs') (rd : Rel K H ι d v) : Q v (upd H a (.lst xs')) := by
  obtain ⟨xs, hx, _⟩ := s.lst hn ha
  have g : Grow K ι H ι (upd H a (.lst xs')) := Grow.up s ha hx trivial
  exact f ι _ _ g (s.put hn ha ⟨xs', upd_same, r.grow g⟩) (rd.grow g)
end

/-! ### operators of two values -/
def opOf : Bop → Operator
  | .add => .Add | .sub => .Sub | .mul => .Mult | .fdiv => .FloorDiv | .mod => .Mod | .pow => .Pow | .addM => .Add | .shl => .LShift | .band => .BitAnd | .bor => .BitOr
def rBin (K : PySem.W.Frag) (o : Bop) : R2 := fun x y H Q => ∃ ι μ d e r μ', StOk K H ι μ ∧ Rel K H ι d x ∧ Rel K H ι e y ∧ binop o d e μ = .ok r μ' ∧ Aft K ι H Q r μ'
section
variable {X : Cx}
theorem op_powB : OpR X (binaryOp .Pow) (rI (fun i j => 0 ≤ j ∧ j ≤ 1000 ∧ i.natAbs < 2 ^ 2000) fun i j => .int (i ^ j.toNat)) := opI fun i j t u s Q E hc q => by
  obtain ⟨h0, h1, h2⟩ := hc
  refine PyProof.Rows.pow_int h0 ?_ q
  have hb : Builtin.Int.intBits i ≤ 2000 := by
    unfold Builtin.Int.intBits
    split
    · omega
    · rename_i hz
      have hn : i.natAbs ≠ 0 := by
        intro e
        exact hz (by simpa using e)
      have := (Nat.log2_lt hn).mpr h2
      omega
  have h3 : (Builtin.Int.intBits i : Int) * j ≤ 2000 * 1000 := by
    have a1 : (Builtin.Int.intBits i : Int) * j ≤ 2000 * j := Int.mul_le_mul_of_nonneg_right (by omega) h0
    omega
  have : (2 : Int) ^ 27 = 134217728 := by decide
  omega
theorem append_str (a b : List Nat) : (⟨a.toArray⟩ : Str) ++ (⟨b.toArray⟩ : Str) = ⟨(a ++ b).toArray⟩ := by
  show (⟨a.toArray ++ b.toArray⟩ : Str) = _
  simp
theorem ls_of {K : PySem.W.Frag} {ι : Ix} {H : Hp} {μ : Sto} {d : D} {v : V} {l : List D} (S : StOk K H ι μ) (h : lsD μ d = some l) (r : Rel K H ι d v) : ∃ a xs, v = .ref a ∧ H a = some (.lst xs) ∧ RelL K H ι l xs := by
  unfold lsD at h
  split at h
  · cases h; cases r with | rol h1 h2 => exact ⟨_, _, rfl, h1.2.2, h2⟩
  · split at h
    · rename_i hl
      cases h
      cases r with
      | loc ha => obtain ⟨xs, e, r⟩ := S.lst hl ha; exact ⟨_, _, rfl, e, r⟩
    · cases h
  · cases h
theorem op_bin (o : Bop) : OpR X (binaryOp (opOf o)) (rBin X.K o) := by
  intro pins s σ H x y v u Q I rx ry h
  obtain ⟨ι, μ, d, e, r, μ', S, rd, re, hb, ha⟩ := h
  unfold binop at hb
  split at hb
  -- ints
  · cases rd; cases re; cases hb
    exact op_add pins s σ H _ _ v u Q I rx ry ⟨_, _, rfl, rfl, ha.here S (.int _)⟩
  · cases rd; cases re; cases hb
    exact op_sub pins s σ H _ _ v u Q I rx ry ⟨_, _, rfl, rfl, ha.here S (.int _)⟩
  · cases rd; cases re
    split at hb
    · rename_i hc
      cases hb
      rw [big_eq] at hc
      exact op_mul pins s σ H _ _ v u Q I rx ry ⟨_, _, rfl, rfl, hc, ha.here S (.int _)⟩
    · cases hb
  · cases rd; cases re
    split at hb
    · rename_i hc
      cases hb
      exact op_fdiv pins s σ H _ _ v u Q I rx ry ⟨_, _, rfl, rfl, hc, ha.here S (.int _)⟩
    · cases hb
  · cases rd; cases re
    split at hb
    · rename_i hc
      cases hb
      exact op_mod pins s σ H _ _ v u Q I rx ry ⟨_, _, rfl, rfl, hc, ha.here S (.int _)⟩
    · cases hb
  · cases rd; cases re
    split at hb
    · rename_i hc
      cases hb
      exact op_powB pins s σ H _ _ v u Q I rx ry ⟨_, _, rfl, rfl, hc, ha.here S (.int _)⟩
    · cases hb
  · cases rd; cases re
    split at hb
    · rename_i hc
      cases hb
      exact op_shl pins s σ H _ _ v u Q I rx ry ⟨_, _, rfl, rfl, hc, ha.here S (.int _)⟩
    · cases hb
  · cases rd; cases re; cases hb
    exact op_and pins s σ H _ _ v u Q I rx ry ⟨_, _, rfl, rfl, ha.here S (.int _)⟩
  · cases rd; cases re; cases hb
    exact op_or pins s σ H _ _ v u Q I rx ry ⟨_, _, rfl, rfl, ha.here S (.int _)⟩
  · cases rd; cases re; cases hb
    cases rx
    obtain ⟨t, rfl⟩ := ry
    exact PySem.IntBool.add_bool_int ⟨.int _, H, I.tok _, ⟨_, rfl⟩, ha.here S (.int _)⟩
  · cases rd; cases re; cases hb
    cases rx
    obtain ⟨t, rfl⟩ := ry
    exact PySem.IntBool.sub_bool_int ⟨.int _, H, I.tok _, ⟨_, rfl⟩, ha.here S (.int _)⟩
  -- texts
  · cases rd; cases re
    split at hb
    · rename_i hc
      cases hb
      rw [room_eq] at hc
      exact op_add_str pins s σ H _ _ v u Q I rx ry ⟨_, _, rfl, rfl, by simpa [Str.length] using hc, by rw [append_str]; exact ha.here S (.str _)⟩
    · cases hb
  -- tuples
  · cases rd with
    | tup h1 r1 =>
      cases re with
      | tup h2 r2 =>
        split at hb
        · rename_i hc
          cases hb
          rw [room_eq, r1.length, r2.length] at hc
          refine op_catA pins s σ H _ _ v u Q I rx ry ⟨_, _, _, _, rfl, rfl, h1, h2, hc, fun e => ?_, fun _ e => ?_, fun _ _ p hp => ha.tup S (r1.append r2) hp⟩
          · subst e
            cases r1
            exact ha.here S (.tup h2 r2)
          · subst e
            cases r2
            rw [List.append_nil] at ha
            exact ha.here S (.tup h1 r1)
        · cases hb
  -- lists
  · split at hb
    · rename_i hc
      cases hb
      cases rd with
      | rol h1 r1 =>
        cases re with
        | rol h2 r2 =>
          rw [room_eq, r1.length, r2.length] at hc
          exact op_cat pins s σ H _ _ v u Q I rx ry ⟨_, _, _, _, rfl, rfl, h1.2.2, h2.2.2, hc, fun p hp => ha.rol S (r1.append r2) hp⟩
    · cases hb
  · split at hb
    · rename_i k hk
      split at hb
      · rename_i hc
        cases hb
        cases rd with
        | rol h1 r1 =>
          cases re with
          | loc h2 =>
            obtain ⟨ys, e2, r2⟩ := S.lst hk h2
            rw [room_eq, r1.length, r2.length] at hc
            exact op_cat pins s σ H _ _ v u Q I rx ry ⟨_, _, _, _, rfl, rfl, h1.2.2, e2, hc, fun p hp => ha.rol S (r1.append r2) hp⟩
      · cases hb
    · cases hb
  · split at hb
    · rename_i k hk
      split at hb
      · rename_i hc
        cases hb
        cases rd with
        | loc h1 =>
          cases re with
          | rol h2 r2 =>
            obtain ⟨ys, e1, r1⟩ := S.lst hk h1
            rw [room_eq, r1.length, r2.length] at hc
            exact op_cat pins s σ H _ _ v u Q I rx ry ⟨_, _, _, _, rfl, rfl, e1, h2.2.2, hc, fun p hp => ha.rol S (r1.append r2) hp⟩
      · cases hb
    · cases hb
  · split at hb
    · rename_i l k hl hk
      split at hb
      · rename_i hc
        cases hb
        cases rd with
        | loc h1 =>
          cases re with
          | loc h2 =>
            obtain ⟨xs, e1, r1⟩ := S.lst hl h1
            obtain ⟨ys, e2, r2⟩ := S.lst hk h2
            rw [room_eq, r1.length, r2.length] at hc
            exact op_cat pins s σ H _ _ v u Q I rx ry ⟨_, _, _, _, rfl, rfl, e1, e2, hc, fun p hp => ha.rol S (r1.append r2) hp⟩
      · cases hb
    · cases hb
  · split at hb
    · rename_i hc
      cases hb
      cases rd with
      | rol h1 r1 =>
        cases re
        rw [room_eq, r1.length] at hc
        exact op_rep pins s σ H _ _ v u Q I rx ry ⟨_, _, _, rfl, rfl, h1.2.2, by omega, by omega, hc.2.2, fun p hp => ha.rol S (r1.rep _) hp⟩
    · cases hb
  · split at hb
    · rename_i hc
      cases hb
      cases rd with
      | tup h1 r1 =>
        cases re
        obtain ⟨hc1, hc2, hc3, hc4⟩ := hc
        rw [r1.length] at hc4
        rename_i xs
        have hne : xs ≠ [] := by
          intro e
          subst e
          cases r1
          simp at hc3
        rename_i l k' _
        rcases (show k' = 0 ∨ k' = 1 ∨ 2 ≤ k' by omega) with rfl | rfl | h2
        · exact op_repT0 pins s σ H _ _ v u Q I rx ry ⟨_, _, rfl, rfl, h1, hne, fun p hp => ha.tup S .nil hp⟩
        · have e1 : (List.replicate (1 : Int).toNat l).flatten = l := by simp
          rw [e1] at ha
          exact op_repT1 pins s σ H _ _ v u Q I rx ry ⟨_, _, rfl, rfl, h1, ha.here S (.tup h1 r1)⟩
        · exact op_repT pins s σ H _ _ v u Q I rx ry ⟨_, _, _, rfl, rfl, h1, hne, h2, hc2, hc4, fun p hp => ha.tup S (r1.rep _) hp⟩
    · cases hb
  · unfold addMop at hb
    split at hb
    · rename_i l k h1 h2
      split at hb
      · rename_i hc
        cases hb
        obtain ⟨a, xs, rfl, e1, r1⟩ := ls_of S h1 rd
        obtain ⟨b, ys, rfl, e2, r2⟩ := ls_of S h2 re
        rw [room_eq, r1.length, r2.length] at hc
        exact op_cat pins s σ H _ _ v u Q I rx ry ⟨_, _, _, _, rfl, rfl, e1, e2, hc, fun p hp => ha.lst S (r1.append r2) hp⟩
      · cases hb
    · cases hb
  · cases hb
end
end Ev

namespace Ev
open PySem PySem.Spec L2

theorem rcd_at {da db : PyData} {A : Around} {s : Shared} {a b : Value} {as bs : List Addr} {r : Bool} (ra : Reads s.heap a da as) (rb : Reads s.heap b db bs) (e : eqd da db = some r) (hu : A.units + min da.depth db.depth < cLine) : SeqAt.RcAt A s a b r := by
  have hu0 : A.units < cLine := by omega
  by_cases ht : (∃ xs ys, da = .tuple xs ∧ db = .tuple ys)
  · obtain ⟨xs, ys, rfl, rfl⟩ := ht
    cases ra with
    | @tuple l o vs n _ as₁ h1 h2 h3 h4 =>
      cases rb with
      | @tuple l' o' vs' n' _ bs₁ k1 k2 k3 k4 =>
        have hl : s.heap.IsTuple l vs := ⟨_, h1, h2, _, h3⟩
        have hl' : s.heap.IsTuple l' vs' := ⟨_, k1, k2, _, k3⟩
        have n1 : vs.size = xs.length := by simpa using SeqAt.ReadsAll.length _ _ _ h4
        have n2 : vs'.size = ys.length := by simpa using SeqAt.ReadsAll.length _ _ _ k4
        have e' := eqL_of e
        rw [eqdL_eq xs ys r e', ← n1, ← n2]
        have hu1 : A.in1.units + min (PyData.depthAll xs) (PyData.depthAll ys) < cLine := by
          simp only [PyData.depth] at hu
          show A.units + 1 + _ < _
          omega
        refine SeqAt.RcAt.tuples hl hl' hu0 fun j j1 j2 => ?_
        have := eqd_atAll xs ys A.in1 s vs.toList vs'.toList _ _ r h4 k4 e' hu1 j (by simpa using j1) (by simpa using j2)
        simpa using this
  · by_cases hp : da.plain = true ∧ db.plain = true
    · have : r = PyData.eqv da db := by
        cases da <;> first | (cases db <;> first | (simp_all [eqd, plainP, plainPs_eq, PyData.plain, PyData.eqv]; done) | exact absurd ⟨_, _, rfl, rfl⟩ ht)
      rw [this]
      exact SeqAt.rcAt_plain ra rb hp.1 hp.2 hu
    · cases ra with
      | none => cases rb <;> simp_all [eqd, plainP, plainPs_eq, PyData.plain]
      | bool x => cases rb <;> simp_all [eqd, plainP, plainPs_eq, PyData.plain]
      | int x t => cases rb <;> simp_all [eqd, plainP, plainPs_eq, PyData.plain]
      | str x t =>
        cases rb with
        | list k1 k2 k3 k4 => simp [eqd, PyData.eqv] at e; rw [e]; exact SeqAt.RcAt.str_list x t ⟨_, k1, k2, _, k3⟩ hu0
        | tuple k1 k2 k3 k4 => simp [eqd, PyData.eqv] at e; rw [e]; exact SeqAt.RcAt.str_tuple x t ⟨_, k1, k2, _, k3⟩ hu0
        | dict k1 k2 k3 k4 k5 => simp [eqd, PyData.eqv] at e; rw [e]; exact rc_str_dict x t ⟨_, _, _, k1, k2, k3⟩ hu0
        | _ => simp_all [eqd, plainP, plainPs_eq, PyData.plain]
      | list h1 h2 h3 h4 =>
        cases rb with
        | str y u => simp [eqd, PyData.eqv] at e; rw [e]; exact SeqAt.RcAt.list_str y u ⟨_, h1, h2, _, h3⟩ hu0
        | tuple k1 k2 k3 k4 => simp [eqd, PyData.eqv] at e; rw [e]; exact SeqAt.RcAt.list_tuple ⟨_, h1, h2, _, h3⟩ ⟨_, k1, k2, _, k3⟩ hu0
        | _ => simp_all [eqd, plainP, plainPs_eq, PyData.plain]
      | dict h1 h2 h3 h4 h5 =>
        cases rb with
        | str y u => simp [eqd, PyData.eqv] at e; rw [e]; exact rc_dict_str y u ⟨_, _, _, h1, h2, h3⟩ hu0
        | tuple k1 k2 k3 k4 => simp [eqd] at e; rw [e]; exact rc_dict_tuple ⟨_, _, _, h1, h2, h3⟩ ⟨_, k1, k2, _, k3⟩ hu0
        | _ => simp_all [eqd, plainP, plainPs_eq, PyData.plain]
      | @tuple l o vs n xs as₁ h1 h2 h3 h4 =>
        have hl : s.heap.IsTuple l vs := ⟨_, h1, h2, _, h3⟩
        cases rb with
        | str y u => simp [eqd, PyData.eqv] at e; rw [e]; exact SeqAt.RcAt.tuple_str y u hl hu0
        | tuple k1 k2 k3 k4 => exact absurd ⟨_, _, rfl, rfl⟩ ht
        | _ => simp_all [eqd, plainP, plainPs_eq, PyData.plain]
theorem rnd_at {da db : PyData} {A : Around} {s : Shared} {a b : Value} {as bs : List Addr} {r : Bool} (ra : Reads s.heap a da as) (rb : Reads s.heap b db bs) (e : ned da db = some r) (hu : A.units + min da.depth db.depth < cLine) : SeqAt.RcNeAt A s a b r := by
  have hu0 : A.units < cLine := by omega
  by_cases ht : (∃ xs ys, da = .tuple xs ∧ db = .tuple ys)
  · obtain ⟨xs, ys, rfl, rfl⟩ := ht
    cases ra with
    | @tuple l o vs n _ as₁ h1 h2 h3 h4 =>
      cases rb with
      | @tuple l' o' vs' n' _ bs₁ k1 k2 k3 k4 =>
        have hl : s.heap.IsTuple l vs := ⟨_, h1, h2, _, h3⟩
        have hl' : s.heap.IsTuple l' vs' := ⟨_, k1, k2, _, k3⟩
        have n1 : vs.size = xs.length := by simpa using SeqAt.ReadsAll.length _ _ _ h4
        have n2 : vs'.size = ys.length := by simpa using SeqAt.ReadsAll.length _ _ _ k4
        simp only [ned] at e
        obtain ⟨r', e', rfl⟩ := map_some' e
        rw [eqdL_eq xs ys r' e', ← n1, ← n2]
        have hu1 : A.in1.units + min (PyData.depthAll xs) (PyData.depthAll ys) < cLine := by
          simp only [PyData.depth] at hu
          show A.units + 1 + _ < _
          omega
        refine SeqAt.RcNeAt.tuples hl hl' hu0 fun j j1 j2 => ?_
        have := eqd_atAll xs ys A.in1 s vs.toList vs'.toList _ _ r' h4 k4 e' hu1 j (by simpa using j1) (by simpa using j2)
        simpa using this
  · have : plainP da = true ∧ plainP db = true ∧ r = !PyData.eqv da db := by
      have he : ned da db = if plainP da && plainP db then some (!PyData.eqv da db) else none := by
        cases da <;> first | rfl | (cases db <;> first | rfl | exact absurd ⟨_, _, rfl, rfl⟩ ht)
      rw [he] at e
      split at e
      · rename_i hp
        rw [Bool.and_eq_true] at hp
        exact ⟨hp.1, hp.2, (Option.some.inj e).symm⟩
      · cases e
    obtain ⟨p1, p2, rfl⟩ := this
    rw [plainP_eq] at p1 p2
    exact SeqAt.rcNe_plain ra rb p1 p2 hu

/-! ### comparisons of two values -/
def copOf : Cop → CmpOp
  | .eq => .Eq | .ne => .NotEq | .lt => .Lt | .le => .LtE | .gt => .Gt | .ge => .GtE | .isin => .In | .notin => .NotIn | .isn => .Is | .notn => .IsNot
def rCmp (K : PySem.W.Frag) (o : Cop) : R2 := fun x y H Q => ∃ ι μ d e b, StOk K H ι μ ∧ Rel K H ι d x ∧ Rel K H ι e y ∧ cmpop o d e μ = some b ∧ Q (.bl b) H
open Classical in
/-- an item's answer, read off its value -/
noncomputable def eU (h : Heap) (x : PyData) (u : Value) : Bool := if q : ∃ p, (∃ as, Reads h u p as) ∧ plainP p = true then (eqd q.choose x).getD false else false
theorem eU_of {h : Heap} {u : Value} {p x : PyData} {as : List Addr} (r : Reads h u p as) (hp : plainP p = true) : eU h x u = (eqd p x).getD false := by
  unfold eU
  have q : ∃ p, (∃ as, Reads h u p as) ∧ plainP p = true := ⟨p, ⟨as, r⟩, hp⟩
  rw [dif_pos q]
  obtain ⟨⟨as', r'⟩, hp'⟩ := q.choose_spec
  rw [SeqAt.plain_unique _ _ _ _ _ (by rw [← plainP_eq]; exact hp') r' r]
section
variable {X : Cx} {pins : List (Addr × Obj)} {σ : L2.St} {H : Hp} {s : Shared} {ι : Ix} {μ : Sto}
theorem in_all (I : Inv X pins σ H s) (S : StOk X.K H ι μ) {A : Around} {x : PyData} {w : Value} {as : List Addr} (hx : Reads s.heap w x as) (hu : A.units + 60 < cLine) : ∀ {l : List D} {ps : List PyData} {bs : List Bool} {vs : List V} {us : List Value},
    omap (dat μ 60) l = some ps → ps.all plainP = true → omap (fun p => eqd p x) ps = some bs → RelL X.K H ι l vs → Vals vs us → (∀ u ∈ us, SeqAt.EqAt A s u w (eU s.heap x u)) ∧ us.any (eU s.heap x) = bs.any id := by
  intro l
  induction l with
  | nil => intro ps bs vs us h1 h0 h2 r q; cases h1; cases h2; cases r; cases q; exact ⟨nofun, rfl⟩
  | cons d l ih =>
    intro ps bs vs us h1 h0 h2 r q
    obtain ⟨p, ps', e1, e2, rfl⟩ := omap_cons h1
    obtain ⟨b, bs', f1, f2, rfl⟩ := omap_cons h2
    rw [List.all_cons, Bool.and_eq_true] at h0
    cases r with
    | cons r1 r2 =>
      cases q with
      | cons q1 q2 =>
        obtain ⟨i1, i2⟩ := ih e2 h0.2 f2 r2 q2
        obtain ⟨bs0, g2⟩ := (dat_rz I S 60 d p _ _ e1 r1 q1).reads
        have g1 := eU_of (x := x) g2 h0.1
        have g3 : eU s.heap x _ = b := g1.trans (by rw [f1]; rfl)
        refine ⟨fun u hm => ?_, by rw [List.any_cons, List.any_cons, i2, g3]; rfl⟩
        rcases List.mem_cons.mp hm with rfl | hm
        · rw [g3]
          have := dat_depth (μ := μ) 60 d p e1
          exact eqd_at p x A s _ w _ _ b g2 hx f1 (by omega)
        · exact i1 u hm
end
theorem alike_sym {a b : PyData} (h : PySem.W.alike a b = true) (hn : a ≠ .none) : PySem.W.alike b a = true ∧ b ≠ .none := ⟨by rw [PySem.W.alike_comm]; exact h, PySem.W.ne_none_both h hn⟩
section
variable {X : Cx}
theorem op_cmp (hu : X.A.units + 100 < cLine) (o : Cop) : OpR X (compareOp (copOf o)) (rCmp X.K o) := by
  intro pins s σ H x y v u Q I rx ry h
  obtain ⟨ι, μ, d, e, b, S, rd, re, hb, q⟩ := h
  have eqC : ∀ b, eqB μ d e = some b → Q (.bl b) H → wpAny (model X.prog X.w) X.A (compareOp .Eq v u) (EP X pins σ Q) X.xe s := by
    intro b hb q
    unfold eqB at hb
    split at hb
    · rename_i da db h1 h2
      obtain ⟨as, ra⟩ := (dat_rz I S 60 d da x v h1 rd rx).reads
      obtain ⟨bs, rb⟩ := (dat_rz I S 60 e db y u h2 re ry).reads
      have := dat_depth (μ := μ) 60 d da h1
      exact rcd_at ra rb hb (by omega) _ _ _ _ ⟨.bl b, H, I, rfl, q⟩
    · cases hb
  have neC : ∀ b, neB μ d e = some b → Q (.bl b) H → wpAny (model X.prog X.w) X.A (compareOp .NotEq v u) (EP X pins σ Q) X.xe s := by
    intro b hb q
    unfold neB at hb
    split at hb
    · rename_i da db h1 h2
      obtain ⟨as, ra⟩ := (dat_rz I S 60 d da x v h1 rd rx).reads
      obtain ⟨bs, rb⟩ := (dat_rz I S 60 e db y u h2 re ry).reads
      have := dat_depth (μ := μ) 60 d da h1
      exact rnd_at ra rb hb (by omega) _ _ _ _ ⟨.bl b, H, I, rfl, q⟩
    · cases hb
  have inC : ∀ b l xs its, inB μ d l = some b → RelL X.K H ι l xs → Vals xs its → ∃ f : Value → Bool, (∀ y, y ∈ its.toArray → SeqAt.EqAt X.A.in1 s y v (f y)) ∧ its.toArray.any f = b := by
    intro b l xs its hi hr rv
    unfold inB at hi
    split at hi
    · rename_i dx ps h1 h2
      split at hi
      · rename_i hp
        obtain ⟨bs, h3, rfl⟩ := map_some' hi
        obtain ⟨as, ra⟩ := (dat_rz I S 60 d dx x v h1 rd rx).reads
        obtain ⟨i1, i2⟩ := in_all (A := X.A.in1) I S ra (by show X.A.units + 1 + 60 < _; omega) h2 hp h3 hr rv
        exact ⟨eU s.heap dx, fun y hy => i1 y (by simpa using hy), by rw [← i2]; simp⟩
      · cases hi
    · cases hi
  have inT : ∀ l b', e = .tup l → inB μ d l = some b' → ∃ (p : Addr) (its : List Value), u = .ref p ∧ s.heap.IsTuple p its.toArray ∧ ∃ f : Value → Bool, (∀ y, y ∈ its.toArray → SeqAt.EqAt X.A.in1 s y v (f y)) ∧ its.toArray.any f = b' := by
    intro l b' he hi
    subst he
    cases re with
    | tup hs hr =>
      cases ry
      obtain ⟨its, rv, p1, _⟩ := I.tuple hs
      exact ⟨_, its, rfl, p1, inC b' l _ its hi hr rv⟩
  have inR : ∀ l b' p xs, u = .ref p → SqL X.K H p xs → RelL X.K H ι l xs → inB μ d l = some b' → ∃ (its : List Value), s.heap.IsList p its.toArray ∧ ∃ f : Value → Bool, (∀ y, y ∈ its.toArray → SeqAt.EqAt X.A.in1 s y v (f y)) ∧ its.toArray.any f = b' := by
    intro l b' p xs _ hs hr hi
    obtain ⟨its, rv, p1, _⟩ := I.list hs
    exact ⟨its, p1.isList, inC b' l _ its hi hr rv⟩
  have ltC : ∀ (l k : List D) (x' y' : V) {v' u' : Value} {b' : Bool}, Rel X.K H ι (.tup l) x' → Rel X.K H ι (.tup k) y' → RelV x' v' → RelV y' u' → ltD μ (.tup l) (.tup k) = some b' →
      ∃ da db as bs, Reads s.heap v' da as ∧ Reads s.heap u' db bs ∧ PySem.W.alike da db = true ∧ da ≠ .none ∧ da.depth < 61 ∧ b' = PySem.W.dataLt da db := by
    intro l k x' y' v' u' b' r1 r2 q1 q2 hb
    unfold ltD at hb
    split at hb
    · rename_i da db h1 h2
      split at hb
      · rename_i hal
        cases hb
        obtain ⟨as, ra⟩ := (dat_rz I S 60 _ da x' v' h1 r1 q1).reads
        obtain ⟨bs, rb⟩ := (dat_rz I S 60 _ db y' u' h2 r2 q2).reads
        have := dat_depth (μ := μ) 60 _ da h1
        refine ⟨da, db, as, bs, ra, rb, hal, fun z => ?_, by omega, rfl⟩
        obtain ⟨ts, _, rfl⟩ := map_some' (show (omap (dat μ 59) l).map PyData.tuple = some da from h1)
        cases z
      · cases hb
    · cases hb
  unfold cmpop at hb
  split at hb
  · cases rd; cases re; cases hb
    exact op_eq pins s σ H _ _ v u Q I rx ry ⟨rfl, by simpa using q⟩
  · cases rd; cases re; cases hb
    exact op_ne pins s σ H _ _ v u Q I rx ry ⟨rfl, by simpa using q⟩
  · cases rd; cases re; cases hb
    exact op_eq pins s σ H _ _ v u Q I rx ry ⟨rfl, by simpa using q⟩
  · cases rd; cases re; cases hb
    exact op_ne pins s σ H _ _ v u Q I rx ry ⟨rfl, by simpa using q⟩
  · exact eqC b hb q
  · exact neC b hb q
  · cases rd; cases re; cases hb
    exact op_lt pins s σ H _ _ v u Q I rx ry ⟨_, _, rfl, rfl, q⟩
  · cases rd; cases re; cases hb
    exact op_le pins s σ H _ _ v u Q I rx ry ⟨_, _, rfl, rfl, q⟩
  · cases rd; cases re; cases hb
    exact op_gt pins s σ H _ _ v u Q I rx ry ⟨_, _, rfl, rfl, q⟩
  · cases rd; cases re; cases hb
    exact op_ge pins s σ H _ _ v u Q I rx ry ⟨_, _, rfl, rfl, q⟩
  · cases rd; cases re; cases hb
    exact op_le_str pins s σ H _ _ v u Q I rx ry ⟨_, _, rfl, rfl, by simpa using q⟩
  · obtain ⟨da, db, as, bs, ra, rb, hal, hnn, hdep, rfl⟩ := ltC _ _ _ _ rd re rx ry hb
    exact PySem.W.lt_data ra rb hal hnn (by omega) ⟨.bl _, H, I, rfl, q⟩
  · obtain ⟨da, db, as, bs, ra, rb, hal, hnn, hdep, rfl⟩ := ltC _ _ _ _ re rd ry rx hb
    obtain ⟨q1, q2⟩ := alike_sym hal hnn
    exact PySem.W.gt_data rb ra q1 q2 (by omega) ⟨.bl _, H, I, rfl, q⟩
  · obtain ⟨b', hb', rfl⟩ := map_some' hb
    obtain ⟨da, db, as, bs, ra, rb, hal, hnn, hdep, rfl⟩ := ltC _ _ _ _ re rd ry rx hb'
    obtain ⟨q1, q2⟩ := alike_sym hal hnn
    exact PySem.W.le_data rb ra q1 q2 (by omega) ⟨.bl _, H, I, rfl, q⟩
  · obtain ⟨b', hb', rfl⟩ := map_some' hb
    obtain ⟨da, db, as, bs, ra, rb, hal, hnn, hdep, rfl⟩ := ltC _ _ _ _ rd re rx ry hb'
    exact PySem.W.ge_data ra rb hal hnn (by omega) ⟨.bl _, H, I, rfl, q⟩
  · obtain ⟨p, its, rfl, ht, f, hf, rfl⟩ := inT _ b rfl hb
    exact SeqAt.in_tupleAt f ht hf ⟨.bl _, H, I, rfl, q⟩
  · obtain ⟨b', hb', rfl⟩ := map_some' hb
    obtain ⟨p, its, rfl, ht, f, hf, rfl⟩ := inT _ b' rfl hb'
    exact SeqAt.notIn_tupleAt f ht hf ⟨.bl _, H, I, rfl, q⟩
  · cases re with
    | rol hs hr =>
      cases ry
      obtain ⟨its, ht, f, hf, rfl⟩ := inR _ b _ _ rfl hs.sq hr hb
      exact SeqAt.in_listAt f ht hf ⟨.bl _, H, I, rfl, q⟩
  · obtain ⟨b', hb', rfl⟩ := map_some' hb
    cases re with
    | rol hs hr =>
      cases ry
      obtain ⟨its, ht, f, hf, rfl⟩ := inR _ b' _ _ rfl hs.sq hr hb'
      exact SeqAt.notIn_listAt f ht hf ⟨.bl _, H, I, rfl, q⟩
  · unfold inL at hb
    split at hb
    · rename_i l hl
      cases re with
      | loc hk =>
        cases ry
        obtain ⟨xs, hx, hr⟩ := S.lst hl hk
        obtain ⟨its, ht, f, hf, rfl⟩ := inR _ b _ _ rfl (SqL.of hx) hr hb
        exact SeqAt.in_listAt f ht hf ⟨.bl _, H, I, rfl, q⟩
    · cases hb
  · obtain ⟨b', hb', rfl⟩ := map_some' hb
    unfold inL at hb'
    split at hb'
    · rename_i l hl
      cases re with
      | loc hk =>
        cases ry
        obtain ⟨xs, hx, hr⟩ := S.lst hl hk
        obtain ⟨its, ht, f, hf, rfl⟩ := inR _ b' _ _ rfl (SqL.of hx) hr hb'
        exact SeqAt.notIn_listAt f ht hf ⟨.bl _, H, I, rfl, q⟩
    · cases hb'
  · cases rd; cases re; cases hb
    exact op_in_sign pins s σ H _ _ v u Q I rx ry ⟨_, _, rfl, rfl, by simpa using q⟩
  · cases rd; cases re; cases hb
    exact op_notIn_sign pins s σ H _ _ v u Q I rx ry ⟨_, _, rfl, rfl, by simpa using q⟩
  · cases re; cases hb
    refine op_isN pins s σ H _ _ v u Q I rx ry ⟨rfl, ?_⟩
    cases rd <;> simpa [isNon] using q
  · cases re; cases hb
    refine op_notN pins s σ H _ _ v u Q I rx ry ⟨rfl, ?_⟩
    cases rd <;> simpa [isNon] using q
  · cases rd; cases re; cases hb
    cases rx; cases ry
    rename_i x y
    show wpAny _ _ (isSame (Value.bool x) (Value.bool y) >>= fun z => pure (Value.bool z)) _ _ s
    refine wpAny_bind (wpAny_isSame_plain rfl (wpAny_pure ⟨.bl (decide (x = y)), H, I, ?_, q⟩))
    cases x <;> cases y <;> rfl
  · cases hb
end
end Ev

namespace Ev
open PySem PySem.Spec L2

theorem ixn_eq (n : Nat) (i : Int) : ixn n i = L2.ixN n i := rfl
theorem clip_sIx (n d : Nat) (o : Option Int) : clip n d o = HT.sIx n d o := by cases o <;> rfl
theorem clip_le (n d : Nat) (o : Option Int) (hd : d ≤ n) : clip n d o ≤ n := by rw [clip_sIx]; exact HT.sIx_le _ _ hd _
theorem cut_length {α : Type} (l : List α) (lo hi : Option Int) : (cut l lo hi).length ≤ l.length := by
  unfold cut
  rw [List.length_take, List.length_drop]; omega
section
variable {K : PySem.W.Frag} {ι : Ix} {H : Hp} {l : List D} {xs : List V}
theorem RelL.cut (h : RelL K H ι l xs) (lo hi : Option Int) : RelL K H ι (Ev.cut l lo hi) (cutV xs lo hi) := by
  unfold Ev.cut cutV
  rw [clip_sIx, clip_sIx, h.length]
  exact (h.drop _).take _
theorem RelL.at {i : Int} {d : D} (h : RelL K H ι l xs) (e : (ixn l.length i).bind (fun k => l[k]?) = some d) : ∃ v, atI xs i = some v ∧ Rel K H ι d v := by
  unfold atI
  rw [← h.length]
  cases q : ixn l.length i with
  | none => rw [q] at e; cases e
  | some k =>
    rw [q] at e
    obtain ⟨v, h1, h2⟩ := h.get (show l[k]? = some d from e)
    exact ⟨v, by rw [← ixn_eq, q]; exact h1, h2⟩
end

/-! ### a[i] -/
def rIxE (K : PySem.W.Frag) : R2 := fun x y H Q => ∃ ι μ d e r μ', StOk K H ι μ ∧ Rel K H ι d x ∧ Rel K H ι e y ∧ ixop d e μ = .ok r μ' ∧ Aft K ι H Q r μ'
section
variable {X : Cx}
theorem ix_ev : IxR X (rIxE X.K) := by
  intro value slice pins s σ H x y v u Q I rx ry h hs
  obtain ⟨ι, μ, d, e, r, μ', S, rd, re, hb, ha⟩ := h
  unfold ixop at hb
  split at hb
  · split at hb
    · rename_i q
      cases hb
      cases re
      cases rd with
      | tup h1 h2 =>
        obtain ⟨w, q1, q2⟩ := h2.at q
        exact ix_tup value slice pins s σ H _ _ v u Q I rx ry ⟨_, _, _, _, rfl, rfl, h1, q1, ha.here S q2⟩ hs
    · cases hb
  · split at hb
    · rename_i q
      cases hb
      cases re
      cases rd with
      | rol h1 h2 =>
        obtain ⟨w, q1, q2⟩ := h2.at q
        exact ix_list value slice pins s σ H _ _ v u Q I rx ry ⟨_, _, _, _, rfl, rfl, h1.sq, q1, ha.here S q2⟩ hs
    · cases hb
  · split at hb
    · rename_i q
      cases hb
      cases re
      cases rd with
      | frl h1 h2 =>
        obtain ⟨w, q1, q2⟩ := h2.at q
        exact ix_list value slice pins s σ H _ _ v u Q I rx ry ⟨_, _, _, _, rfl, rfl, h1.sq, q1, ha.here S q2⟩ hs
    · cases hb
  · split at hb
    · rename_i l hl
      split at hb
      · rename_i q
        cases hb
        cases re
        cases rd with
        | loc h1 =>
          obtain ⟨xs, e1, h2⟩ := S.lst hl h1
          obtain ⟨w, q1, q2⟩ := h2.at q
          exact ix_list value slice pins s σ H _ _ v u Q I rx ry ⟨_, _, _, _, rfl, rfl, SqL.of e1, q1, ha.here S q2⟩ hs
      · cases hb
    · cases hb
  · split at hb
    · rename_i c q
      split at hb
      · rename_i hc
        cases hb
        cases re
        cases rd
        rw [room_eq] at hc
        refine ix_str value slice pins s σ H _ _ v u Q I rx ry ⟨_, _, c, rfl, rfl, by simpa [Str.length] using hc, ?_, ha.here S (.str [c])⟩ hs
        unfold atI
        simpa [ixn_eq] using q
      · cases hb
    · cases hb
  · cases hb

/-! ### a[i:j] -/
def rSlE (K : PySem.W.Frag) : V → Option Int → Option Int → Hp → VK → Prop := fun x lo hi H Q => ∃ ι μ d r μ', StOk K H ι μ ∧ Rel K H ι d x ∧ slop d lo hi μ = .ok r μ' ∧ Aft K ι H Q r μ'
theorem sl_ev : SlR X (rSlE X.K) := by
  intro pins s σ H x v vl vu lo hi sl Q I rx hs pl pu h
  obtain ⟨ι, μ, d, r, μ', S, rd, hb, ha⟩ := h
  unfold slop at hb
  split at hb
  · cases hb
    cases rd with
    | @tup _ _ xs h1 h2 =>
      refine sl_tupA pins s σ H _ v vl vu lo hi sl Q I rx hs pl pu ⟨_, _, rfl, h1, fun hw => ?_, fun _ p hp => ha.tup S (h2.cut lo hi) hp⟩
      have e : cutV xs lo hi = xs := by
        unfold cutV
        rw [hw.1, hw.2, List.drop_zero, Nat.sub_zero, List.take_length]
      have q := h2.cut lo hi
      rw [e] at q
      exact ha.here S (.tup h1 q)
  · split at hb
    · rename_i hc
      cases hb
      rename_i z
      cases rd
      rw [room_eq] at hc
      refine sl_str pins s σ H _ v vl vu lo hi sl Q I rx hs pl pu ⟨_, rfl, by simpa [Str.length] using hc, ?_⟩
      have e : cutS ⟨z.toArray⟩ lo hi = ⟨(Ev.cut z lo hi).toArray⟩ := by
        unfold cutS Ev.cut
        rw [clip_sIx, clip_sIx]
        simp [Str.length]
      rw [e]
      exact ha.here S (.str _)
    · cases hb
  · cases hb
    cases rd with
    | rol h1 h2 => exact sl_list pins s σ H _ v vl vu lo hi sl Q I rx hs pl pu ⟨_, _, rfl, h1.sq, fun p hp => ha.rol S (h2.cut lo hi) hp⟩
  · split at hb
    · rename_i l hl
      cases hb
      cases rd with
      | loc h1 =>
        obtain ⟨xs, e1, h2⟩ := S.lst hl h1
        exact sl_list pins s σ H _ v vl vu lo hi sl Q I rx hs pl pu ⟨_, _, rfl, SqL.of e1, fun p hp => ha.rol S (h2.cut lo hi) hp⟩
    · cases hb
  · cases hb
end
end Ev

namespace Ev
open PySem PySem.Spec L2

/-! ### built-in functions, types -/
def bltV : Bi → Value
  | .len => .builtin "len" | .repr => .builtin "repr" | .abs => .builtin "abs" | .int => .type "int" | .str => .type "str" | .list => .type "list" | .tuple => .type "tuple"
  | .all => .builtin "all" | .any => .builtin "any" | .max2 => .builtin "max" | .min2 => .builtin "min" | .listM => .type "list" | .sum => .builtin "sum" | .sorted => .builtin "sorted" | .rng1 => .type "range" | .rng2 => .type "range" | .tru => .none
def rBlt (K : PySem.W.Frag) (b : Bi) : List V → Hp → VK → Prop := fun xs H Q => ∃ ι μ ds r μ', StOk K H ι μ ∧ RelL K H ι ds xs ∧ bltop b ds μ = .ok r μ' ∧ Aft K ι H Q r μ'
section
variable {K : PySem.W.Frag} {ι : Ix} {H : Hp} {μ : Sto} {l : List D} {d : D} {v : V}
/-- items, where they stand -/
theorem items_of (S : StOk K H ι μ) (h : itemsD μ d = some l) (r : Rel K H ι d v) : ∃ a xs, v = .ref a ∧ RelL K H ι l xs ∧ ((SqL K H a xs) ∨ (SqT K H a xs ∧ d = .tup l)) := by
  cases d with
  | tup l' => cases h; cases r with | tup h1 h2 => exact ⟨_, _, rfl, h2, .inr ⟨h1, rfl⟩⟩
  | rol l' => cases h; cases r with | rol h1 h2 => exact ⟨_, _, rfl, h2, .inl h1.sq⟩
  | frl l' => cases h; cases r with | frl h1 h2 => exact ⟨_, _, rfl, h2, .inl h1.sq⟩
  | loc n =>
    cases r with
    | loc ha =>
      simp only [itemsD] at h
      split at h
      · rename_i hl
        cases h
        obtain ⟨xs, e, h2⟩ := S.lst hl ha
        exact ⟨_, _, rfl, h2, .inl (SqL.of e)⟩
      · cases h
  | _ => cases h
theorem bls_of : ∀ {l : List D} {bs : List Bool} {xs : List V}, omap blD l = some bs → RelL K H ι l xs → xs = bs.map V.bl := by
  intro l
  induction l with
  | nil => intro bs xs h r; cases h; cases r; rfl
  | cons d l ih =>
    intro bs xs h r
    obtain ⟨b, bs', h1, h2, rfl⟩ := omap_cons h
    cases r with
    | cons r1 r2 =>
      rw [ih h2 r2]
      cases d <;> first | (cases h1; cases r1; rfl) | cases h1
end
section
variable {X : Cx}
theorem call_strB {X : Cx} : CallR X (.type "str") (fun xs H Q => ∃ b : Bool, xs = [.bl b] ∧ Q (.str (if b then "True" else "False" : String)) H) := by
  intro pins s σ H xs us Q I r h
  obtain ⟨b, rfl, q⟩ := h
  obtain ⟨u, rfl, e⟩ := vals1 r
  cases e
  refine PySem.P.str_of_bool ?_
  cases b <;> exact ⟨.str _, H, I.tok _, ⟨_, rfl⟩, q⟩
theorem textB {K : PySem.W.Frag} {H : Hp} {ι : Ix} (b : Bool) : Rel K H ι (.str (if b = true then [84, 114, 117, 101] else [70, 97, 108, 115, 101])) (.str (if b then "True" else "False" : String)) := by
  cases b
  · have e : ((if false = true then "True" else "False" : String) : Str) = ⟨[70, 97, 108, 115, 101].toArray⟩ := by decide
    rw [e]; exact .str _
  · have e : ((if true = true then "True" else "False" : String) : Str) = ⟨[84, 114, 117, 101].toArray⟩ := by decide
    rw [e]; exact .str _
theorem ls_rel' {K : PySem.W.Frag} {ι : Ix} {H : Hp} {μ : Sto} {x : D} {l : List D} {v : V} (S : StOk K H ι μ) (h : lsD μ x = some l) (r : Rel K H ι x v) : ∃ a xs, v = V.ref a ∧ SqL K H a xs ∧ RelL K H ι l xs := by
  cases x with
  | rol k =>
    cases h
    cases r with
    | rol h1 h2 => exact ⟨_, _, rfl, h1.sq, h2⟩
  | loc n =>
    cases r with
    | loc hk =>
      simp only [lsD] at h
      split at h
      · rename_i hl
        cases h
        obtain ⟨xs, e, h3⟩ := S.lst hl hk
        exact ⟨_, xs, rfl, SqL.of e, h3⟩
      · cases h
  | _ => cases h
theorem ints_rel {K : PySem.W.Frag} {ι : Ix} {H : Hp} : ∀ {l : List D} {ns : List Int} {xs : List V}, omap intD l = some ns → RelL K H ι l xs → xs = ns.map V.int
  | [], ns, xs, h, r => by cases h; cases r; rfl
  | d :: l, ns, xs, h, r => by
    obtain ⟨n, ns', h1, h2, rfl⟩ := omap_cons h
    cases r with
    | cons r1 r2 =>
      cases d with
      | int z => cases h1; cases r1; rw [ints_rel h2 r2]; rfl
      | _ => cases h1
theorem omap_length {α β : Type} {f : α → Option β} : ∀ {l : List α} {r : List β}, omap f l = some r → r.length = l.length
  | [], r, h => by cases h; rfl
  | a :: l, r, h => by
    obtain ⟨b, bs, h1, h2, rfl⟩ := omap_cons h
    rw [List.length_cons, List.length_cons, omap_length h2]
theorem reads_all {X : Cx} {pins : List (Addr × Obj)} {σ : L2.St} {H : Hp} {s : Shared} {ι : Ix} {μ : Sto} (I : L2.Inv X pins σ H s) (S : StOk X.K H ι μ) : ∀ {l : List D} {ds : List PyData} {vs : List V} {us : List Value}, omap (dat μ 60) l = some ds → RelL X.K H ι l vs → Vals vs us → ∃ as, ReadsAll s.heap us ds as
  | [], ds, vs, us, h, r, q => by cases h; cases r; cases q; exact ⟨_, .nil⟩
  | d :: l, ds, vs, us, h, r, q => by
    obtain ⟨b, bs, h1, h2, rfl⟩ := omap_cons h
    cases r with
    | cons r1 r2 =>
      cases q with
      | cons q1 q2 =>
        obtain ⟨as, g1⟩ := (dat_rz I S 60 d b _ _ h1 r1 q1).reads
        obtain ⟨bs', g2⟩ := reads_all I S h2 r2 q2
        exact ⟨_, .cons g1 g2⟩
theorem depth_all {μ : Sto} : ∀ {l : List D} {ds : List PyData}, omap (dat μ 60) l = some ds → ∀ d ∈ ds, d.depth < 61
  | [], ds, h, d, hd => by cases h; cases hd
  | a :: l, ds, h, d, hd => by
    obtain ⟨b, bs, h1, h2, rfl⟩ := omap_cons h
    rcases List.mem_cons.mp hd with rfl | hd
    · have := dat_depth (μ := μ) 60 a _ h1; omega
    · exact depth_all h2 d hd
theorem depthAll_le {n : Nat} : ∀ {ds : List PyData}, (∀ d ∈ ds, d.depth ≤ n) → PyData.depthAll ds ≤ n
  | [], _ => by simp [PyData.depthAll]
  | d :: ds, h => by
    rw [PyData.depthAll]
    have := h d List.mem_cons_self
    have := depthAll_le (ds := ds) fun x hx => h x (List.mem_cons_of_mem _ hx)
    omega
/-- a value that stands for an item, with its data -/
def ItR (K : PySem.W.Frag) (H : Hp) (ι : Ix) (u : Value) (p : D × PyData) : Prop := ∃ v, RelV v u ∧ Rel K H ι p.1 v
theorem each_items {X : Cx} {pins : List (Addr × Obj)} {σ : L2.St} {H : Hp} {s : Shared} {ι : Ix} {μ : Sto} (I : L2.Inv X pins σ H s) (S : StOk X.K H ι μ) : ∀ {l : List D} {ds : List PyData} {vs : List V} {us : List Value}, omap (dat μ 60) l = some ds → RelL X.K H ι l vs → Vals vs us →
    PySem.W.EachIs (ItR X.K H ι) us (l.zip ds) ∧ PySem.W.EachIs (fun v b => ∃ as, Reads s.heap v b.2 as) us (l.zip ds) ∧ (l.zip ds).map (·.2) = ds
  | [], ds, vs, us, h, r, q => by cases h; cases r; cases q; exact ⟨.nil, .nil, rfl⟩
  | d :: l, ds, vs, us, h, r, q => by
    obtain ⟨b, bs, h1, h2, rfl⟩ := omap_cons h
    cases r with
    | cons r1 r2 =>
      cases q with
      | cons q1 q2 =>
        obtain ⟨as, g1⟩ := (dat_rz I S 60 d b _ _ h1 r1 q1).reads
        obtain ⟨i1, i2, i3⟩ := each_items I S h2 r2 q2
        exact ⟨.cons ⟨_, q1, r1⟩ i1, .cons ⟨_, g1⟩ i2, by rw [List.zip_cons_cons, List.map_cons, i3]⟩
theorem each_out {K : PySem.W.Frag} {H : Hp} {ι : Ix} : ∀ {us : List Value} {ps : List (D × PyData)}, PySem.W.EachIs (ItR K H ι) us ps → ∃ vs, Vals vs us ∧ RelL K H ι (ps.map (·.1)) vs
  | [], [], _ => ⟨[], .nil, .nil⟩
  | u :: us, p :: ps, h => by
    cases h with
    | cons h1 h2 =>
      obtain ⟨v, q1, q2⟩ := h1
      obtain ⟨vs, r1, r2⟩ := each_out h2
      exact ⟨v :: vs, .cons q1 r1, .cons q2 r2⟩
  | [], _ :: _, h => by cases h
  | _ :: _, [], h => by cases h
theorem sortable_ok {ds : List PyData} (h : sortable ds = true) : PySem.W.Sortable ds := by
  unfold sortable at h
  rw [Bool.or_eq_true] at h
  rcases h with h | h
  · refine .inl fun d hd => ?_
    have := List.all_eq_true.mp h d hd
    cases d with
    | tuple xs =>
      cases xs with
      | nil => cases this
      | cons x r => exact ⟨x, r, rfl⟩
    | _ => cases this
  · refine .inr fun d hd => ?_
    have := List.all_eq_true.mp h d hd
    cases d with
    | none => cases this
    | tuple xs => cases this
    | _ => exact ⟨(by intro z; cases z), (by intro xs z; cases z)⟩
theorem alikes_ok {ds : List PyData} (h : (ds.all fun a => ds.all fun b => PySem.W.alike a b) = true) : PySem.W.AllAlike ds := fun d hd e he => List.all_eq_true.mp (List.all_eq_true.mp h d hd) e he
def rSortD (K : PySem.W.Frag) : List V → Hp → VK → Prop := fun xs H Q => ∃ ι μ x l r, StOk K H ι μ ∧ (∃ v, xs = [v] ∧ Rel K H ι x v) ∧ lsD μ x = some l ∧ sortedD μ l = some r ∧ Aft K ι H Q (.rol r) μ
theorem call_sortD {X : Cx} (hu : X.A.units + 100 < cLine) : CallR X (.builtin "sorted") (rSortD X.K) := by
  intro pins s σ H xs us Q I rs h
  obtain ⟨ι, μ, x, l, r, S, ⟨v, rfl, rx⟩, hl, hs, ha⟩ := h
  obtain ⟨a, ys, rfl, sq, rl⟩ := ls_rel' S hl rx
  rw [Vals.ref1 rs]
  obtain ⟨its, rv, pl, hz⟩ := I.list sq
  unfold sortedD at hs
  split at hs
  · rename_i ds hds
    split at hs
    · rename_i hc
      cases hs
      rw [Bool.and_eq_true, Bool.and_eq_true, decide_eq_true_eq] at hc
      obtain ⟨⟨c1, c2⟩, c3⟩ := hc
      obtain ⟨e1, e2, e3⟩ := each_items I S hds rl rv
      have hlen : (l.zip ds).length ≤ sizeLine := by
        have := omap_length hds
        rw [List.length_zip, sizeLine_eq]
        have c3' : l.length ≤ 16777216 := c3
        omega
      refine PySem.W.sorted_data (enc := fun p : D × PyData => p.2) pl.isList e1 e2 (by rw [e3]; exact alikes_ok c1) (by rw [e3]; exact sortable_ok c2) hlen (fun b hb => ?_) fun out ol eo => ?_
      · have : b.2 ∈ ds := by rw [← e3]; exact List.mem_map.mpr ⟨b, hb, rfl⟩
        have := depth_all hds _ this
        omega
      · obtain ⟨vs, w1, w2⟩ := each_out eo
        obtain ⟨ep, he'⟩ := PyProof.Rows.sortedAll_at s.heap its out.toArray
        have hvl : vs.length ≤ sizeLine := by rw [w1.length, ol]; exact hlen
        exact ⟨.ref _, upd H (s.heap.objs.size + 1) (.lst vs), I.laid (t' := s.toks) (fun _ _ => PyProof.Rows.sortedAll_old) (Nat.le_succ _) ⟨hvl, out, ep, w1, he'⟩, rfl, ha.rol S w2 (I.hok.fresh (Nat.le_succ _))⟩
    · cases hs
  · cases hs
theorem cr_range1 {X : Cx} : CallR X (.type "range") (fun vs H Q => ∃ j, vs = [V.int j] ∧ ∀ p, H p = none → Q (.ref p) (upd H p (.rng 0 j))) := by
  intro pins s σ H vs us Q I r h
  obtain ⟨j, rfl, q⟩ := h
  obtain ⟨u1, rfl, rj⟩ := vals1 r
  obtain ⟨t, rfl⟩ := rj
  refine call_range_1 ⟨.ref s.heap.objs.size, upd H s.heap.objs.size (.rng 0 j), I.laid (t' := s.toks + 2) (fun b o e => Heap.get?_push_of_some _ e) (Nat.le_refl _) ?_, rfl, q _ (I.hok.fresh (Nat.le_refl _))⟩
  exact ⟨_, _, _, Heap.get?_push_size _ rfl⟩
theorem Aft.rng {K : PySem.W.Frag} {ι : Ix} {H : Hp} {μ : Sto} {Q : VK} {i j : Int} {p : Addr} (ha : Aft K ι H Q (.rng i j) μ) (S : StOk K H ι μ) (hp : H p = none) : Q (.ref p) (upd H p (HO.rng i j)) :=
  ha ι _ _ (Grow.fresh hp) (S.fresh hp) (.rng upd_same)
theorem call_blt (hc : X.calm = true) (hg : X.A.guards = some []) (hu : X.A.units + 100 < cLine) (b : Bi) (hnt : b ≠ .tru) : CallR X (bltV b) (rBlt X.K b) := by
  intro pins s σ H xs us Q I rs h
  obtain ⟨ι, μ, ds, r, μ', S, rd, hb, ha⟩ := h
  unfold bltop at hb
  split at hb
  · -- len
    split at hb
    · rename_i n h2
      cases hb
      cases rd with
      | cons r1 r2 =>
        cases r2
        rename_i d _ v
        refine call_len pins s σ H _ us Q I rs ⟨v, n, rfl, ?_, ha.here S (.int _)⟩
        cases d with
        | tup l => cases h2; cases r1 with | tup h1 h2 => exact .inr ⟨_, h1, h2.length⟩
        | rol l => cases h2; cases r1 with | rol h1 h2 => exact .inl ⟨_, h1.sq, h2.length⟩
        | frl l => cases h2; cases r1 with | frl h1 h2 => exact .inl ⟨_, h1.sq, h2.length⟩
        | str z =>
          simp only [lenD] at h2
          split at h2
          · rename_i hz
            cases h2
            cases r1
            rw [room_eq] at hz
            exact ⟨by simpa [Str.length] using hz, by simp [Str.length]⟩
          · cases h2
        | loc k =>
          cases r1 with
          | loc hk =>
            simp only [lenD] at h2
            split at h2
            · rename_i hl
              cases h2
              obtain ⟨xs, e, h3⟩ := S.lst hl hk
              exact .inl ⟨_, SqL.of e, h3.length⟩
            · cases h2
        | _ => cases h2
    · cases hb
  · -- repr
    obtain ⟨h1, rfl⟩ := ofO_ok hb
    obtain ⟨z, h2, rfl⟩ := map_some' h1
    cases rd with
    | cons r1 r2 =>
      cases r2
      exact call_show hg hu pins s σ H _ us Q I rs ⟨_, ι, _, _, z, rfl, S, r1, h2, ha.here S (.str _)⟩
  · -- abs
    cases hb
    cases rd with
    | cons r1 r2 =>
      cases r2; cases r1
      exact call_abs pins s σ H _ us Q I rs ⟨_, rfl, ha.here S (.int _)⟩
  · cases hb
    cases rd with
    | cons r1 r2 =>
      cases r2; cases r1
      exact call_int1 pins s σ H _ us Q I rs (.inl ⟨_, rfl, ha.here S (.int _)⟩)
  · cases hb
    cases rd with
    | cons r1 r2 =>
      cases r2; cases r1
      exact call_int1 pins s σ H _ us Q I rs (.inr ⟨_, rfl, ha.here S (.int _)⟩)
  · split at hb
    · rename_i i hz
      cases hb
      cases rd with
      | cons r1 r2 =>
        cases r2; cases r1
        refine call_str_int pins s σ H _ us Q I rs ⟨_, rfl, ?_, by simpa using ha.here S (.str _)⟩
        by_cases e : i.natAbs = 0
        · rw [e]; decide
        · have := (Nat.log2_lt e).mpr hz
          omega
    · cases hb
  · cases hb
    cases rd with
    | cons r1 r2 =>
      cases r2; cases r1
      exact call_strB pins s σ H _ us Q I rs ⟨_, rfl, ha.here S (textB _)⟩
  · split at hb
    · rename_i l hl
      cases hb
      cases rd with
      | cons r1 r2 =>
        cases r2
        obtain ⟨a, xs, rfl, h1, h2⟩ := items_of S hl r1
        refine call_list_of pins s σ H _ us Q I rs ⟨a, xs, rfl, ?_, fun p hp => ha.rol S h1 hp⟩
        rcases h2 with h2 | ⟨h2, _⟩
        · exact .inl h2
        · exact .inr h2
    · cases hb
  · split at hb
    · rename_i l hl
      cases hb
      cases rd with
      | cons r1 r2 =>
        cases r2
        obtain ⟨a, xs, rfl, h1, h2⟩ := items_of S hl r1
        refine call_list_of pins s σ H _ us Q I rs ⟨a, xs, rfl, ?_, fun p hp => ha.lst S h1 hp⟩
        rcases h2 with h2 | ⟨h2, _⟩
        · exact .inl h2
        · exact .inr h2
    · cases hb
  · split at hb
    · rename_i l hl
      cases hb
      cases rd with
      | cons r1 r2 =>
        cases r2
        obtain ⟨a, xs, rfl, h1, h2⟩ := items_of S hl r1
        refine call_tuple_of pins s σ H _ us Q I rs ⟨a, xs, rfl, ?_⟩
        rcases h2 with h2 | ⟨h2, e⟩
        · exact .inl ⟨h2, fun p hp => ha.tup S h1 hp⟩
        · subst e
          exact .inr ⟨h2, ha.here S r1⟩
    · cases hb
  · split at hb
    · rename_i bs hl
      cases hb
      cases rd with
      | cons r1 r2 =>
        cases r2
        cases r1 with
        | rol h1 h2 =>
          rw [bls_of hl h2] at h1
          exact cr_all hc pins s σ H _ us Q I rs ⟨_, bs, rfl, h1.sq, ha.here S (.bl _)⟩
    · cases hb
  · split at hb
    · rename_i bs hl
      cases hb
      cases rd with
      | cons r1 r2 =>
        cases r2
        cases r1 with
        | rol h1 h2 =>
          rw [bls_of hl h2] at h1
          exact cr_any hc pins s σ H _ us Q I rs ⟨_, bs, rfl, h1.sq, ha.here S (.bl _)⟩
    · cases hb
  · obtain ⟨h1, rfl⟩ := ofO_ok hb
    obtain ⟨ns, h2, rfl⟩ := map_some' h1
    obtain ⟨l, h3, h4⟩ := Option.bind_eq_some_iff.mp h2
    cases rd with
    | cons r1 r2 =>
      cases r2
      obtain ⟨a, xs, rfl, sq, rl⟩ := ls_rel' S h3 r1
      rw [ints_rel h4 rl] at sq
      exact cr_sum hc pins s σ H _ us Q I rs ⟨a, ns, rfl, sq, ha.here S (.int _)⟩
  · obtain ⟨h1, rfl⟩ := ofO_ok hb
    obtain ⟨r, h2, rfl⟩ := map_some' h1
    obtain ⟨l, h3, h4⟩ := Option.bind_eq_some_iff.mp h2
    cases rd with
    | cons r1 r2 =>
      cases r2
      exact call_sortD hu pins s σ H _ us Q I rs ⟨ι, _, _, l, r, S, ⟨_, rfl, r1⟩, h3, h4, ha⟩
  · exact absurd rfl hnt
  · split at hb
    · cases hb
      cases rd with
      | cons r1 r2 =>
        cases r2; cases r1
        exact cr_range1 pins s σ H _ us Q I rs ⟨_, rfl, fun p hp => ha.rng S hp⟩
    · cases hb
  · split at hb
    · cases hb
      cases rd with
      | cons r1 r2 =>
        cases r2 with
        | cons r2 r3 =>
          cases r3; cases r1; cases r2
          exact cr_range2 pins s σ H _ us Q I rs ⟨_, _, rfl, fun p hp => ha.rng S hp⟩
    · cases hb
  · cases hb
    cases rd with
    | cons r1 r2 =>
      cases r2 with
      | cons r2 r3 =>
        cases r3; cases r1; cases r2
        exact call_max2 hc pins s σ H _ us Q I rs ⟨_, _, rfl, ha.here S (.int _)⟩
  · cases hb
    cases rd with
    | cons r1 r2 =>
      cases r2 with
      | cons r2 r3 =>
        cases r3; cases r1; cases r2
        exact call_min2 hc pins s σ H _ us Q I rs ⟨_, _, rfl, ha.here S (.int _)⟩
  · cases hb

/-! ### isinstance -/
def tyN : Ty → String
  | .int => "int" | .str => "str" | .bool => "bool" | .tuple => "tuple" | .list => "list" | .dict => "dict"
def rIsE (K : PySem.W.Frag) (t : Ty) : List V → Hp → VK → Prop := fun xs H Q => ∃ ι μ d x, xs = [x, .ty (tyN t)] ∧ StOk K H ι μ ∧ Rel K H ι d x ∧ noRng d = true ∧ Q (.bl (isTy μ d t)) H
theorem call_isE (t : Ty) : CallR X (.builtin "isinstance") (rIsE X.K t) := by
  intro pins s σ H xs us Q I rs h
  obtain ⟨ι, μ, d, x, rfl, S, r, hn, q⟩ := h
  have go : ∀ (ty : String) (b : Bool), TyX X.K H x (.type ty) → kitB ty (tyN t) = some b → isTy μ d t = b → wpAny (model X.prog X.w) X.A (PySem.call (.builtin "isinstance") us) (EP X pins σ Q) X.xe s := by
    intro ty b h1 h2 h3
    rw [h3] at q
    exact call_isi pins s σ H _ us Q I rs ⟨x, _, _, _, b, rfl, .ty _, h1, kit_ty h2, q⟩
  cases d with
  | non => cases r; exact go "NoneType" false (.base .non) (by cases t <;> decide +kernel) rfl
  | bl b => cases r; cases t <;> first | exact go "bool" true (.base (.bl _)) (by decide +kernel) rfl | exact go "bool" false (.base (.bl _)) (by decide +kernel) rfl
  | int b => cases r; cases t <;> first | exact go "int" true (.base (.int _)) (by decide +kernel) rfl | exact go "int" false (.base (.int _)) (by decide +kernel) rfl
  | str b => cases r; cases t <;> first | exact go "str" true (.base (.str _)) (by decide +kernel) rfl | exact go "str" false (.base (.str _)) (by decide +kernel) rfl
  | tup l =>
    cases r with
    | @tup _ a _ h1 h2 =>
      have ty : TyX X.K H (.ref a) (.type "tuple") := by
        rcases h1 with (h1 | ⟨o, h1⟩) | ⟨o, its, n, h1, hc, _⟩
        · exact .base (.tup h1)
        · exact .fTuple h1
        · exact .kTuple h1 hc
      cases t <;> first | exact go "tuple" true ty (by decide +kernel) rfl | exact go "tuple" false ty (by decide +kernel) rfl
  | rol l =>
    cases r with
    | @rol _ a _ h1 h2 =>
      have ty : TyX X.K H (.ref a) (.type "list") := .base (.lst h1.2.2)
      cases t <;> first | exact go "list" true ty (by decide +kernel) rfl | exact go "list" false ty (by decide +kernel) rfl
  | dct l =>
    cases r with
    | @dct _ a _ h1 h2 =>
      have ty : TyX X.K H (.ref a) (.type "dict") := .base (.dK h1.2.2)
      cases t <;> first | exact go "dict" true ty (by decide +kernel) rfl | exact go "dict" false ty (by decide +kernel) rfl
  | frl l =>
    cases r with
    | @frl _ a _ h1 h2 =>
      have ty : TyX X.K H (.ref a) (.type "list") := by
        rcases h1 with ⟨o, h1⟩ | ⟨o, its, n, h1, hc, _⟩
        · exact .base (.frz h1)
        · exact .kList h1 hc
      cases t <;> first | exact go "list" true ty (by decide +kernel) rfl | exact go "list" false ty (by decide +kernel) rfl
  | rng i j =>
    cases hn
  | exo c l =>
    cases hn
  | loc k =>
    cases r with
    | loc hk =>
      have hlt : k < μ.length := by rw [← S.len]; exact (List.getElem?_eq_some_iff.mp hk).1
      obtain ⟨a, h1, h2⟩ := S.ok k _ (List.getElem?_eq_getElem hlt)
      rw [hk] at h1; cases h1
      cases e : μ[k] with
      | lst l =>
        have el : μ[k]? = some (.lst l) := by rw [List.getElem?_eq_getElem hlt, e]
        rw [e] at h2
        obtain ⟨xs, h3, _⟩ := h2
        cases t <;> first | exact go "list" true (.base (.lst h3)) (by decide +kernel) (by simp [isTy, el]) | exact go "list" false (.base (.lst h3)) (by decide +kernel) (by simp [isTy, el])
      | dic l =>
        have el : μ[k]? = some (.dic l) := by rw [List.getElem?_eq_getElem hlt, e]
        rw [e] at h2
        obtain ⟨xs, h3, _⟩ := h2
        cases t <;> first | exact go "dict" true (.base (.dK h3)) (by decide +kernel) (by simp [isTy, el]) | exact go "dict" false (.base (.dK h3)) (by decide +kernel) (by simp [isTy, el])

/-! ### methods -/
def mthV : Mt → String
  | .append => "list.append" | .extend => "list.extend" | .popAt => "list.pop" | .insert => "list.insert" | .upper => "str.upper" | .index => "list.index" | .count => "list.count"
def isRowM : Mt → Bool
  | .index => true | .count => true | _ => false
def rMth (K : PySem.W.Frag) (m : Mt) : V → List V → Hp → VK → Prop := fun x xs H Q => ∃ ι μ d ds r μ', StOk K H ι μ ∧ Rel K H ι d x ∧ RelL K H ι ds xs ∧ mthop m d ds μ = .ok r μ' ∧ Aft K ι H Q r μ'
theorem mt_ev (m : Mt) (hm : isRowM m = false) : MtR X (mthV m) (rMth X.K m) := by
  intro pins s σ H x xs v us Q I rx rs h
  obtain ⟨ι, μ, d, ds, r, μ', S, rd, rds, hb, ha⟩ := h
  unfold mthop at hb
  split at hb
  · split at hb
    · rename_i l hl
      split at hb
      · rename_i hz
        cases hb
        cases rd with
        | loc hk =>
          cases rds with
          | cons r1 r2 =>
            cases r2
            obtain ⟨ys, e, h3⟩ := S.lst hl hk
            rw [room_eq, h3.length] at hz
            exact mt_append pins s σ H _ _ v us Q I rx rs ⟨_, _, _, rfl, rfl, e, hz, ha.put S hl hk (h3.append (.cons r1 .nil)) .non⟩
      · cases hb
    · cases hb
  · split at hb
    · rename_i l k hl hk2
      split at hb
      · rename_i hz
        cases hb
        cases rd with
        | loc hk =>
          cases rds with
          | cons r1 r2 =>
            cases r2
            cases r1 with
            | loc hj =>
              obtain ⟨ys, e, h3⟩ := S.lst hl hk
              obtain ⟨zs, e2, h4⟩ := S.lst hk2 hj
              rw [room_eq, h3.length, h4.length] at hz
              exact mt_extend pins s σ H _ _ v us Q I rx rs ⟨_, _, _, _, rfl, rfl, e, e2, hz, ha.put S hl hk (h3.append h4) .non⟩
      · cases hb
    · cases hb
  · split at hb
    · rename_i k a _ l hl
      split at hb
      · rename_i hz
        cases hb
        cases rd with
        | loc hk =>
          cases rds with
          | cons r1 r2 =>
            cases r2
            cases r1 with
            | rol hj h4 =>
              obtain ⟨ys, e, h3⟩ := S.lst hl hk
              rw [room_eq, h3.length, h4.length] at hz
              exact mt_extend pins s σ H _ _ v us Q I rx rs ⟨_, _, _, _, rfl, rfl, e, hj.2.2, hz, ha.put S hl hk (h3.append h4) .non⟩
      · cases hb
    · cases hb
  · split at hb
    · rename_i i _ l hl
      split at hb
      · rename_i k hk1
        split at hb
        · rename_i y hy
          cases hb
          cases rd with
          | loc hk =>
            cases rds with
            | cons r1 r2 =>
              cases r2; cases r1
              obtain ⟨ys, e, h3⟩ := S.lst hl hk
              obtain ⟨w, hw1, hw2⟩ := h3.get hy
              rw [ixn_eq, h3.length] at hk1
              obtain ⟨q1, q2, q3, q4⟩ := ixN_seq hk1
              have hz := (I.lstM e).1
              rw [sizeLine_eq] at hz
              exact mt_popAt pins s σ H _ _ v us Q I rx rs ⟨_, _, _, k, w, rfl, rfl, e, by omega, by omega, q1, hw1, ha.put S hl hk (h3.eraseIdx k) hw2⟩
        · cases hb
      · cases hb
    · cases hb
  · split at hb
    · rename_i i x _ l hl
      split at hb
      · rename_i hz
        cases hb
        cases rd with
        | loc hk =>
          cases rds with
          | cons r1 r2 =>
            cases r2 with
            | cons r2 r3 =>
              cases r3; cases r1
              obtain ⟨ys, e, h3⟩ := S.lst hl hk
              rw [room_eq, h3.length, sizeLine_eq] at hz
              refine mt_insert pins s σ H _ _ v us Q I rx rs ⟨_, _, _, _, rfl, rfl, e, by rw [sizeLine_eq]; exact hz.2.2, hz.1, by omega, ha.put S hl hk ?_ .non⟩
              rw [List.append_assoc]
              exact (h3.take _).append (.cons r2 (h3.drop _))
      · cases hb
    · cases hb
  · cases hm
  · cases hm
  · split at hb
    · rename_i hz
      cases hb
      cases rd
      cases rds
      exact mt_upper pins s σ H _ _ v us Q I rx rs ⟨_, rfl, rfl, by simp only [Str.length, List.size_toArray]; omega, by simpa using ha.here S (.str _)⟩
    · cases hb
  · cases hb

/-- what has index and count, where it stands -/
theorem row_of {K : PySem.W.Frag} {ι : Ix} {H : Hp} {μ : Sto} {d : D} {l : List D} {v : V} (S : StOk K H ι μ) (h : rowD μ d = some l) (r : Rel K H ι d v) : ∃ a xs, v = .ref a ∧ RelL K H ι l xs ∧ SqL K H a xs := by
  cases d with
  | rol l' => cases h; cases r with | rol h1 h2 => exact ⟨_, _, rfl, h2, h1.sq⟩
  | loc n =>
    cases r with
    | loc ha =>
      simp only [rowD] at h
      split at h
      · rename_i hl
        cases h
        obtain ⟨xs, e, h2⟩ := S.lst hl ha
        exact ⟨_, _, rfl, h2, SqL.of e⟩
      · cases h
  | _ => cases h
theorem plains_ok {μ : Sto} {l : List D} {ds : List PyData} (h : plainsD μ l = some ds) : omap (dat μ 60) l = some ds ∧ PyData.plainAll ds = true := by
  unfold plainsD at h
  split at h
  · rename_i xs hx
    split at h
    · rename_i hp
      cases h
      exact ⟨hx, by rw [← plainPs_eq]; exact hp⟩
    · cases h
  · cases h
def rRow (K : PySem.W.Frag) (m : Mt) : V → List V → Hp → VK → Prop := fun x xs H Q => ∃ ι μ d ds r μ', StOk K H ι μ ∧ Rel K H ι d x ∧ RelL K H ι ds xs ∧ mthop m d ds μ = .ok r μ' ∧ Aft K ι H Q r μ'
def rRowT (K : PySem.W.Frag) (m : Mt) : V → List V → Hp → VK → Prop := fun x xs H Q => ∃ ι μ l ds r μ', StOk K H ι μ ∧ Rel K H ι (.tup l) x ∧ RelL K H ι ds xs ∧ mthop m (.rol l) ds μ = .ok r μ' ∧ Aft K ι H Q r μ'
theorem find_idx {p : PyData → Bool} : ∀ {ds : List PyData} {j : Nat}, ds.findIdx? p = some j → (ds.map p).idxOf true = j ∧ true ∈ ds.map p
  | [], j, h => by cases h
  | a :: ds, j, h => by
    rw [List.findIdx?_cons] at h
    rw [List.map_cons, List.idxOf_cons]
    cases ha : p a with
    | true =>
      rw [ha] at h
      cases h
      exact ⟨rfl, List.mem_cons_self⟩
    | false =>
      rw [ha] at h
      simp only [Bool.false_eq_true, if_false] at h
      obtain ⟨k, hk, rfl⟩ := map_some' h
      obtain ⟨i1, i2⟩ := find_idx hk
      exact ⟨by rw [i1]; rfl, List.mem_cons_of_mem _ i2⟩
theorem items_eqs {A : Around} {s : Shared} {u : Value} {d : PyData} {bs : List Addr} (rb : Reads s.heap u d bs) (hd : d.plain = true) (hu : A.units + d.depth < cLine) : ∀ {us : List Value} {ds : List PyData} {as : List Addr}, ReadsAll s.heap us ds as → PyData.plainAll ds = true → ∀ (j : Nat) (h1 : j < us.length) (h2 : j < (ds.map fun y => PyData.eqv y d).length), SeqAt.EqAt A s us[j] u (decide ((ds.map fun y => PyData.eqv y d)[j] = true))
  | [], _, _, _, _, j, h1, _ => absurd h1 (Nat.not_lt_zero _)
  | _ :: _, [], _, _, _, j, _, h2 => absurd h2 (Nat.not_lt_zero _)
  | w :: us, e :: ds, as, ra, hp, j, h1, h2 => by
    rw [PyData.plainAll, Bool.and_eq_true] at hp
    cases ra with
    | cons r1 r2 =>
      cases j with
      | zero =>
        have := SeqAt.eqAt_plain e d A s w u _ _ r1 rb hp.1 hd (by omega)
        have e1 : decide ((List.map (fun y => PyData.eqv y d) (e :: ds))[0] = true) = PyData.eqv e d := by simp
        rw [e1]; exact this
      | succ j =>
        have := items_eqs rb hd hu r2 hp.2 j (Nat.lt_of_succ_lt_succ h1) (Nat.lt_of_succ_lt_succ h2)
        exact this
theorem row_parts {pins : List (Addr × Obj)} {σ : L2.St} {H : Hp} {s : Shared} {ι : Ix} {μ : Sto} {l : List D} {ds : List PyData} {x : D} {d : PyData} {v : V} {u : Value} {xs : List V} {us : List Value} (I : L2.Inv X pins σ H s) (S : StOk X.K H ι μ) (hu : X.A.units + 100 < cLine)
    (h1 : plainsD μ l = some ds) (h2 : dat μ 60 x = some d) (h3 : plainP d = true) (rl : RelL X.K H ι l xs) (rv : Vals xs us) (rx : Rel X.K H ι x v) (ru : RelV v u) :
    ∃ as bs, ReadsAll s.heap us ds as ∧ Reads s.heap u d bs ∧ PyData.plainAll ds = true ∧ d.plain = true ∧ X.A.units + 1 + min (PyData.depthAll ds) d.depth < cLine ∧ SeqAt.ItemsEq X.A.in1 s us (ds.map fun y => PyData.eqv y d) u true := by
  obtain ⟨k1, k2⟩ := plains_ok h1
  obtain ⟨as, ra⟩ := reads_all I S k1 rl rv
  obtain ⟨bs, rb⟩ := (dat_rz I S 60 x d v u h2 rx ru).reads
  have hd : d.depth < 61 := by have := dat_depth (μ := μ) 60 x d h2; omega
  have hp : d.plain = true := by rw [← plainP_eq]; exact h3
  refine ⟨as, bs, ra, rb, k2, hp, by omega, ?_, fun j j1 j2 => ?_⟩
  · rw [List.length_map]; exact SeqAt.ReadsAll.length _ _ _ ra
  · exact items_eqs rb hp (by show X.A.units + 1 + _ < _; omega) ra k2 j j1 j2
theorem mt_rowL (hu : X.A.units + 100 < cLine) (m : Mt) (hm : isRowM m = true) : MtR X (mthV m) (rRow X.K m) := by
  intro pins s σ H x xs v us Q I rx rs h
  obtain ⟨ι, μ, d, ds, r, μ', S, rd, rds, hb, ha⟩ := h
  have key : ∀ (e : D) (l : List D) (ps : List PyData) (p : PyData), ds = [e] → rowD μ d = some l → plainsD μ l = some ps → dat μ 60 e = some p → plainP p = true → ∃ a its u, v = .ref a ∧ us = [u] ∧ s.heap.IsList a its.toArray ∧ its.length ≤ sizeLine ∧
      ∃ as bs, ReadsAll s.heap its ps as ∧ Reads s.heap u p bs ∧ PyData.plainAll ps = true ∧ p.plain = true ∧ X.A.units + 1 + min (PyData.depthAll ps) p.depth < cLine ∧ SeqAt.ItemsEq X.A.in1 s its (ps.map fun y => PyData.eqv y p) u true := by
    intro e l ps p hds h1 h2 h3 h4
    subst hds
    obtain ⟨a, ys, rfl, rl, q⟩ := row_of S h1 rd
    · cases rx
      obtain ⟨its, rv, pl, hz⟩ := I.list q
      cases rds with
      | cons q1 q2 =>
        cases q2
        obtain ⟨u, rfl, ru⟩ := vals1 rs
        exact ⟨a, its, u, rfl, rfl, pl.isList, by rw [← rv.length]; exact hz, row_parts I S hu h2 h3 h4 rl rv q1 ru⟩
  cases m with
  | index =>
    obtain ⟨e, rfl, hb⟩ : ∃ e, ds = [e] ∧ indexop d e μ = .ok r μ' := by
      match ds, hb with
      | [], hb => cases d <;> cases hb
      | [e], hb => exact ⟨e, rfl, hb⟩
      | _ :: _ :: _, hb => cases d <;> cases hb
    have hb : indexop d e μ = .ok r μ' := hb
    unfold indexop at hb
    split at hb
    · rename_i ps p h1 h2
      obtain ⟨l, h3, h4⟩ := Option.bind_eq_some_iff.mp h1
      split at hb
      · rename_i h5
        split at hb
        · rename_i j hj
          cases hb
          obtain ⟨a, its, u, rfl, rfl, il, iz, as, bs, ra, rb, k1, k2, k3, k4⟩ := key e l ps p rfl h3 h4 h2 h5
          obtain ⟨e1, e2⟩ := find_idx hj
          refine SeqAt.call_list_index il k4 (by rw [List.length_map, ← SeqAt.ReadsAll.length _ _ _ ra]; exact iz) e2 ?_
          rw [e1]
          exact ⟨.int j, H, I.tok _, ⟨_, rfl⟩, ha.here S (.int _)⟩
        · cases hb
      · cases hb
    · cases hb
  | count =>
    obtain ⟨e, rfl, hb⟩ : ∃ e, ds = [e] ∧ countop d e μ = .ok r μ' := by
      match ds, hb with
      | [], hb => cases d <;> cases hb
      | [e], hb => exact ⟨e, rfl, hb⟩
      | _ :: _ :: _, hb => cases d <;> cases hb
    have hb : countop d e μ = .ok r μ' := hb
    unfold countop at hb
    split at hb
    · rename_i ps p h1 h2
      obtain ⟨l, h3, h4⟩ := Option.bind_eq_some_iff.mp h1
      split at hb
      · rename_i h5
        cases hb
        obtain ⟨a, its, u, rfl, rfl, il, iz, as, bs, ra, rb, k1, k2, k3, k4⟩ := key e l ps p rfl h3 h4 h2 h5
        exact SeqAt.count_list_data il ra rb k1 k2 k3 ⟨.int _, H, I.tok _, ⟨_, rfl⟩, ha.here S (.int _)⟩
      · cases hb
    · cases hb
  | _ => cases hm
def rowVT : Mt → String
  | .index => "tuple.index" | _ => "tuple.count"
theorem mt_rowT (hu : X.A.units + 100 < cLine) (m : Mt) (hm : isRowM m = true) : MtR X (rowVT m) (rRowT X.K m) := by
  intro pins s σ H x xs v us Q I rx rs h
  obtain ⟨ι, μ, l0, ds, r, μ', S, rd, rds, hb, ha⟩ := h
  have key : ∀ (e : D) (l : List D) (ps : List PyData) (p : PyData), ds = [e] → rowD μ (.rol l0) = some l → plainsD μ l = some ps → dat μ 60 e = some p → plainP p = true → ∃ a its u, v = .ref a ∧ us = [u] ∧ s.heap.IsTuple a its.toArray ∧ its.length ≤ sizeLine ∧
      ∃ as bs, ReadsAll s.heap its ps as ∧ Reads s.heap u p bs ∧ PyData.plainAll ps = true ∧ p.plain = true ∧ X.A.units + 1 + min (PyData.depthAll ps) p.depth < cLine ∧ SeqAt.ItemsEq X.A.in1 s its (ps.map fun y => PyData.eqv y p) u true := by
    intro e l ps p hds h1 h2 h3 h4
    subst hds
    cases h1
    cases rd with
    | @tup _ a ys q rl =>
      cases rx
      obtain ⟨its, rv, pl, hz⟩ := I.tuple q
      cases rds with
      | cons q1 q2 =>
        cases q2
        obtain ⟨u, rfl, ru⟩ := vals1 rs
        exact ⟨a, its, u, rfl, rfl, pl, by rw [← rv.length]; exact hz, row_parts I S hu h2 h3 h4 rl rv q1 ru⟩
  cases m with
  | index =>
    obtain ⟨e, rfl, hb⟩ : ∃ e, ds = [e] ∧ indexop (.rol l0) e μ = .ok r μ' := by
      match ds, hb with
      | [], hb => cases hb
      | [e], hb => exact ⟨e, rfl, hb⟩
      | _ :: _ :: _, hb => cases hb
    have hb : indexop (.rol l0) e μ = .ok r μ' := hb
    unfold indexop at hb
    split at hb
    · rename_i ps p h1 h2
      obtain ⟨l, h3, h4⟩ := Option.bind_eq_some_iff.mp h1
      split at hb
      · rename_i h5
        split at hb
        · rename_i j hj
          cases hb
          obtain ⟨a, its, u, rfl, rfl, il, iz, as, bs, ra, rb, k1, k2, k3, k4⟩ := key e l ps p rfl h3 h4 h2 h5
          obtain ⟨e1, e2⟩ := find_idx hj
          refine SeqAt.call_tuple_index il k4 e2 ?_
          rw [e1]
          exact ⟨.int j, H, I.tok _, ⟨_, rfl⟩, ha.here S (.int _)⟩
        · cases hb
      · cases hb
    · cases hb
  | count =>
    obtain ⟨e, rfl, hb⟩ : ∃ e, ds = [e] ∧ countop (.rol l0) e μ = .ok r μ' := by
      match ds, hb with
      | [], hb => cases hb
      | [e], hb => exact ⟨e, rfl, hb⟩
      | _ :: _ :: _, hb => cases hb
    have hb : countop (.rol l0) e μ = .ok r μ' := hb
    unfold countop at hb
    split at hb
    · rename_i ps p h1 h2
      obtain ⟨l, h3, h4⟩ := Option.bind_eq_some_iff.mp h1
      split at hb
      · rename_i h5
        cases hb
        obtain ⟨a, its, u, rfl, rfl, il, iz, as, bs, ra, rb, k1, k2, k3, k4⟩ := key e l ps p rfl h3 h4 h2 h5
        exact SeqAt.count_tuple_data il ra rb k1 k2 k3 ⟨.int _, H, I.tok _, ⟨_, rfl⟩, ha.here S (.int _)⟩
      · cases hb
    · cases hb
  | _ => cases hm
end
end Ev

namespace Ev
open PySem PySem.Spec L2

/-! ### from the text to the terms -/
/-- what stands in the module: its defs by name and number, the patterns of calls by keyword (positional values, names, the order), its constants -/
structure Cfg where
  fns : List (Str × Nat)
  kws : List (Nat × Nat × List Str × List Nat)
  cns : List (Str × DKey)
  nds : List Nat
  exs : List (Str × Nat)
def idxOf (x : Str) : List Str → Option Nat
  | [] => none
  | y :: l => if y = x then some 0 else (idxOf x l).map (· + 1)
theorem idxOf_get {x : Str} : ∀ {N : List Str} {i : Nat}, idxOf x N = some i → N[i]? = some x
  | [], _, h => by cases h
  | y :: l, i, h => by
    unfold idxOf at h
    split at h
    · rename_i e; cases h; simp [e]
    · obtain ⟨j, hj, rfl⟩ := map_some' h
      simpa using idxOf_get hj
def visB (sc : Scope) (x : Str) : Bool := match sc.names.lookup x with
  | some .local => true
  | some .cell => true
  | some .free => true
  | _ => false
theorem visB_ok {sc : Scope} {x : Str} (h : visB sc x = true) : Vis sc x := by
  unfold visB at h
  unfold Vis
  split at h <;> simp_all
def gloB (sc : Scope) (x : Str) : Bool := decide (sc.names.lookup x = some .globalImplicit)
def bopOf : Operator → Option Bop
  | .Add => some .add | .Sub => some .sub | .Mult => some .mul | .FloorDiv => some .fdiv | .Mod => some .mod | .Pow => some .pow | .LShift => some .shl | .BitAnd => some .band | .BitOr => some .bor | _ => none
theorem bopOf_ok {op : Operator} {o : Bop} (h : bopOf op = some o) : op = opOf o := by
  cases op <;> first | (cases h; rfl) | cases h
def copTo : CmpOp → Cop
  | .Eq => .eq | .NotEq => .ne | .Lt => .lt | .LtE => .le | .Gt => .gt | .GtE => .ge | .In => .isin | .NotIn => .notin | .Is => .isn | .IsNot => .notn
theorem copTo_ok (op : CmpOp) : op = copOf (copTo op) := by cases op <;> rfl
def isStar : Expr → Bool
  | .Starred _ _ => true
  | _ => false
def isSetE : Expr → Bool
  | .Set _ _ _ => true
  | _ => false
def isCallE : Expr → Bool
  | .Call _ _ _ _ => true
  | _ => false
def isSliceE : Expr → Bool
  | .Slice _ _ _ _ => true
  | _ => false
def isNmE : Expr → Bool
  | .Name _ _ => true
  | _ => false
def biN : Bi → Str
  | .len => "len" | .repr => "repr" | .abs => "abs" | .int => "int" | .str => "str" | .list => "list" | .tuple => "tuple" | .all => "all" | .any => "any" | .max2 => "max" | .min2 => "min" | .listM => "list" | .sum => "sum" | .sorted => "sorted" | .rng1 => "range" | .rng2 => "range" | .tru => "len"
def biAr : Bi → Nat
  | .max2 => 2 | .min2 => 2 | .rng2 => 2 | _ => 1
def biOf (x : Str) (n : Nat) : Option Bi := [Bi.len, .repr, .abs, .int, .str, .list, .tuple, .all, .any, .max2, .min2, .sum, .sorted, .rng1, .rng2].find? fun b => decide (biN b = x) && biAr b == n
theorem biOf_ok {x : Str} {n : Nat} {b : Bi} (h : biOf x n = some b) : biN b = x ∧ biAr b = n ∧ b ≠ .tru := by
  have h1 := List.find?_some h
  have h2 := List.mem_of_find?_eq_some h
  refine ⟨by simp at h1; exact h1.1, by simp at h1; exact h1.2, fun e => ?_⟩
  subst e
  revert h2
  decide
def tyS (t : Ty) : Str := match t with
  | .int => "int" | .str => "str" | .bool => "bool" | .tuple => "tuple" | .list => "list" | .dict => "dict"
def tyOfS (x : Str) : Option Ty := [Ty.int, .str, .bool, .tuple, .list, .dict].find? fun t => decide (tyS t = x)
theorem tyOfS_ok {x : Str} {t : Ty} (h : tyOfS x = some t) : tyS t = x := by
  have := List.find?_some h
  simpa using this
def mtS (m : Mt) : Str := match m with
  | .append => "append" | .extend => "extend" | .popAt => "pop" | .insert => "insert" | .upper => "upper" | .index => "index" | .count => "count"
def mtAr : Mt → Nat
  | .insert => 2 | .upper => 0 | _ => 1
def mtOfS (x : Str) (n : Nat) : Option Mt := [Mt.append, .extend, .popAt, .insert, .upper, .index, .count].find? fun m => decide (mtS m = x) && mtAr m == n
theorem mtOfS_ok {x : Str} {n : Nat} {m : Mt} (h : mtOfS x n = some m) : mtS m = x ∧ mtAr m = n := by
  have := List.find?_some h
  simpa using this
def fidOf (x : Str) : List (Str × Nat) → Option Nat
  | [] => none
  | (y, i) :: l => if y = x then some i else fidOf x l
theorem fidOf_mem {x : Str} : ∀ {l : List (Str × Nat)} {i : Nat}, fidOf x l = some i → (x, i) ∈ l
  | [], _, h => by cases h
  | (y, m) :: l, i, h => by
    unfold fidOf at h
    split at h
    · rename_i e; cases h; subst e; exact List.mem_cons_self
    · exact List.mem_cons_of_mem _ (fidOf_mem h)
/-- names that are read otherwise -/
def oddName (x : Str) : Bool := decide (x = "__debug__") || decide (x = "__classdict__") || decide (x = "__name__")
theorem oddName_ok {x : Str} (h : oddName x = false) : (x == ("__debug__" : Str)) = false ∧ (x == ("__classdict__" : Str)) = false ∧ x ≠ "__name__" := by
  unfold oddName at h
  simp only [Bool.or_eq_false_iff, decide_eq_false_iff_not] at h
  exact ⟨beq_eq_false_iff_ne.mpr h.1.1, beq_eq_false_iff_ne.mpr h.1.2, h.2⟩
def kwPat (l : List (Nat × Nat × List Str × List Nat)) (f n : Nat) (ks : List Str) : Option (List Nat) := match l with
  | [] => none
  | (g, m, xs, p) :: r => if g = f ∧ m = n ∧ xs = ks then some p else kwPat r f n ks
theorem kwPat_get : ∀ {l : List (Nat × Nat × List Str × List Nat)} {f n : Nat} {ks : List Str} {p : List Nat}, kwPat l f n ks = some p → (f, n, ks, p) ∈ l
  | [], _, _, _, _, h => by cases h
  | (g, m, xs, p) :: r, f, n, ks, q, h => by
    unfold kwPat at h
    split at h
    · rename_i e
      obtain ⟨rfl, rfl, rfl⟩ := e
      cases h
      exact List.mem_cons_self
    · exact List.mem_cons_of_mem _ (kwPat_get h)
def kwNames : List Keyword → Option (List Str)
  | [] => some []
  | ⟨some x, _, _⟩ :: r => (kwNames r).map (x :: ·)
  | ⟨none, _, _⟩ :: _ => none
/-- the target of a loop or a comprehension -/
def nameIx (N : List Str) (sc : Scope) : Expr → Option Nat
  | .Name x _ => match sc.names.lookup x with
    | some .local => idxOf x N
    | some .cell => idxOf x N
    | _ => none
  | _ => none
def cT (N : List Str) (sc : Scope) : Expr → Option Tg
  | .Tuple es _ _ => (omap (nameIx N sc) es).map .tp
  | e => (nameIx N sc e).map .nm
def ownOf (N : List Str) : List (Str × NameKind) → Option (List (Str × Nat))
  | [] => some []
  | (x, .local) :: r => match idxOf x N, ownOf N r with
    | some i, some l => some ((x, i) :: l)
    | none, some l => some l
    | _, _ => none
  | (x, .cell) :: r => match idxOf x N, ownOf N r with
    | some i, some l => some ((x, i) :: l)
    | none, some l => some l
    | _, _ => none
  | _ :: r => ownOf N r
def isRange (G : Cfg) (sc : Scope) (x : Str) : Bool := decide (x = "range") && gloB sc x && (fidOf x G.fns).isNone
/-- what is walked -/
def isTupE : Expr → Bool
  | .Tuple _ _ _ => true
  | _ => false
def isEnum (G : Cfg) (sc : Scope) (x : Str) : Bool := decide (x = "enumerate") && gloB sc x && (fidOf x G.fns).isNone
def isZip (G : Cfg) (sc : Scope) (x : Str) : Bool := decide (x = "zip") && gloB sc x && (fidOf x G.fns).isNone
def cIter (G : Cfg) (sc : Scope) (f : Expr → Option E) (tt : Bool) : Expr → Option It
  | .Call (.Name x p) [e] [] q => if isRange G sc x then (if isStar e then none else (f e).map It.rng1) else if isEnum G sc x then (if isStar e || !tt then none else (f e).map It.enu) else (f (.Call (.Name x p) [e] [] q)).map It.seq
  | .Call (.Name x p) [e, d] [] q => if isRange G sc x then (if isStar e || isStar d then none else match f e, f d with
      | some y, some z => some (It.rng2 y z)
      | _, _ => none) else if isZip G sc x then (if isStar e || isStar d || !tt then none else match f e, f d with
      | some y, some z => some (It.zip y z)
      | _, _ => none) else (f (.Call (.Name x p) [e, d] [] q)).map It.seq
  | i => if isSetE i then none else (f i).map It.seq
/-! comprehensions with any clauses -/
def cIfs (f : Expr → Option E) : List Expr → Option E
  | [] => some (.bl true)
  | [c] => f c
  | _ => none
def cNest (G : Cfg) (N : List Str) (sc : Scope) (f : Expr → Option E) (scope : Scope) (elt : Expr) : List Nat → List Comprehension → Option Nest
  | _, [] => (f elt).map .last
  | vs, ⟨tg, iter, ifs, a⟩ :: gs => if a ≠ 0 then none else match cT N scope tg, cIter G sc f (isTupE tg) iter, cIfs f ifs with
    | some t, some it, some d => if t.ixs.all (vs.contains ·) then (cNest G N sc f scope elt (vs.filter fun i => !t.ixs.contains i) gs).map (.cl vs t it d) else none
    | _, _, _ => none
/-- f: outside, g: inside -/
def cComp (G : Cfg) (N : List Str) (sc : Scope) (f g : Expr → Option E) (scope : Scope) (elt : Expr) : List Comprehension → Option Nest
  | [] => none
  | ⟨tg, iter, ifs, a⟩ :: gs => if a ≠ 0 then none else match ownOf N scope.names with
    | none => none
    | some own => if !(blkC N sc scope own) then none else match cT N scope tg, cIter G sc f (isTupE tg) iter, cIfs g ifs, cNest G N (relS scope sc) g scope elt ((own.map (·.2)).filter fun i => !(match cT N scope tg with | some t => t.ixs | none => []).contains i) gs with
      | some t, some it, some d, some n => some (.cl (own.map (·.2)) t it d n)
      | _, _, _, _ => none
def okBlt (G : Cfg) (sc : Scope) (x : Str) : Bool := !oddName x && gloB sc x && (fidOf x G.fns).isNone
/-- the names whose sets are of tuples -/
def flatNs : List Str := ["_law_thing", "_law_some", "_law_bought", "_law_far", "_law_exits", "pairs"]
def isFlat : Expr → Bool
  | .Name x _ => flatNs.contains x
  | _ => false
/-- sorted({..}), sorted(set(e)), len(set(e)) -/
def cSpec (G : Cfg) (N : List Str) (r : Scope → Expr → Option E) (sc : Scope) (pos : Pos) : Expr → List Expr → List Keyword → Option E
  | .Name x _, [.SetComp elt gs scope _], [] => if x = "sorted" then (if okBlt G sc "sorted" then (cComp G N sc (r sc) (r (relS scope sc)) scope elt gs).map .srtS else none) else none
  | .Name x _, [.Call (.Name y _) [e] [] _], [] => if y = "set" then (if x = "sorted" then (if okBlt G sc "sorted" && okBlt G sc "set" && !isStar e then (r sc e).map (fun y => if isFlat e then .srtF y else .srtL y) else none)
      else if x = "len" then (if okBlt G sc "len" && okBlt G sc "set" && !isStar e then (r sc e).map .lenS else none) else none) else none
  | .Name x _, [.Call (.Name y _) [e, e2] [] _], [] => if y = "zip" then (if x = "list" then (if okBlt G sc "list" && okBlt G sc "zip" && !isStar e && !isStar e2 then (match r sc e, r sc e2 with
      | some a, some b => some (.lzip [a, b])
      | _, _ => none) else none) else none) else none
  | .Attribute (.Call (.Name x _) us [] _) m apos, vs, [] => if oddName x || !gloB sc x || us.any isStar || x == "super" || vs.any isStar || !(apos.endLine == pos.line) then none else match fidOf x G.fns, mtOfS m vs.length, omap (r sc) us, omap (r sc) vs with
    | some fid, some mt, some us', some vs' => if G.nds.contains fid && isRowM mt then some (.mtc mt fid us' vs') else none
    | _, _, _, _ => none
  | _, _, _ => none
/-- what isinstance is asked for, where it is a class of errors -/
def exIx (G : Cfg) (t : Str) : Option Nat := if t = "ValueError" then (if G.exs.isEmpty then none else some 22) else (fidOf t G.exs).bind fun c => if c < 22 then some c else none
/-- errors: made, asked for their class -/
def cErr (G : Cfg) (r : Expr → Option E) (sc : Scope) : Expr → List Expr → List Keyword → Option E
  | .Name x _, [], [] => if oddName x || !gloB sc x then none else match fidOf x G.exs with
    | some cl => if 17 ≤ cl ∧ cl < 21 then some (.xop (.mk cl) []) else none
    | none => none
  | .Name x _, [a], [] => if oddName x || !gloB sc x || isStar a then none else match fidOf x G.exs with
    | some cl => if cl < 17 then (r a).map fun y => .xop (.mk cl) [y] else none
    | none => none
  | .Name x _, [], [⟨some f, a, _⟩] => if oddName x || !gloB sc x then none else match fidOf x G.exs with
    | some cl => if cl < 17 ∧ errF cl = f then (r a).map fun y => .xop (.mk cl) [y] else none
    | none => none
  | .Name x _, [e, .Name t _], [] => if x = "isinstance" then (if oddName t || !gloB sc x || isStar e || !gloB sc t || (fidOf x G.fns).isSome then none else match exIx G t with
    | some c2 => (r e).map fun y => .xop (.isx c2) [y]
    | none => none) else none
  | _, _, _ => none
def cE (G : Cfg) (N : List Str) : Nat → Scope → Expr → Option E
  | 0, _, _ => none
  | n + 1, sc, e => match e with
    | .Name x _ => if oddName x then none else if visB sc x then (idxOf x N).map .var else if gloB sc x then (match G.cns.lookup x with
      | some (.inl i) => some (.int i)
      | some (.inr s) => some (.str s)
      | none => none) else none
    | .Constant c _ _ => match c with
      | .none => some .non
      | .bool b => some (.bl b)
      | .int i => some (.int i)
      | .str s => some (.str s.cps.toList)
      | _ => none
    | .BinOp a op b _ => match bopOf op, cE G N n sc a, cE G N n sc b with
      | some o, some x, some y => some (.bin o x y)
      | _, _, _ => none
    | .UnaryOp op a _ => match op with
      | .USub => (cE G N n sc a).map .neg
      | .Not => if isNmE a then (cE G N n sc a).map fun x => .not (.blt .tru [x]) else (cE G N n sc a).map .not
      | _ => none
    | .BoolOp op vs pos => match vs with
      | [] => none
      | [a] => cE G N n sc a
      | a :: b :: rest => match cE G N n sc a, cE G N n sc (.BoolOp op (b :: rest) pos) with
        | some x, some y => some (match op with | .And => .and x y | .Or => .or x y)
        | _, _ => none
    | .IfExp c a b _ => match cE G N n sc c, cE G N n sc a, cE G N n sc b with
      | some x, some y, some z => some (.ite x y z)
      | _, _, _ => none
    | .Compare a ops bs _ => match ops, bs with
      | [op], [b] => if isSetE b then none else match cE G N n sc a, cE G N n sc b with
        | some x, some y => some (.cmp (copTo op) x y)
        | _, _ => none
      | [op, op'], [b, d] => if isSetE b || isSetE d then none else match cE G N n sc a, cE G N n sc b, cE G N n sc d with
        | some x, some y, some z => some (.chn (copTo op) (copTo op') x y z)
        | _, _, _ => none
      | _, _ => none
    | .Tuple es _ _ => if es.any isStar then none else (omap (cE G N n sc) es).map .tup
    | .List es _ => if es.any isStar then none else (omap (cE G N n sc) es).map .lst
    | .Dict ks vs _ => match ks, vs with
      | [], [] => some .dct0
      | [some k], [v] => match cE G N n sc k, cE G N n sc v with
        | some x, some y => some (.dct1 x y)
        | _, _ => none
      | _, _ => none
    | .Subscript a i _ => match cE G N n sc a with
      | none => none
      | some x => match i with
        | .Slice none (some h) none _ => (cE G N n sc h).map (.slU x)
        | .Slice (some l) none none _ => (cE G N n sc l).map (.slL x)
        | .Slice (some l) (some h) none _ => match cE G N n sc l, cE G N n sc h with
          | some y, some z => some (.slLU x y z)
          | _, _ => none
        | .Slice none none (some (.UnaryOp .USub (.Constant (.int 1) _ _) _)) _ => some (.rev x)
        | i => if isSliceE i then none else (cE G N n sc i).map (.ix x)
    | .Attribute o f _ => if isCallE o || G.exs.isEmpty then none else (cE G N n sc o).map fun x => .xop (.fld f) [x]
    | .Call f args kws pos => match cErr G (cE G N n sc) sc f args kws with
      | some e' => some e'
      | none => match cSpec G N (cE G N n) sc pos f args kws with
      | some e' => some e'
      | none => match f with
      | .Name x _ => if oddName x || !gloB sc x || args.any isStar then none else match fidOf x G.fns with
        | some fid => match kws with
          | [] => (omap (cE G N n sc) args).map (.call fid)
          | kws => match kwNames kws, omap (cE G N n sc) args, omap (fun k : Keyword => cE G N n sc k.value) kws with
            | some ks, some as, some bs => (kwPat G.kws fid args.length ks).map fun w => .callk fid w as bs
            | _, _, _ => none
        | none => if !kws.isEmpty then none else match args with
          | [e, .Name t _] => if x = "isinstance" then (if oddName t || !gloB sc t || (fidOf t G.fns).isSome then none else match tyOfS t, cE G N n sc e with
              | some ty, some y => some (.isi y ty)
              | _, _ => none)
            else match biOf x args.length, omap (cE G N n sc) args with
              | some b, some as => some (.blt b as)
              | _, _ => none
          | args => match biOf x args.length, omap (cE G N n sc) args with
            | some b, some as => some (.blt b as)
            | _, _ => none
      | .Attribute o m apos => if isCallE o || !kws.isEmpty || args.any isStar || !(apos.endLine == pos.line) then none else match mtOfS m args.length, cE G N n sc o, omap (cE G N n sc) args with
        | some mt, some x, some as => some (.mth mt x as)
        | _, _, _ => none
      | _ => none
    | .ListComp elt gs scope _ => match gs with
      | [⟨tg, iter, ifs, a⟩] => if a ≠ 0 then none else match ownOf N scope.names with
        | none => none
        | some own => if !(blkC N sc scope own) then none else match cT N scope tg, cIter G sc (cE G N n sc) (isTupE tg) iter, cE G N n (relS scope sc) elt with
          | some t, some it, some y => match ifs with
            | [] => some (.lc (own.map (·.2)) t it y)
            | [c] => (cE G N n (relS scope sc) c).map fun z => .lcIf (own.map (·.2)) t it z y
            | _ => none
          | _, _, _ => none
      | gs => (cComp G N sc (cE G N n sc) (cE G N n (relS scope sc)) scope elt gs).map .lcN
    | _ => none
end Ev

namespace Ev
open PySem PySem.Spec L2

/-! ### a def that may raise one error of one field -/
/-- what __init__ of such a class keeps -/
def spInit (C : Addr) (fld : Str) : Sp := fun vs H Q _ => ∃ a v, vs = [.ref a, v] ∧ H a = some (exo a C none) ∧ ∀ dx, H dx = none → dx ≠ a → Q .non (upd (upd H dx (exd dx [(fld, v)])) a (exo a C (some dx)))
/-- what is known of the class -/
structure ErrOk (K : PySem.W.Frag) (mg : Str → Option Value) (cn fld : Str) (C fI : Addr) (fd : FuncData) : Prop where
  mC : mg cn = some (.ref C)
  T : OexC K C
  iC : PySem.W.findIn K (.ref C) "__init__" = some (some (.ref fI))
  tI : PySem.W.typeIn K (.ref fI) = some (.type "function")
  no : PySem.W.findIn K (.ref C) fld = some none
  E : ExcC K C
  dbg : (cn == ("__debug__" : Str)) = false
  bnd : Binds K fd ["self", fld] []
  init : ∀ (P : Program) (w : World) (base : Heap), FnOk P w K mg base CX0 1 fI fd ["self", fld] (spInit C fld)
theorem init_ok {P : Program} {w : World} {K : PySem.W.Frag} {mg : Str → Option Value} {base : Heap} {fld qual : Str} {st : Stmt} {C fI : Addr} {fd : FuncData} {p1 p2 p3 p4 : Pos} (F : Fun K "__init__" qual st fI fd) (S : FnScope ["self", fld] ["self", fld] (defScope st))
    (hb : defBody st = [.Assign [.Attribute (.Name "self" p1) fld p2] (.Name fld p3) p4]) (h0 : (defScope st).names.lookup ("self" : Str) = some .local) (h1 : (defScope st).names.lookup fld = some .local) (hd : (fld == ("__debug__" : Str)) = false) (hc : (fld == ("__classdict__" : Str)) = false)
    (T : OexC K C) (no : PySem.W.findIn K (.ref C) fld = some none) : FnOk P w K mg base CX0 1 fI fd ["self", fld] (spInit C fld) := by
  refine F.ok (k := 0) S (fun vs H Q E h => by obtain ⟨a, v, rfl, _⟩ := h; rfl) fun cdv A outer s H vs Q E hr h => ?_
  obtain ⟨a, v, rfl, ea, hq⟩ := h
  rw [hb]
  refine ⟨_, pss_one (ps_ost (pe_var (i := 0) rfl (.inl h0)) (pe_var (i := 1) rfl (.inl h1) hd hc)), ?_⟩
  refine ⟨v, rfl, .ref a, rfl, a, C, rfl, T, no, .inl ⟨ea, fun dx n ne => hq dx n ne⟩⟩
/-- the own __init__ of an error takes its field by keyword -/
def KwField (K : PySem.W.Frag) (fd : FuncData) (fld : Str) : Prop :=
  ∀ (s : Shared) (a u : Value), K.In s.heap → BindsTo s fd ⟨[a], [(fld, u)]⟩ (List.zip [("self" : Str), fld] [a, u])
theorem kwField {K : PySem.W.Frag} {qual fld : Str} {st : Stmt} {f : Addr} {fd : FuncData} (F : Fun K "__init__" qual st f fd)
    (h : ∀ (kV doc pm : Value) (an : Option Addr) (cdv ct a u : Value), bindArgs (PySem.W.fnOf "__init__" qual (defArgs st) (defBody st) (defScope st) .none kV doc pm an cdv ct) ⟨[a], [(fld, u)]⟩ = pure (List.zip [("self" : Str), fld] [a, u])) : KwField K fd fld := by
  obtain ⟨oc, od, kV, doc, pm, an, cdv, ct, osl, rfl, lk, hcd⟩ := F.ex
  exact fun s a u _ => .of_eq (h kV doc pm an cdv ct a u)
/-! ### what a text says of the classes of errors -/
/-- a class without a field -/
structure Exc0 (K : PySem.W.Frag) (mg : Str → Option Value) (cn : Str) (C : Addr) : Prop where
  mC : mg cn = some (.ref C)
  q : PySem.W.excIn K C [.type "ValueError", .type "Exception", .type "BaseException", .type "object"] "ValueError.__new__" = true
  kC : PySem.W.keepIn K (.ref C) = true
  exC : PySem.W.subIn K (.ref C) (.type "BaseException") = some true
  tyC : PySem.W.typeIn K (.ref C) = some (.type "type")
structure ExsOk (K : PySem.W.Frag) (mg : Str → Option Value) (exs : List (Str × Nat)) : Prop where
  one : ∀ x cl, fidOf x exs = some cl → cl < 17 → ∃ C fI fd, ErrOk K mg x (errF cl) C fI fd ∧ KwField K fd (errF cl) ∧ ClsAt K cl C
  non : ∀ x cl, fidOf x exs = some cl → 17 ≤ cl → cl < 21 → ∃ C, Exc0 K mg x C ∧ ClsAt K cl C
  isx : ∀ x c2, fidOf x exs = some c2 → c2 < 22 → ∃ C2, mg x = some (.ref C2) ∧ ∀ cl C, ClsAt K cl C → cl < 21 → PySem.W.kitOne K (.ref C) (.ref C2) = some (subX cl c2)
  val : exs ≠ [] → mg "ValueError" = none ∧ ∀ cl C, ClsAt K cl C → cl < 21 → PySem.W.kitOne K (.ref C) (.type "ValueError") = some true
  cls : exs ≠ [] → ∀ cl C, ClsAt K cl C → cl < 21 → ExcC K C ∧ (cl < 17 → PySem.W.findIn K (.ref C) (errF cl) = some none)
theorem ExsOk.nil {K : PySem.W.Frag} {mg : Str → Option Value} : ExsOk K mg [] := ⟨nofun, nofun, nofun, fun h => absurd rfl h, fun h => absurd rfl h⟩
theorem gt_class (K : PySem.W.Frag) : PySem.W.specialIn K (.builtin "object.__class__") "__get__" = some (some (.builtin "getset_descriptor.__get__")) := by kernel_rfl
theorem tk_class (K : PySem.W.Frag) : PySem.W.takesIn K (.builtin "object.__class__") = some true := by kernel_rfl
theorem kitMeta_VE : PySem.W.kitMeta "ValueError" = true := by kernel_rfl
abbrev mroF (CF : Addr) : List Value := [.ref CF, .type "ValueError", .type "Exception", .type "BaseException", .type "object"]
/-- one class, below the one that is above all -/
structure ClsF (K : PySem.W.Frag) (CF : Addr) (cl : Nat) (C : Addr) : Prop where
  loc : ClsAt K cl C
  obj : ∃ nm q N bs sn sub ab col dd k0 k1 k2 k3 k5, K.lookup C = some (excClassObj nm q C N bs (mroF CF) true sn sub ab col dd k0 k1 k2 k3 k5 "ValueError.__new__")
  sa : PySem.W.findIn K (.ref C) "__setattr__" = some (some (.builtin "object.__setattr__"))
  ga : PySem.W.findIn K (.ref C) "__getattribute__" = some (some (.builtin "BaseException.__getattribute__"))
  gg : PySem.W.findIn K (.ref C) "__getattr__" = some none
  cc : PySem.W.findIn K (.ref C) "__class__" = some (some (.builtin "object.__class__"))
  kC : PySem.W.keepIn K (.ref C) = true
section
variable {K : PySem.W.Frag} {CF C : Addr} {cl : Nat}
theorem ClsF.mro (F : ClsF K CF cl C) (v : Value) : PySem.W.subIn K (.ref C) v = some ((Value.ref C :: mroF CF).contains v) := by
  obtain ⟨nm, q, N, bs, sn, sub, ab, col, dd, k0, k1, k2, k3, k5, h⟩ := F.obj
  show PySem.W.mroIn K C v = _
  unfold PySem.W.mroIn PySem.W.clsIn
  rw [h]
  rfl
theorem ClsF.ty (F : ClsF K CF cl C) : PySem.W.typeIn K (.ref C) = some (.type "type") := by
  obtain ⟨nm, q, N, bs, sn, sub, ab, col, dd, k0, k1, k2, k3, k5, h⟩ := F.obj
  show (List.lookup C K).map (·.cls) = _
  rw [h]
  rfl
theorem ClsF.cd (F : ClsF K CF cl C) : (PySem.W.clsIn K C).isSome = true := by
  obtain ⟨nm, q, N, bs, sn, sub, ab, col, dd, k0, k1, k2, k3, k5, h⟩ := F.obj
  unfold PySem.W.clsIn
  rw [h]
  rfl
theorem ClsF.exc (F : ClsF K CF cl C) : ExcC K C := ⟨F.ga, F.gg, (F.mro _).trans rfl, by
  obtain ⟨nm, q, N, bs, sn, sub, ab, col, dd, k0, k1, k2, k3, k5, h⟩ := F.obj
  unfold PySem.W.hasDictIn PySem.W.clsIn
  rw [h]
  rfl, F.cc, gt_class K, tk_class K, (F.mro (.type "object")).trans rfl⟩
theorem ClsF.oex (F : ClsF K CF cl C) : OexC K C := ⟨by
  obtain ⟨nm, q, N, bs, sn, sub, ab, col, dd, k0, k1, k2, k3, k5, h⟩ := F.obj
  exact ⟨nm, q, N, bs, _, sn, sub, ab, col, dd, k0, k1, k2, k3, k5, h, rfl⟩, F.sa, (F.mro _).trans rfl, F.ty, F.kC⟩
theorem ClsF.val (F : ClsF K CF cl C) : PySem.W.kitOne K (.ref C) (.type "ValueError") = some true := by
  unfold PySem.W.kitOne
  rw [if_neg (fun z => by cases (beq_iff_eq.mp z))]
  show (if PySem.W.kitMeta "ValueError" = true then PySem.W.subIn K (.ref C) (.type "ValueError") else none) = _
  rw [if_pos kitMeta_VE]
  exact (F.mro _).trans rfl
theorem ClsF.is {C2 : Addr} (F : ClsF K CF cl C) (h1 : (PySem.W.clsIn K C2).isSome = true) (h2 : PySem.W.typeIn K (.ref C2) = some (.type "type")) : PySem.W.kitOne K (.ref C) (.ref C2) = some (decide (C2 = C) || decide (C2 = CF)) := by
  unfold PySem.W.kitOne
  by_cases e : C2 = C
  · subst e
    rw [if_pos (by simp)]
    simp
  · rw [if_neg (by simpa using fun z => e z.symm)]
    show (if ((PySem.W.clsIn K C2).isSome && PySem.W.typeIn K (.ref C2) == some (.type "type")) = true then PySem.W.subIn K (.ref C) (.ref C2) else none) = _
    rw [if_pos (by rw [h1, h2]; rfl), F.mro]
    simp [List.contains_cons, e]
end
/-- what __init__ says -/
structure InitF (K : PySem.W.Frag) (mg : Str → Option Value) (cl : Nat) (C : Addr) : Prop where
  no : PySem.W.findIn K (.ref C) (errF cl) = some none
  ex : ∃ (fI : Addr) (fd : FuncData), PySem.W.findIn K (.ref C) "__init__" = some (some (.ref fI)) ∧ PySem.W.typeIn K (.ref fI) = some (.type "function") ∧ Binds K fd ["self", errF cl] [] ∧ KwField K fd (errF cl) ∧
    (OexC K C → ∀ (P : Program) (w : World) (base : Heap), FnOk P w K mg base CX0 1 fI fd ["self", errF cl] (spInit C (errF cl)))
theorem nd_inj {l : List Addr} (hn : l.Nodup) {i j : Nat} {a : Addr} (h1 : l[i]? = some a) (h2 : l[j]? = some a) : i = j := by
  have i1 := List.getElem?_eq_some_iff.mp h1
  have i2 := List.getElem?_eq_some_iff.mp h2
  exact (List.getElem_inj (h₀ := i1.1) (h₁ := i2.1) hn).mp (i1.2.trans i2.2.symm)
theorem exs_ok {K : PySem.W.Frag} {h : Heap} {mg : Str → Option Value} (X : K.In h) (G : h.Ns mainGlobals mg) {exs : List (Str × Nat)} (hex : ∀ x cl, fidOf x exs = some cl → x = errN cl ∧ (x == ("__debug__" : Str)) = false) {Cs : List Addr} {CF : Addr}
    (hn : Cs.Nodup) (hCF : Cs[21]? = some CF) (aF : ClsAt K 21 CF) (dF : (PySem.W.clsIn K CF).isSome = true) (tF : PySem.W.typeIn K (.ref CF) = some (.type "type")) (zV : PySem.W.nsIn K mainGlobals "ValueError" = some none)
    (hc : ∀ cl, cl < 21 → ∃ C, Cs[cl]? = some C ∧ ClsF K CF cl C) (h1 : ∀ cl C, Cs[cl]? = some C → cl < 17 → InitF K mg cl C)
    (h0 : ∀ cl C, Cs[cl]? = some C → 17 ≤ cl → cl < 21 → PySem.W.excIn K C [.type "ValueError", .type "Exception", .type "BaseException", .type "object"] "ValueError.__new__" = true) : ExsOk K mg exs := by
  have uni : ∀ cl C, ClsAt K cl C → cl < 21 → Cs[cl]? = some C ∧ ClsF K CF cl C := fun cl C h hl => by
    obtain ⟨C', e, F⟩ := hc cl hl
    have z := F.loc.symm.trans h
    cases z
    exact ⟨e, F⟩
  refine ⟨fun x cl hf hl => ?_, fun x cl hf h17 hl => ?_, fun x c2 hf hl => ?_, fun _ => ⟨PySem.W.mg_none_of X G zV, fun cl C h hl => (uni cl C h hl).2.val⟩, fun _ cl C h hl => ?_⟩
  · obtain ⟨rfl, dbg⟩ := hex x cl hf
    obtain ⟨C, e, F⟩ := hc cl (by omega)
    obtain ⟨no, fI, fd, iC, tI, hb, hk, hi⟩ := h1 cl C e hl
    exact ⟨C, fI, fd, ⟨PySem.W.mg_of X G F.loc, F.oex, iC, tI, no, F.exc, dbg, hb, hi F.oex⟩, hk, F.loc⟩
  · obtain ⟨rfl, dbg⟩ := hex x cl hf
    obtain ⟨C, e, F⟩ := hc cl hl
    exact ⟨C, ⟨PySem.W.mg_of X G F.loc, h0 cl C e h17 hl, F.kC, F.exc.hs, F.ty⟩, F.loc⟩
  · obtain ⟨rfl, dbg⟩ := hex x c2 hf
    have key : ∃ C2, Cs[c2]? = some C2 ∧ ClsAt K c2 C2 ∧ (PySem.W.clsIn K C2).isSome = true ∧ PySem.W.typeIn K (.ref C2) = some (.type "type") := by
      by_cases e : c2 = 21
      · subst e
        exact ⟨CF, hCF, aF, dF, tF⟩
      · obtain ⟨C, e, F⟩ := hc c2 (by omega)
        exact ⟨C, e, F.loc, F.cd, F.ty⟩
    obtain ⟨C2, e2, a2, d2, t2⟩ := key
    refine ⟨C2, PySem.W.mg_of X G a2, fun cl C h hl => ?_⟩
    obtain ⟨e, F⟩ := uni cl C h hl
    rw [F.is d2 t2]
    have q1 : C2 = C ↔ c2 = cl := ⟨fun z => by subst z; exact nd_inj hn e2 e, fun z => by subst z; rw [e] at e2; exact (Option.some.inj e2).symm⟩
    have q2 : C2 = CF ↔ 21 ≤ c2 := ⟨fun z => by subst z; have := nd_inj hn e2 hCF; omega, fun z => by
      have : c2 = 21 := by omega
      subst this
      rw [hCF] at e2; exact (Option.some.inj e2).symm⟩
    simp only [subX, q1, q2]
  · obtain ⟨e, F⟩ := uni cl C h hl
    exact ⟨F.exc, fun h17 => (h1 cl C e h17).no⟩
end Ev

namespace Ev
open PySem PySem.Spec L2

/-! ### what leaves a def -/
section
variable {K : PySem.W.Frag} {ι ι' : Ix} {H H' : Hp} {μ μ' : Sto}
theorem pre_mem {l l' : List Addr} (p : l <+: l') {a : Addr} (h : a ∈ l) : a ∈ l' := p.subset h
theorem SqR.low (p : ι.loc <+: ι'.loc) (hh : ι'.hid = ι.hid) {a : Addr} {xs : List V} (h : SqR H ι' a xs) : SqR H ι a xs := ⟨fun z => h.1 (pre_mem p z), fun z => h.2.1 (by rw [hh]; exact z), h.2.2⟩
theorem DkR.low (p : ι.loc <+: ι'.loc) (hh : ι'.hid = ι.hid) {a : Addr} {xs : List (Key × V)} (h : DkR H ι' a xs) : DkR H ι a xs := ⟨fun z => h.1 (pre_mem p z), fun z => h.2.1 (by rw [hh]; exact z), h.2.2⟩
theorem ExR.low (p : ι.loc <+: ι'.loc) (hh : ι'.hid = ι.hid) {a : Addr} {cls : Value} {d : Option Addr} (h : ExR H ι' a cls d) : ExR H ι a cls d := ⟨fun z => h.1 (pre_mem p z), fun z => h.2.1 (by rw [hh]; exact z), h.2.2⟩
theorem pre_low {l l' : List Addr} (p : l <+: l') {n : Nat} {a : Addr} (h : l'[n]? = some a) (hn : n < l.length) : l[n]? = some a := by
  obtain ⟨r, rfl⟩ := p
  rw [List.getElem?_append_left hn] at h; exact h
mutual
theorem Rel.both (p : ι.loc <+: ι'.loc) (hh : ι'.hid = ι.hid) : ∀ {d : D} {v0 v : V}, Rel K H ι d v0 → Rel K H' ι' d v → Rel K H' ι d v
  | _, _, _, .non, .non => .non
  | _, _, _, .bl _, .bl b => .bl b
  | _, _, _, .int _, .int i => .int i
  | _, _, _, .str _, .str s => .str s
  | _, _, _, .tup _ r0, .tup h r => .tup h (RelL.both p hh r0 r)
  | _, _, _, .rol _ r0, .rol h r => .rol (h.low p hh) (RelL.both p hh r0 r)
  | _, _, _, .frl _ r0, .frl h r => .frl h (RelL.both p hh r0 r)
  | _, _, _, .dct _ r0, .dct h r => .dct (h.low p hh) (RelK.both p hh r0 r)
  | _, _, _, .rng _, .rng h => .rng h
  | _, _, _, .exo _ _, .exo hc h => .exo hc (h.low p hh)
  | _, _, _, .exo1 _ _ _ r0, .exo1 hc h hd r => .exo1 hc (h.low p hh) hd (Rel.both p hh r0 r)
  | _, _, _, .loc h0, .loc h => .loc (pre_low p h (List.getElem?_eq_some_iff.mp h0).1)
theorem RelL.both (p : ι.loc <+: ι'.loc) (hh : ι'.hid = ι.hid) : ∀ {d : List D} {v0 v : List V}, RelL K H ι d v0 → RelL K H' ι' d v → RelL K H' ι d v
  | _, _, _, .nil, .nil => .nil
  | _, _, _, .cons r0 t0, .cons r t => .cons (Rel.both p hh r0 r) (RelL.both p hh t0 t)
theorem RelK.both (p : ι.loc <+: ι'.loc) (hh : ι'.hid = ι.hid) : ∀ {d : List (DKey × D)} {v0 v : List (Key × V)}, RelK K H ι d v0 → RelK K H' ι' d v → RelK K H' ι d v
  | _, _, _, .nil, .nil => .nil
  | _, _, _, .cons r0 t0, .cons r t => .cons (Rel.both p hh r0 r) (RelK.both p hh t0 t)
end
theorem Rel.low (p : ι.loc <+: ι'.loc) (hh : ι'.hid = ι.hid) : ∀ (k : Nat) {d : D} {v : V}, lowD k ι.loc.length d = true → Rel K H ι' d v → Rel K H ι d v
  | 0, d, v, h, _ => by simp [lowD] at h
  | k + 1, d, v, h, r => by
    have ih : ∀ {l : List D} {vs : List V}, (l.all (lowD k ι.loc.length)) = true → RelL K H ι' l vs → RelL K H ι l vs := by
      intro l
      induction l with
      | nil => intro vs _ r; cases r; exact .nil
      | cons d l ihl =>
        intro vs h r
        rw [List.all_cons, Bool.and_eq_true] at h
        cases r with
        | cons r t => exact .cons (Rel.low p hh k h.1 r) (ihl h.2 t)
    have ihK : ∀ {l : List (DKey × D)} {vs : List (Key × V)}, (l.all fun q => lowD k ι.loc.length q.2) = true → RelK K H ι' l vs → RelK K H ι l vs := by
      intro l
      induction l with
      | nil => intro vs _ r; cases r; exact .nil
      | cons d l ihl =>
        intro vs h r
        rw [List.all_cons, Bool.and_eq_true] at h
        cases r with
        | cons r t => exact .cons (Rel.low p hh k h.1 r) (ihl h.2 t)
    cases r with
    | non => exact .non
    | bl b => exact .bl b
    | int i => exact .int i
    | str s => exact .str s
    | tup h1 r => exact .tup h1 (ih (by simpa [lowD] using h) r)
    | rol h1 r => exact .rol (h1.low p hh) (ih (by simpa [lowD] using h) r)
    | frl h1 r => exact .frl h1 (ih (by simpa [lowD] using h) r)
    | dct h1 r => exact .dct (h1.low p hh) (ihK (by simpa [lowD] using h) r)
    | rng h1 => exact .rng h1
    | exo hc h1 => exact .exo hc (h1.low p hh)
    | exo1 hc h1 hd r => exact .exo1 hc (h1.low p hh) hd (Rel.low p hh k (by simpa [lowD] using h) r)
    | loc h1 =>
      simp only [lowD, decide_eq_true_eq] at h
      exact .loc (pre_low p h1 h)
theorem all_low (p : ι.loc <+: ι'.loc) (hh : ι'.hid = ι.hid) {k : Nat} : ∀ {l : List D} {vs : List V}, l.all (lowD k ι.loc.length) = true → RelL K H ι' l vs → RelL K H ι l vs := by
  intro l
  induction l with
  | nil => intro vs _ r; cases r; exact .nil
  | cons d l ihl =>
    intro vs h r
    rw [List.all_cons, Bool.and_eq_true] at h
    cases r with
    | cons r t => exact .cons (Rel.low p hh k h.1 r) (ihl h.2 t)
theorem allK_low (p : ι.loc <+: ι'.loc) (hh : ι'.hid = ι.hid) {k : Nat} : ∀ {l : List (DKey × D)} {vs : List (Key × V)}, (l.all fun q => lowD k ι.loc.length q.2) = true → RelK K H ι' l vs → RelK K H ι l vs := by
  intro l
  induction l with
  | nil => intro vs _ r; cases r; exact .nil
  | cons d l ihl =>
    intro vs h r
    rw [List.all_cons, Bool.and_eq_true] at h
    cases r with
    | cons r t => exact .cons (Rel.low p hh k h.1 r) (ihl h.2 t)
theorem old_no (p : ι.loc <+: ι'.loc) (nd : ι'.loc.Nodup) {i : Nat} {a : Addr} (h : ι'.loc[i]? = some a) (hi : ¬ i < ι.loc.length) : a ∉ ι.loc := fun z => by
  obtain ⟨j, hj⟩ := List.mem_iff_getElem?.mp z
  have hjl := (List.getElem?_eq_some_iff.mp hj).1
  have e1 := List.getElem?_eq_some_iff.mp (pre_get p hj)
  have e2 := List.getElem?_eq_some_iff.mp h
  have := (List.getElem_inj (h₀ := e1.1) (h₁ := e2.1) nd).mp (e1.2.trans e2.2.symm)
  omega
theorem Rel.frz (p : ι.loc <+: ι'.loc) (hh : ι'.hid = ι.hid) (S : StOk K H ι' μ') : ∀ (k : Nat) {d d2 : D} {v : V}, Ev.frz μ' ι.loc.length k d = some d2 → Rel K H ι' d v → Rel K H ι d2 v
  | 0, d, d2, v, h, _ => by simp [Ev.frz] at h
  | k + 1, d, d2, v, h, r => by
    have ih : ∀ {l l2 : List D} {vs : List V}, omap (Ev.frz μ' ι.loc.length k) l = some l2 → RelL K H ι' l vs → RelL K H ι l2 vs := by
      intro l
      induction l with
      | nil => intro l2 vs h r; cases h; cases r; exact .nil
      | cons d l ihl =>
        intro l2 vs h r
        obtain ⟨b, bs, h1, h2, rfl⟩ := omap_cons h
        cases r with
        | cons r t => exact .cons (Rel.frz p hh S k h1 r) (ihl h2 t)
    have ihK : ∀ {l l2 : List (DKey × D)} {vs : List (Key × V)}, omap (fun q : DKey × D => (Ev.frz μ' ι.loc.length k q.2).map fun x => (q.1, x)) l = some l2 → RelK K H ι' l vs → RelK K H ι l2 vs := by
      intro l
      induction l with
      | nil => intro l2 vs h r; cases h; cases r; exact .nil
      | cons d l ihl =>
        intro l2 vs h r
        obtain ⟨b, bs, h1, h2, rfl⟩ := omap_cons h
        obtain ⟨x, hx, rfl⟩ := map_some' h1
        cases r with
        | cons r t => exact .cons (Rel.frz p hh S k hx r) (ihl h2 t)
    cases r with
    | non => cases h; exact .non
    | bl b => cases h; exact .bl b
    | int i => cases h; exact .int i
    | str s => cases h; exact .str s
    | tup h1 r => obtain ⟨l2, q, rfl⟩ := map_some' (show (omap _ _).map D.tup = some d2 from h); exact .tup h1 (ih q r)
    | rol h1 r => obtain ⟨l2, q, rfl⟩ := map_some' (show (omap _ _).map D.rol = some d2 from h); exact .rol (h1.low p hh) (ih q r)
    | frl h1 r => obtain ⟨l2, q, rfl⟩ := map_some' (show (omap _ _).map D.frl = some d2 from h); exact .frl h1 (ih q r)
    | dct h1 r => obtain ⟨l2, q, rfl⟩ := map_some' (show (omap _ _).map D.dct = some d2 from h); exact .dct (h1.low p hh) (ihK q r)
    | rng h1 => cases h; exact .rng h1
    | @exo c _ _ hc h1 =>
      obtain ⟨l2, q, rfl⟩ := map_some' (show (omap _ _).map (D.exo c) = some d2 from h)
      cases q
      exact .exo hc (h1.low p hh)
    | @exo1 c _ _ _ _ _ hc h1 hd r =>
      obtain ⟨l2, q, rfl⟩ := map_some' (show (omap _ _).map (D.exo c) = some d2 from h)
      obtain ⟨b, bs, q1, q2, rfl⟩ := omap_cons q
      cases q2
      exact .exo1 hc (h1.low p hh) hd (Rel.frz p hh S k q1 r)
    | @loc i a h1 =>
      simp only [Ev.frz] at h
      split at h
      · rename_i hi
        cases h
        exact .loc (pre_low p h1 hi)
      · rename_i hi
        have no := old_no p S.nd h1 hi
        have nh : a ∉ ι.hid := fun z => S.dj _ (List.mem_of_getElem? h1) (by rw [hh]; exact z)
        split at h
        · rename_i l hl
          obtain ⟨l2, q, rfl⟩ := map_some' h
          obtain ⟨xs, hx, r⟩ := S.lst hl h1
          exact .rol ⟨no, nh, hx⟩ (ih q r)
        · rename_i l hl
          obtain ⟨l2, q, rfl⟩ := map_some' h
          obtain ⟨b, hb, ps, hx, r⟩ := S.ok _ _ hl
          rw [h1] at hb; cases hb
          exact .dct ⟨no, nh, hx⟩ (ihK q r)
        · cases h
theorem trim_ok {d d2 : D} {μ2 : Sto} {v : V} (S0 : StOk K H ι μ) (g : Grow K ι H ι' H') (S : StOk K H' ι' μ') (r : Rel K H' ι' d v) (h : trim μ d μ' = .ok d2 μ2) : Grow K ι H ι H' ∧ StOk K H' ι μ2 ∧ Rel K H' ι d2 v := by
  unfold trim at h
  split at h
  · rename_i hk
    obtain ⟨hk, hl⟩ := hk
    obtain ⟨h1, rfl⟩ := ofO_ok h
    rw [← S0.len] at h1
    have p := g.pre
    have hh := g.hid
    refine ⟨⟨⟨List.prefix_refl _, g.tup, fun a xs q => (g.rol a xs q).low p hh, g.ext.frl, fun a xs q => (g.ext.dct a xs q).low p hh, g.ext.rng, fun a cls d q => (g.ext.exo a cls d q).low p hh, g.ext.xd⟩, rfl, g.hk⟩, ⟨?_, ?_, ?_, ?_, ?_⟩, r.frz p hh S 100 h1⟩
    · rw [List.length_take, S0.len]; omega
    · exact S.nd.sublist p.sublist
    · intro a ha z; exact S.dj a (pre_mem p ha) (by rw [hh]; exact z)
    · intro a ha; exact S.hd a (by rw [hh]; exact ha)
    · intro n m hn
      have hlt : n < μ.length := by
        have := (List.getElem?_eq_some_iff.mp hn).1
        rw [List.length_take] at this; omega
      rw [List.getElem?_take, if_pos hlt] at hn
      obtain ⟨a, ha, hm⟩ := S.ok n m hn
      have ha' : ι.loc[n]? = some a := pre_low p ha (by rw [S0.len]; exact hlt)
      refine ⟨a, ha', ?_⟩
      rcases hk n m hlt hn with e | e
      · obtain ⟨b, hb, hm0⟩ := S0.ok n m e
        rw [ha'] at hb; cases hb
        cases m with
        | lst l => obtain ⟨xs0, _, r0⟩ := hm0; obtain ⟨xs, hx, r1⟩ := hm; exact ⟨xs, hx, r0.both p hh r1⟩
        | dic l => obtain ⟨xs0, _, r0⟩ := hm0; obtain ⟨xs, hx, r1⟩ := hm; exact ⟨xs, hx, r0.both p hh r1⟩
      · rw [← S0.len] at e
        cases m with
        | lst l => obtain ⟨xs, hx, r1⟩ := hm; exact ⟨xs, hx, all_low p hh e r1⟩
        | dic l => obtain ⟨xs, hx, r1⟩ := hm; exact ⟨xs, hx, allK_low p hh e r1⟩
  · cases h
end
end Ev

namespace Ev
open PySem PySem.Spec L2

/-! ### defs -/
/-- a tuple that is known whole: it has no dict -/
def NdT (H : Hp) (v : V) : Prop := ∃ a o xs, v = .ref a ∧ H a = some (.frz o (.tup xs)) ∧ o.dict = none
def AftN (nd : Bool) (K : PySem.W.Frag) (ι : Ix) (H : Hp) (Q : VK) (d : D) (μ : Sto) : Prop := ∀ ι' H' v, Grow K ι H ι' H' → StOk K H' ι' μ → Rel K H' ι' d v → (nd = true → NdT H' v) → Q v H'
theorem Aft.n {nd : Bool} {K : PySem.W.Frag} {ι : Ix} {H : Hp} {Q : VK} {d : D} {μ : Sto} (h : Aft K ι H Q d μ) : AftN nd K ι H Q d μ := fun ι' H' v g s r _ => h ι' H' v g s r
theorem AftN.grow {nd : Bool} {K : PySem.W.Frag} {ι ι' : Ix} {H H' : Hp} {Q : VK} {d : D} {μ : Sto} (a : AftN nd K ι H Q d μ) (g : Grow K ι H ι' H') : AftN nd K ι' H' Q d μ := fun ι2 H2 v g2 s2 r2 n => a ι2 H2 v (g.trans g2) s2 r2 n
def TVN (K : PySem.W.Frag) (f : Loc → Sto → Res D) : TE := fun σ H Q => ∃ ι ρ μ d μ', EnvOk K H ι ρ σ ∧ StOk K H ι μ ∧ f ρ μ = .ok d μ' ∧ AftN true K ι H Q d μ'
/-- the def at f does what c says of values -/
structure FnG (P : Program) (w : World) (K : PySem.W.Frag) (mg : Str → Option Value) (base : Heap) (k : Nat) (f : Addr) (fd : FuncData) (ps : List Str) (nd : Bool) (c : List D → Sto → Res D) : Prop where
  len : ∀ ds μ d μ', c ds μ = .ok d μ' → ds.length = ps.length
  run : ∀ (A : Around) (outer : List Env) (s : Shared) (H : Hp) (args : Args) (us : List Value) (vs : List V) (Q : VK) (ι : Ix) (μ : Sto) (ds : List D) (d : D) (μ' : Sto), Room k A → A.guards = some [] → Env0 P w K mg base A outer s H →
    BindsTo s fd args (ps.zip us) → Vals vs us → StOk K H ι μ → RelL K H ι ds vs → c ds μ = .ok d μ' → AftN nd K ι H Q d μ' → codeAny (model P w) A (.call (.ref f) args) (CR CX0 outer P w H s Q E0) s
/-- an own def, called with the values of its parameters -/
def rFn (nd : Bool) (K : PySem.W.Frag) (c : List D → Sto → Res D) : List V → Hp → VK → Prop := fun vs H Q => ∃ ι μ ds d μ', StOk K H ι μ ∧ RelL K H ι ds vs ∧ c ds μ = .ok d μ' ∧ AftN nd K ι H Q d μ'
section
variable {X : Cx} {k : Nat} {f : Addr} {fd : FuncData} {ps : List Str} {nd : Bool} {c : List D → Sto → Res D}
theorem fn_end {pins : List (Addr × Obj)} {σ : L2.St} {H : Hp} {s : Shared} {Q : VK} {args : Args} {us : List Value} {vs : List V} (F : FnG X.prog X.w X.K X.mg X.base k f fd ps nd c) (hr : Room k X.A) (hg : X.A.guards = some []) (I : Inv X pins σ H s)
    (hb : ∀ n, us.length = n → n = ps.length → BindsTo s fd args (ps.zip us)) (r : Vals vs us) (h : rFn nd X.K c vs H Q) : codeAny (model X.prog X.w) X.A (.call (.ref f) args) (fun r s' => match r with | .ok (.ret u) => EP X pins σ Q u s' | .ok _ => False | .error e => X.xe e s') s := by
  obtain ⟨ι, μ, ds, d, μ', S, rd, hc, ha⟩ := h
  have hl : us.length = ps.length := by rw [← r.length, ← rd.length]; exact F.len _ _ _ _ hc
  refine codeAny_mono (F.run X.A X.stack s H args us vs Q ι μ ds d μ' hr hg I.env0 (hb _ rfl hl) r S rd hc ha) fun r s' hq => ?_
  match r, hq with
  | .error e, hq => exact False.elim hq
  | .ok (.ret u), hq => exact I.after hq
theorem call_own (F : FnG X.prog X.w X.K X.mg X.base k f fd ps nd c) (hr : Room k X.A) (hg : X.A.guards = some []) (hb : Binds X.K fd ps []) : CallR X (.ref f) (rFn nd X.K c) := by
  intro pins s σ H xs us Q I rs h
  refine wpAny_call (codeAny_mono (fn_end F hr hg I (fun n h1 h2 => ?_) rs h) fun r s' hq => hq)
  have := hb s us I.kIn (by rw [List.append_nil]; omega)
  rw [List.append_nil] at this
  exact this
end

/-- what follows a statement -/
def AftO (K : PySem.W.Frag) (ι : Ix) (H : Hp) (D : Ends) (o : Out) (μ' : Sto) : Prop := match o with
  | .nx ρ' => ∀ ι' σ' H', Grow K ι H ι' H' → StOk K H' ι' μ' → EnvOk K H' ι' ρ' σ' → D.nx σ' H'
  | .rt d => Aft K ι H D.rt d μ'
  | .bk ρ' => ∀ ι' σ' H', Grow K ι H ι' H' → StOk K H' ι' μ' → EnvOk K H' ι' ρ' σ' → D.bk σ' H'
  | .ct ρ' => ∀ ι' σ' H', Grow K ι H ι' H' → StOk K H' ι' μ' → EnvOk K H' ι' ρ' σ' → D.ct σ' H'
/-- a def's body: what it evaluates to -/
def TO (K : PySem.W.Frag) (f : Loc → Sto → Res Out) : TS := fun D σ H => ∃ ι ρ μ o μ', EnvOk K H ι ρ σ ∧ StOk K H ι μ ∧ f ρ μ = .ok o μ' ∧ AftO K ι H D o μ'
theorem env_enter {K : PySem.W.Frag} {ι : Ix} {H : Hp} {ds : List D} {vs : List V} {N : List Str} (r : RelL K H ι ds vs) : EnvOk K H ι (enter N.length ds) (L2.start N vs) := by
  have hl := r.length
  refine ⟨by unfold enter L2.start; simp [hl], fun i d h => ?_⟩
  unfold enter at h
  unfold L2.start
  by_cases hi : i < ds.length
  · rw [List.getElem?_append_left (by simpa using hi), List.getElem?_map] at h
    obtain ⟨d', hd⟩ : ∃ d', ds[i]? = some d' := ⟨_, List.getElem?_eq_getElem hi⟩
    rw [hd] at h
    cases h
    obtain ⟨v, h1, h2⟩ := r.get hd
    exact ⟨v, by rw [List.getElem?_append_left (by rw [List.length_map]; omega), List.getElem?_map, h1]; rfl, h2⟩
  · rw [List.getElem?_append_right (by simpa using hi), List.getElem?_replicate] at h
    split at h <;> cases h
theorem fn_g {P : Program} {w : World} {K : PySem.W.Frag} {mg : Str → Option Value} {base : Heap} {k : Nat} {x qual : Str} {st : Stmt} {f : Addr} {fd : FuncData} {N ps : List Str} {kw : Kwp} {c : Call} {fn : Fn}
    (F : Fun K x qual st f fd) (S : FnScope N ps (defScope st)) (hp : fn.par = ps.length) (hs : fn.slots = N.length)
    (body : ∀ (cdv : Value) (A : Around) (outer : List Env) (s : Shared) (H : Hp), Room k (A.deeper (PyProof.Rows.envOfC qual (defScope st) s.heap.objs.size f cdv)) → A.guards = some [] →
      PSs (cxOf CX0 P w K mg base N qual (defScope st) f cdv A outer s H E0).nox (defBody st) (TO K fun ρ μ => exs c kw fn.body ρ μ)) :
    FnG P w K mg base (k + 1) f fd ps false (runFn c kw fn) := by
  obtain ⟨oc, od, kV, doc, pm, an, cdv, ct, osl, rfl, lk, hcd⟩ := F.ex
  have hlen : ∀ ds μ d μ', runFn c kw fn ds μ = .ok d μ' → ds.length = ps.length := fun ds μ d μ' h => by
    unfold runFn at h
    split at h
    · rename_i e; omega
    · cases h
  refine ⟨hlen, fun A outer s H args us vs Q ι μ ds d μ' hr hg e0 hb r Sk rd hc ha => ?_⟩
  have hl : vs.length = ps.length := by rw [← rd.length]; exact hlen _ _ _ _ hc
  have KX : K.In s.heap := e0.mod.kin.keeps fun b o e => (e0.bs b o e).1
  have lim : s.heap.NoLimit := e0.mod.nolimit.keeps fun b o e => (e0.bs b o e).1
  have hkind : ∀ y ∈ ps.zip us, (defScope st).names.lookup y.1 = some .local ∨ ((defScope st).names.lookup y.1 = some .cell ∧ ((cellsFrom (s.heap.objs.size + 1) (defScope st).names []).lookup y.1).isSome = true) := fun y hy => by
    rcases S.par y.1 (List.of_mem_zip hy).1 with q | q
    · exact .inl q
    · exact .inr ⟨q, PySem.W.cellsFrom_some _ _ _ (.inl q)⟩
  refine codeAny_call_function hr.depth (KX _ _ lk) rfl S.co S.gen rfl (PySem.W.codeRec_of KX hcd) (hb _ _ _ _ (wpAny_newFunctionEnv_cells S.kind hkind fun env he s1 x => ?_))
  subst he
  refine ⟨lim.keeps x.toInCall.keep, codeAny_func ?_⟩
  have I := inv_start (CX := CX0) (E := E0) S hr.hd e0 hl r x
  unfold runFn at hc
  rw [if_pos (by rw [rd.length, hl, hp])] at hc
  obtain ⟨o, μ1, h1, h2⟩ := Res.bind_ok hc
  have hB := (body cdv A outer s H (hr.deeper _) hg).nox
  -- what is handed back, as it is or trimmed
  have out : ∀ (x : D), (if fn.tr = true then trim μ x μ1 else .ok x μ1) = .ok d μ' → ∀ ι' H' v, Grow K ι H ι' H' → StOk K H' ι' μ1 → Rel K H' ι' x v → Q v H' := by
    intro x hx ι' H' v g S' r'
    split at hx
    · obtain ⟨q1, q2, q3⟩ := trim_ok Sk g S' r' hx
      exact ha ι H' v q1 q2 q3 fun z => nomatch z
    · cases hx
      exact ha ι' H' v g S' r' fun z => nomatch z
  refine wpAny_mono (hB.run [] s1 _ H { nx := fun _ H' => Q .non H', rt := Q } I ⟨ι, enter fn.slots ds, μ, o, μ1, by rw [hs]; exact env_enter rd, Sk, h1, ?_⟩) (fun fl s' hq => ?_) fun e s' hq => hq
  · cases o with
    | nx ρ' => exact fun ι' σ' H' g S' _ => out .non h2 ι' H' .non g S' .non
    | rt d' => exact out d' h2
    | bk ρ' => cases h2
    | ct ρ' => cases h2
  · match fl, hq with
    | .ret u, ⟨v, σ', H', J, rv, q⟩ => exact ⟨v, H', J.os, J.bare, J.base, J.hok, rv, q⟩
    | .next, ⟨σ', H', J, q⟩ => exact ⟨.non, H', J.os, J.bare, J.base, J.hok, rfl, q⟩
    | .brk, ⟨_, _, _, q⟩ => exact False.elim q
    | .cont, ⟨_, _, _, q⟩ => exact False.elim q
/-- a def that is one return of such a tuple -/
theorem fn_n {P : Program} {w : World} {K : PySem.W.Frag} {mg : Str → Option Value} {base : Heap} {k : Nat} {x qual : Str} {st : Stmt} {f : Addr} {fd : FuncData} {N ps : List Str} {kw : Kwp} {c : Call} {fn : Fn} {e : Expr} {e' : E} {pos : Pos}
    (F : Fun K x qual st f fd) (S : FnScope N ps (defScope st)) (hp : fn.par = ps.length) (hs : fn.slots = N.length) (hb1 : defBody st = [.Return (some e) pos]) (hb2 : fn.body = [.ret e']) (htr : fn.tr = false)
    (body : ∀ (cdv : Value) (A : Around) (outer : List Env) (s : Shared) (H : Hp), Room k (A.deeper (PyProof.Rows.envOfC qual (defScope st) s.heap.objs.size f cdv)) → A.guards = some [] →
      PE (cxOf CX0 P w K mg base N qual (defScope st) f cdv A outer s H E0).nox e (TVN K (ev c kw e'))) :
    FnG P w K mg base (k + 1) f fd ps true (runFn c kw fn) := by
  obtain ⟨oc, od, kV, doc, pm, an, cdv, ct, osl, rfl, lk, hcd⟩ := F.ex
  have hlen : ∀ ds μ d μ', runFn c kw fn ds μ = .ok d μ' → ds.length = ps.length := fun ds μ d μ' h => by
    unfold runFn at h
    split at h
    · rename_i e; omega
    · cases h
  refine ⟨hlen, fun A outer s H args us vs Q ι μ ds d μ' hr hg e0 hb r Sk rd hc ha => ?_⟩
  have hl : vs.length = ps.length := by rw [← rd.length]; exact hlen _ _ _ _ hc
  have KX : K.In s.heap := e0.mod.kin.keeps fun b o e => (e0.bs b o e).1
  have lim : s.heap.NoLimit := e0.mod.nolimit.keeps fun b o e => (e0.bs b o e).1
  have hkind : ∀ y ∈ ps.zip us, (defScope st).names.lookup y.1 = some .local ∨ ((defScope st).names.lookup y.1 = some .cell ∧ ((cellsFrom (s.heap.objs.size + 1) (defScope st).names []).lookup y.1).isSome = true) := fun y hy => by
    rcases S.par y.1 (List.of_mem_zip hy).1 with q | q
    · exact .inl q
    · exact .inr ⟨q, PySem.W.cellsFrom_some _ _ _ (.inl q)⟩
  refine codeAny_call_function hr.depth (KX _ _ lk) rfl S.co S.gen rfl (PySem.W.codeRec_of KX hcd) (hb _ _ _ _ (wpAny_newFunctionEnv_cells S.kind hkind fun env he s1 x => ?_))
  subst he
  refine ⟨lim.keeps x.toInCall.keep, codeAny_func ?_⟩
  have I := inv_start (CX := CX0) (E := E0) S hr.hd e0 hl r x
  unfold runFn at hc
  rw [if_pos (by rw [rd.length, hl, hp])] at hc
  obtain ⟨o, μ1, h1, h2⟩ := Res.bind_ok hc
  rw [hb2] at h1
  simp only [exs, ex] at h1
  obtain ⟨o2, μ2, h3, h4⟩ := Res.bind_ok h1
  obtain ⟨dv, μ3, h5, h6⟩ := Res.bind_ok h3
  cases h6
  cases h4
  rw [htr] at h2
  cases h2
  have hP := ps_ret (pos := pos) (body cdv A outer s H (hr.deeper _) hg)
  have hB0 := pss_one hP
  rw [← hb1] at hB0
  have hB := hB0.nox
  refine wpAny_mono (hB.run [] s1 _ H { nx := fun _ H' => Q .non H', rt := Q } I ⟨ι, enter fn.slots ds, μ, _, _, by rw [hs]; exact env_enter rd, Sk, h5, ha⟩) (fun fl s' hq => ?_) fun e s' hq => hq
  match fl, hq with
  | .ret u, ⟨v, σ', H', J, rv, q⟩ => exact ⟨v, H', J.os, J.bare, J.base, J.hok, rv, q⟩
  | .next, ⟨σ', H', J, q⟩ => exact ⟨.non, H', J.os, J.bare, J.base, J.hok, rfl, q⟩
  | .brk, ⟨_, _, _, q⟩ => exact False.elim q
  | .cont, ⟨_, _, _, q⟩ => exact False.elim q
end Ev

namespace Ev
open PySem PySem.Spec L2

/-! ### where a piece of the text stands -/
def bltNames : List Str := ["len", "repr", "abs", "int", "str", "list", "tuple", "all", "any", "max", "min", "range", "isinstance", "bool", "dict", "sorted", "set", "enumerate", "zip", "sum"]
structure XOk (G : Cfg) (N : List Str) (c : Call) (kw : Kwp) (k : Nat) (X : Cx) : Prop where
  calm : X.calm = true
  eN : X.N = N
  nd : N.Nodup
  gd : X.A.guards = some []
  room : Room k X.A
  blt : ∀ x ∈ bltNames, X.mg x = none
  cns : ∀ x d, G.cns.lookup x = some d → ∃ u, X.mg x = some u ∧ RelV (kV (keyK d)) u
  exc : ExsOk X.K X.mg G.exs
  lev : 2 ≤ k
  fn : ∀ (i : Nat) (x : Str), fidOf x G.fns = some i → ∃ (fa : Addr) (fd : FuncData) (ps : List Str), X.mg x = some (.ref fa) ∧ PySem.W.keepIn X.K (.ref fa) = true ∧ FnG X.prog X.w X.K X.mg X.base k fa fd ps (G.nds.contains i) (c i) ∧ Binds X.K fd ps [] ∧
    ∀ (np : Nat) (ks : List Str) (p : List Nat), (i, np, ks, p) ∈ G.kws → ∀ (s : Shared) (us ws : List Value), us.length = np → ws.length = ks.length → ∃ zs, perm (us ++ ws) p = some zs ∧ BindsTo s fd ⟨us, ks.zip ws⟩ (ps.zip zs)
section
variable {G : Cfg} {N : List Str} {c : Call} {kw : Kwp} {k : Nat} {X : Cx}
theorem XOk.units (h : XOk G N c kw k X) : X.A.units + 200 < cLine := by have := h.room.un; omega
theorem XOk.blk (h : XOk G N c kw k X) (s : Shared) (H : Hp) (scope : Scope) (cenv : Env) (fp : List Addr) : XOk G N c kw k (X.blk s H scope cenv fp) :=
  ⟨h.calm, h.eN, h.nd, h.gd, h.room, h.blt, h.cns, h.exc, h.lev, h.fn⟩
end

/-! ### arguments -/
theorem star1 {e : Expr} {es : List Expr} {env : Env} (h : isStar e = false) : starEach (e :: es) env = (false, eval e env) :: starEach es env := by
  cases e <;> first | rfl | cases h
theorem star_none {pos : Pos} {env : Env} : ∀ {es : List Expr}, es.any isStar = false → (backTo pos (starEach es env)).any (·.1) = false
  | [], _ => rfl
  | e :: es, h => by
    rw [List.any_cons, Bool.or_eq_false_iff] at h
    rw [star1 h.1]
    show (false || (backTo pos (starEach es env)).any (·.1)) = false
    rw [star_none h.2]; rfl
theorem star_all {pos : Pos} {env : Env} : ∀ {es : List Expr}, es.any isStar = false → (backTo pos (starEach es env)).all (fun x => !x.1) = true
  | [], _ => rfl
  | e :: es, h => by
    rw [List.any_cons, Bool.or_eq_false_iff] at h
    rw [star1 h.1]
    show (true && (backTo pos (starEach es env)).all (fun x => !x.1)) = true
    rw [star_all h.2]; rfl
section
variable {X : Cx} {K : PySem.W.Frag} {f : Loc → Sto → Res D} {e : Expr} {t : TE}
theorem TB.of {σ : L2.St} {H : Hp} {Q : Bool → Hp → Prop} (h : TB K f σ H Q) : TV K f σ H fun v H' => ∃ b, v = .bl b ∧ Q b H' := by
  obtain ⟨ι, ρ, μ, b, μ', h1, h2, h3, h4⟩ := h
  refine ⟨ι, ρ, μ, .bl b, μ', h1, h2, h3, fun ι' H' v g s r => ?_⟩
  cases r
  exact ⟨b, rfl, h4 ι' H' g s⟩
theorem pt_of (h : PE X e (TV K f)) (he : ∀ whole, isTrue e X.env whole = (do let v ← whole; standAt e.pos; holding [v] (truthy v))) : PT X e (TB K f) :=
  ptImp (pt_val h he) fun σ H Q q => TB.of q
theorem TV.one {g : D → Sto → Res D} {σ : L2.St} {H : Hp} {Q : VK} {R : V → Hp → Prop} (h : TV K (fun ρ μ => (f ρ μ).bind g) σ H Q)
    (hR : ∀ ι H μ x d μ' u, StOk K H ι μ → Rel K H ι x u → g x μ = .ok d μ' → Aft K ι H Q d μ' → R u H) : TV K f σ H R := by
  obtain ⟨ι, ρ, μ, d, μ', he, hs, hf, ha⟩ := h
  obtain ⟨x, μ1, h1, hk⟩ := Res.bind_ok hf
  exact ⟨ι, ρ, μ, x, μ1, he, hs, h1, fun ι1 H1 u g1 s1 r1 => hR ι1 H1 μ1 x d μ' u s1 r1 hk fun ι3 H3 w g3 s3 r3 => ha ι3 H3 w (g1.trans g3) s3 r3⟩
/-- behind an argument list -/
theorem TL.one {f : Loc → Sto → Res (List D)} {g : List D → Sto → Res D} {σ : L2.St} {H : Hp} {Q : VK} {R : List V → Hp → Prop} (h : TV K (fun ρ μ => (f ρ μ).bind g) σ H Q)
    (hR : ∀ ι H μ xs d μ' us, StOk K H ι μ → RelL K H ι xs us → g xs μ = .ok d μ' → Aft K ι H Q d μ' → R us H) : TL K f σ H R := by
  obtain ⟨ι, ρ, μ, d, μ', he, hs, hf, ha⟩ := h
  obtain ⟨x, μ1, h1, hk⟩ := Res.bind_ok hf
  exact ⟨ι, ρ, μ, x, μ1, he, hs, h1, fun ι1 H1 u g1 s1 r1 => hR ι1 H1 μ1 x d μ' u s1 r1 hk fun ι3 H3 w g3 s3 r3 => ha ι3 H3 w (g1.trans g3) s3 r3⟩
/-- a value, then more -/
theorem TV.seq {g : D → Loc → Sto → Res D} {σ : L2.St} {H : Hp} {Q : VK} {R : V → Hp → Prop} (h : TV K (fun ρ μ => (f ρ μ).bind fun x μ => g x ρ μ) σ H Q)
    (hR : ∀ ι H ρ μ x u d μ', EnvOk K H ι ρ σ → StOk K H ι μ → Rel K H ι x u → g x ρ μ = .ok d μ' → Aft K ι H Q d μ' → R u H) : TV K f σ H R := by
  obtain ⟨ι, ρ, μ, d, μ', he, hs, hf, ha⟩ := h
  obtain ⟨x, μ1, h1, hk⟩ := Res.bind_ok hf
  exact ⟨ι, ρ, μ, x, μ1, he, hs, h1, fun ι1 H1 u g1 s1 r1 => hR ι1 H1 ρ μ1 x u d μ' (he.grow g1) s1 r1 hk fun ι3 H3 w g3 s3 r3 => ha ι3 H3 w (g1.trans g3) s3 r3⟩
/-- what follows a truth value -/
def AftB (K : PySem.W.Frag) (ι : Ix) (H : Hp) (Q : Bool → Hp → Prop) (b : Bool) (μ : Sto) : Prop := ∀ ι' H', Grow K ι H ι' H' → StOk K H' ι' μ → Q b H'
theorem AftB.grow {ι ι' : Ix} {H H' : Hp} {Q : Bool → Hp → Prop} {b : Bool} {μ : Sto} (a : AftB K ι H Q b μ) (g : Grow K ι H ι' H') : AftB K ι' H' Q b μ := fun ι2 H2 g2 s2 => a ι2 H2 (g.trans g2) s2
theorem Aft.grow {ι ι' : Ix} {H H' : Hp} {Q : VK} {d : D} {μ : Sto} (a : Aft K ι H Q d μ) (g : Grow K ι H ι' H') : Aft K ι' H' Q d μ := fun ι2 H2 v g2 s2 r2 => a ι2 H2 v (g.trans g2) s2 r2
theorem TB.seq {g : D → Loc → Sto → Res D} {σ : L2.St} {H : Hp} {Q R : Bool → Hp → Prop} (h : TB K (fun ρ μ => (f ρ μ).bind fun x μ => g x ρ μ) σ H Q) (hb : ∀ x ρ μ d μ', g x ρ μ = .ok d μ' → ∃ b, x = .bl b)
    (hR : ∀ ι H ρ μ x b μ', EnvOk K H ι ρ σ → StOk K H ι μ → g (.bl x) ρ μ = .ok (.bl b) μ' → AftB K ι H Q b μ' → R x H) : TB K f σ H R := by
  obtain ⟨ι, ρ, μ, b, μ', he, hs, hf, ha⟩ := h
  obtain ⟨x, μ1, h1, hk⟩ := Res.bind_ok hf
  obtain ⟨xb, rfl⟩ := hb _ _ _ _ _ hk
  exact ⟨ι, ρ, μ, xb, μ1, he, hs, h1, fun ι1 H1 g1 s1 => hR ι1 H1 ρ μ1 xb b μ' (he.grow g1) s1 hk fun ι3 H3 g3 s3 => ha ι3 H3 (g1.trans g3) s3⟩
theorem pa_ev {c : Call} {kw : Kwp} : ∀ {es : List Expr} {es' : List E}, es.any isStar = false → Paired (fun e e' => PE X e (TV X.K (ev c kw e'))) es es' → PA X es (TL X.K (evs c kw es'))
  | [], [], _, .nil => ⟨fun pos pins s σ H Q I h => by
    obtain ⟨ι, ρ, μ, ds, μ', he, hs, hf, ha⟩ := h
    simp only [evs] at hf
    cases hf
    exact pa_nil.run pos pins s σ H Q I (ha ι H [] Grow.refl hs .nil)⟩
  | e :: es, e' :: es', hst, .cons h1 h2 => ⟨fun pos pins s σ H Q I h => by
    rw [List.any_cons, Bool.or_eq_false_iff] at hst
    refine (pa_cons h1 (pa_ev hst.2 h2) (star1 hst.1)).run pos pins s σ H Q I ?_
    obtain ⟨ι, ρ, μ, ds, μ', he, hs, hf, ha⟩ := h
    simp only [evs] at hf
    obtain ⟨x, μ1, q1, hf⟩ := Res.bind_ok hf
    obtain ⟨xs, μ2, q2, hf⟩ := Res.bind_ok hf
    cases hf
    exact ⟨ι, ρ, μ, x, μ1, he, hs, q1, fun ι1 H1 u g1 s1 r1 => ⟨ι1, ρ, μ1, xs, _, he.grow g1, s1, q2, fun ι2 H2 us g2 s2 r2 => ha ι2 H2 _ (g1.trans g2) s2 (.cons (r1.grow g2) r2)⟩⟩⟩
theorem omap_forall {α β : Type} {f : α → Option β} {R : α → β → Prop} : ∀ {l : List α} {r : List β}, omap f l = some r → (∀ a ∈ l, ∀ b, f a = some b → R a b) → Paired R l r
  | [], r, h, _ => by cases h; exact .nil
  | a :: l, r, h, hR => by
    obtain ⟨b, bs, h1, h2, rfl⟩ := omap_cons h
    exact .cons (hR a List.mem_cons_self b h1) (omap_forall h2 fun x hx => hR x (List.mem_cons_of_mem _ hx))
end
end Ev

namespace Ev
open PySem PySem.Spec L2

/-! ### what is walked -/
structure SrcOk (K : PySem.W.Frag) (ι0 : Ix) (H0 : Hp) (src : Src) (J : L2.It) : Prop where
  goes : ∀ ι H μ i d, Ext K ι0 H0 ι H → StOk K H ι μ → src.at i μ = some (some d) → J.go i H ∧ ∀ x H', J.yld i H x H' → Grow K ι H ι H' ∧ StOk K H' ι μ ∧ Rel K H' ι d x
  stops : ∀ ι H μ i, Ext K ι0 H0 ι H → StOk K H ι μ → src.at i μ = some none → J.stop i H
def TSrc (K : PySem.W.Frag) (f : Loc → Sto → Res Src) : TI := fun σ H R => ∃ ι ρ μ src μ', EnvOk K H ι ρ σ ∧ StOk K H ι μ ∧ f ρ μ = .ok src μ' ∧ ∀ ι' H' J, Grow K ι H ι' H' → StOk K H' ι' μ' → SrcOk K ι' H' src J → R J H'
section
variable {K : PySem.W.Frag} {ι : Ix} {H : Hp} {l : List D} {xs : List V} {a : Addr}
theorem src_tup (h : SqT K H a xs) (r : RelL K H ι l xs) : SrcOk K ι H (.its l) (Itt K a) := by
  refine ⟨fun ι' H' μ i d g s e => ?_, fun ι' H' μ i g s e => ?_⟩
  · obtain ⟨v, h1, h2⟩ := r.get (show l[i]? = some d from by simpa [Src.at] using e)
    refine ⟨⟨xs, v, g.tup _ _ h, h1⟩, fun x H2 y => ?_⟩
    obtain ⟨rfl, y⟩ := y
    have := y xs (g.tup _ _ h)
    rw [h1] at this; cases this
    exact ⟨Grow.refl, s, h2.ext g⟩
  · have e' : l[i]? = none := by simpa [Src.at] using e
    refine ⟨xs, g.tup _ _ h, ?_⟩
    rw [← r.length]
    exact List.getElem?_eq_none_iff.mp e'
theorem src_rol (h : SqR H ι a xs) (r : RelL K H ι l xs) : SrcOk K ι H (.its l) (Itl K a) := by
  refine ⟨fun ι' H' μ i d g s e => ?_, fun ι' H' μ i g s e => ?_⟩
  · obtain ⟨v, h1, h2⟩ := r.get (show l[i]? = some d from by simpa [Src.at] using e)
    refine ⟨⟨xs, v, (g.rol _ _ h).sq, h1⟩, fun x H2 y => ?_⟩
    obtain ⟨rfl, y⟩ := y
    have := y xs (g.rol _ _ h).sq
    rw [h1] at this; cases this
    exact ⟨Grow.refl, s, h2.ext g⟩
  · have e' : l[i]? = none := by simpa [Src.at] using e
    refine ⟨xs, (g.rol _ _ h).sq, ?_⟩
    rw [← r.length]
    exact List.getElem?_eq_none_iff.mp e'
theorem src_frl (h : SqF K H a xs) (r : RelL K H ι l xs) : SrcOk K ι H (.its l) (Itl K a) := by
  refine ⟨fun ι' H' μ i d g s e => ?_, fun ι' H' μ i g s e => ?_⟩
  · obtain ⟨v, h1, h2⟩ := r.get (show l[i]? = some d from by simpa [Src.at] using e)
    refine ⟨⟨xs, v, (g.frl _ _ h).sq, h1⟩, fun x H2 y => ?_⟩
    obtain ⟨rfl, y⟩ := y
    have := y xs (g.frl _ _ h).sq
    rw [h1] at this; cases this
    exact ⟨Grow.refl, s, h2.ext g⟩
  · have e' : l[i]? = none := by simpa [Src.at] using e
    refine ⟨xs, (g.frl _ _ h).sq, ?_⟩
    rw [← r.length]
    exact List.getElem?_eq_none_iff.mp e'
theorem src_str {s : List Nat} : SrcOk K ι H (.its (s.map fun c => .str [c])) (Its ⟨s.toArray⟩) := by
  refine ⟨fun ι' H' μ i d g S e => ?_, fun ι' H' μ i g S e => ?_⟩
  · have e' : (s.map fun c => D.str [c])[i]? = some d := by simpa [Src.at] using e
    rw [List.getElem?_map] at e'
    obtain ⟨c, hc, rfl⟩ := Option.map_eq_some_iff.mp e'
    have hi := (List.getElem?_eq_some_iff.mp hc).1
    refine ⟨by show i < (⟨s.toArray⟩ : Str).cps.size; simpa using hi, fun x H2 y => ?_⟩
    obtain ⟨rfl, c', hc', rfl⟩ := y
    have : s[i]? = some c' := by simpa using hc'
    rw [hc] at this; cases this
    exact ⟨Grow.refl, S, .str [c]⟩
  · have e' : (s.map fun c => D.str [c])[i]? = none := by simpa [Src.at] using e
    have := List.getElem?_eq_none_iff.mp e'
    show (⟨s.toArray⟩ : Str).cps.size ≤ i
    simpa using this
theorem src_live {n m : Nat} (h : ι.loc[n]? = some a) : SrcOk K ι H (.live n m) (Itl K a) := by
  refine ⟨fun ι' H' μ i d g s e => ?_, fun ι' H' μ i g s e => ?_⟩
  · simp only [Src.at] at e
    split at e
    · rename_i l hl
      obtain ⟨xs, h1, r⟩ := s.lst hl (pre_get g.pre h)
      obtain ⟨v, h2, h3⟩ := r.get (show l[i]? = some d from by simpa using e)
      refine ⟨⟨xs, v, SqL.of h1, h2⟩, fun x H2 y => ?_⟩
      obtain ⟨rfl, y⟩ := y
      have := y xs (SqL.of h1)
      rw [h2] at this; cases this
      exact ⟨Grow.refl, s, h3⟩
    · cases e
  · simp only [Src.at] at e
    split at e
    · rename_i l hl
      obtain ⟨xs, h1, r⟩ := s.lst hl (pre_get g.pre h)
      refine ⟨xs, SqL.of h1, ?_⟩
      rw [← r.length]
      exact List.getElem?_eq_none_iff.mp (by simpa using e)
    · cases e
theorem src_rng {lo : Int} {n : Nat} : SrcOk K ι H (.rng lo n) (Itr lo n) := by
  refine ⟨fun ι' H' μ i d g s e => ?_, fun ι' H' μ i g s e => ?_⟩
  · simp only [Src.at] at e
    split at e
    · rename_i hi
      cases e
      refine ⟨hi, fun x H2 y => ?_⟩
      obtain ⟨rfl, rfl⟩ := y
      exact ⟨Grow.refl, s, .int _⟩
    · cases e
  · simp only [Src.at] at e
    split at e
    · cases e
    · rename_i hi
      exact Nat.le_of_not_lt hi
end
section
variable {X : Cx} {G : Cfg} {N : List Str} {c : Call} {kw : Kwp} {k : Nat} {tg : Expr}
theorem rng_ok {lo hi : Int} {src : Src} (h : rngOf lo hi = some src) : (-(2 ^ 62) ≤ lo ∧ lo < 2 ^ 62 ∧ -(2 ^ 62) ≤ hi ∧ hi < 2 ^ 62) ∧ src = .rng lo (hi - lo).toNat := by
  unfold rngOf at h
  split at h
  · rename_i q; cases h; exact ⟨q, rfl⟩
  · cases h
/-- a range object, walked -/
theorem range_itv {pins : List (Addr × Obj)} {σ : L2.St} {H : Hp} {s : Shared} {R : L2.It → Hp → Prop} {E : Value → Shared → Prop} {lo hi : Int} {r : Addr} (I : L2.Inv X pins σ H s) (hr : H r = some (HO.rng lo hi)) (h1 : -(2 ^ 62) ≤ lo) (h2 : lo < 2 ^ 62) (h3 : -(2 ^ 62) ≤ hi) (h4 : hi < 2 ^ 62)
    (q : R (Itr lo (hi - lo).toNat) H) : wpAny (model X.prog X.w) X.A (pyIter (.ref r)) (PIE X pins σ tg R) E s := by
  obtain ⟨t, u, v, ho⟩ := I.hok r _ hr
  refine wpAny_pyIter_range ho (small_one h1 h2 h3 h4) ?_
  refine ⟨s.heap.objs.size, [s.heap.objs.size], _, _, H, rfl, I.kept (t' := s.toks) fun b o e => Heap.get?_push_of_some _ e, turn_range _ lo (hi - lo).toNat, ?_, fun b hb => ?_, q⟩
  · have e1 : lo + ((0 : Nat) : Int) * 1 = lo := by simp
    have e2 : (((hi - lo).toNat : Nat) : Int) - ((0 : Nat) : Int) = Builtin.Range.rangeSize lo hi 1 := by rw [rangeSize_one]; split <;> omega
    show IsRangeIter _ _ (lo + ((0 : Nat) : Int) * 1) ((((hi - lo).toNat : Nat) : Int) - ((0 : Nat) : Int)) 1
    rw [e1, e2]
    exact Heap.get?_push_size _ rfl
  · have e : b = s.heap.objs.size := by simpa using hb
    subst e
    exact I.fpOk (Nat.le_refl _) (I.hok.fresh (Nat.le_refl _))
theorem pi_seq {e : Expr} {e' : E} (h : PE X e (TV X.K (ev c kw e'))) : PI X tg e (TSrc X.K (evIt c kw (.seq e'))) := by
  refine ⟨fun pins sh σ H R I hw => ?_⟩
  obtain ⟨ι, ρ, μ, src, μ', he, hs, hf, hR⟩ := hw
  simp only [evIt] at hf
  obtain ⟨d, μ1, h1, h2⟩ := Res.bind_ok hf
  obtain ⟨h3, rfl⟩ := ofO_ok h2
  cases d with
  | tup l =>
    cases h3
    refine (pi_tup (tg := tg) h).run pins sh σ H R I ⟨ι, ρ, μ, _, _, he, hs, h1, fun ι' H' v g s' r => ?_⟩
    cases r with
    | tup q1 q2 => exact ⟨_, rfl, ⟨_, q1⟩, hR ι' H' _ g s' (src_tup q1 q2)⟩
  | rol l =>
    cases h3
    refine (pi_list (tg := tg) h).run pins sh σ H R I ⟨ι, ρ, μ, _, _, he, hs, h1, fun ι' H' v g s' r => ?_⟩
    cases r with
    | rol q1 q2 => exact ⟨_, rfl, ⟨_, q1.sq⟩, hR ι' H' _ g s' (src_rol q1 q2)⟩
  | frl l =>
    cases h3
    refine (pi_list (tg := tg) h).run pins sh σ H R I ⟨ι, ρ, μ, _, _, he, hs, h1, fun ι' H' v g s' r => ?_⟩
    cases r with
    | frl q1 q2 => exact ⟨_, rfl, ⟨_, q1.sq⟩, hR ι' H' _ g s' (src_frl q1 q2)⟩
  | str s =>
    cases h3
    refine (pi_str (tg := tg) h).run pins sh σ H R I ⟨ι, ρ, μ, _, _, he, hs, h1, fun ι' H' v g s' r => ?_⟩
    cases r
    exact ⟨_, rfl, hR ι' H' _ g s' src_str⟩
  | loc n =>
    simp only [srcOf] at h3
    split at h3
    · rename_i l hl
      cases h3
      refine (pi_list (tg := tg) h).run pins sh σ H R I ⟨ι, ρ, μ, _, _, he, hs, h1, fun ι' H' v g s' r => ?_⟩
      cases r with
      | loc q =>
        obtain ⟨xs, e1, _⟩ := s'.lst hl q
        exact ⟨_, rfl, ⟨_, SqL.of e1⟩, hR ι' H' _ g s' (src_live q)⟩
    · cases h3
  | rng lo hi =>
    obtain ⟨⟨q1, q2, q3, q4⟩, rfl⟩ := rng_ok h3
    have P := h.run pins sh σ H (fun v H' => ∃ r, v = .ref r ∧ H' r = some (HO.rng lo hi) ∧ R (Itr lo (hi - lo).toNat) H') I ⟨ι, ρ, μ, _, _, he, hs, h1, fun ι' H' v g s' r => by
      cases r with
      | rng q => exact ⟨_, rfl, q, hR ι' H' _ g s' src_rng⟩⟩
    refine thn P fun v s1 ⟨x, H1, I1, r1, q⟩ => ?_
    obtain ⟨r, rfl, hr, q⟩ := q
    cases r1
    exact range_itv I1 hr q1 q2 q3 q4 q
  | _ => cases h3
theorem pi_rng1 {e : Expr} {e' : E} {p pos : Pos} (hX : XOk G N c kw k X) (hg : Gl X "range") (hst : isStar e = false) (h : PE X e (TV X.K (ev c kw e'))) : PI X tg (.Call (.Name "range" p) [e] [] pos) (TSrc X.K (evIt c kw (.rng1 e'))) := by
  refine ⟨fun pins s σ H R I hw => ?_⟩
  obtain ⟨ι, ρ, μ, src, μ', he, hs, hf, hR⟩ := hw
  simp only [evIt] at hf
  obtain ⟨d, μ1, h1, h2⟩ := Res.bind_ok hf
  cases d with
  | int j =>
    obtain ⟨h3, rfl⟩ := ofO_ok h2
    obtain ⟨⟨q1, q2, q3, q4⟩, rfl⟩ := rng_ok h3
    refine (pi_range1 (tg := tg) hg (hX.blt _ (by decide +kernel)) (pa_cons h pa_nil (star1 hst)) (star1 hst)).run pins s σ H R I ⟨ι, ρ, μ, _, _, he, hs, h1, fun ι' H' v g s' r => ?_⟩
    cases r
    refine ⟨j, rfl, q3, q4, ?_⟩
    rw [Int.sub_zero] at hR
    exact hR ι' H' _ g s' src_rng
  | _ => cases h2
theorem pi_rng2 {e d : Expr} {e' d' : E} {p pos : Pos} (hX : XOk G N c kw k X) (hg : Gl X "range") (hst : isStar e = false) (hst2 : isStar d = false) (h : PE X e (TV X.K (ev c kw e'))) (h' : PE X d (TV X.K (ev c kw d'))) :
    PI X tg (.Call (.Name "range" p) [e, d] [] pos) (TSrc X.K (evIt c kw (.rng2 e' d'))) := by
  refine ⟨fun pins s σ H R I hw => ?_⟩
  obtain ⟨ι, ρ, μ, src, μ', he, hs, hf, hR⟩ := hw
  simp only [evIt] at hf
  obtain ⟨x, μ1, h1, hf⟩ := Res.bind_ok hf
  obtain ⟨y, μ2, h2, hf⟩ := Res.bind_ok hf
  cases x with
  | int i =>
   cases y with
   | int j =>
    obtain ⟨h3, rfl⟩ := ofO_ok hf
    obtain ⟨q, rfl⟩ := rng_ok h3
    have s2 : starEach [d] X.env = [(false, eval d X.env)] := star1 hst2
    refine (pi_range2 (tg := tg) hg (hX.blt _ (by decide +kernel)) (pa_cons h (pa_cons h' pa_nil s2) (star1 hst)) ((star1 hst).trans (by rw [s2])) s2).run pins s σ H R I ⟨ι, ρ, μ, _, _, he, hs, h1, fun ι1 H1 v g s1 r => ⟨ι1, ρ, μ1, _, _, he.grow g, s1, h2, fun ι2 H2 v2 g2 s2 r2 => ?_⟩⟩
    cases r
    cases r2
    exact ⟨i, j, rfl, q, hR ι2 H2 _ (g.trans g2) s2 src_rng⟩
   | _ => cases hf
  | _ => cases hf

/-! ### targets -/
def gNames : List Nat → TGs
  | [] => gNil
  | i :: is => gCons (gName i) (gNames is)
def gOf (K : PySem.W.Frag) : Tg → TG
  | .nm i => gName i
  | .tp is => fun v σ H Q => gTup K is.length (gNames is) v σ H Q ∨ gUnl K is.length (gNames is) v σ H Q
end
section
variable {K : PySem.W.Frag} {ι : Ix} {H : Hp} {ρ ρ1 : Loc} {σ : L2.St}
theorem EnvOk.set {i : Nat} {d : D} {v : V} (e : EnvOk K H ι ρ σ) (r : Rel K H ι d v) : EnvOk K H ι (ρ.set i (some d)) (σ.set i (some v)) := by
  refine ⟨by rw [List.length_set, List.length_set]; exact e.len, fun j d' h => ?_⟩
  by_cases hij : i = j
  · subst hij
    have hlt : i < ρ.length := by
      have := (List.getElem?_eq_some_iff.mp h).1
      rw [List.length_set] at this
      exact this
    rw [List.getElem?_set_self hlt] at h
    cases h
    exact ⟨v, List.getElem?_set_self (by rw [← e.len]; exact hlt), r⟩
  · rw [List.getElem?_set_ne hij] at h
    obtain ⟨w, h1, h2⟩ := e.get j d' h
    exact ⟨w, by rw [List.getElem?_set_ne hij]; exact h1, h2⟩
theorem EnvOk.forget {i : Nat} (e : EnvOk K H ι ρ σ) : EnvOk K H ι (ρ.set i none) (σ.set i none) := by
  refine ⟨by rw [List.length_set, List.length_set]; exact e.len, fun j d' h => ?_⟩
  by_cases hij : i = j
  · subst hij
    have hlt : i < ρ.length := by
      have := (List.getElem?_eq_some_iff.mp h).1
      rw [List.length_set] at this
      exact this
    rw [List.getElem?_set_self hlt] at h
    cases h
  · rw [List.getElem?_set_ne hij] at h
    obtain ⟨w, h1, h2⟩ := e.get j d' h
    exact ⟨w, by rw [List.getElem?_set_ne hij]; exact h1, h2⟩
theorem EnvOk.wipe (e : EnvOk K H ι ρ σ) : ∀ vs : List Nat, EnvOk K H ι (Ev.wipe ρ vs) (L2.wipe σ vs)
  | [] => e
  | v :: vs => (EnvOk.wipe e vs).forget
theorem wipe_set {i : Nat} {x : Option V} : ∀ {vs : List Nat}, i ∈ vs → L2.wipe (σ.set i x) vs = L2.wipe σ vs
  | [], h => by cases h
  | v :: vs, h => by
    unfold L2.wipe
    by_cases hi : i ∈ vs
    · rw [wipe_set hi]
    · have hv : i = v := by
        rcases List.mem_cons.mp h with h | h
        · exact h
        · exact absurd h hi
      subst hv
      have : ∀ (us : List Nat), i ∉ us → L2.wipe (σ.set i x) us = (L2.wipe σ us).set i x := by
        intro us
        induction us with
        | nil => intro _; rfl
        | cons u us ih =>
          intro hu
          rw [List.mem_cons, not_or] at hu
          unfold L2.wipe
          rw [ih hu.2, List.set_comm _ _ (fun e => hu.1 e.symm.symm)]
      rw [this vs hi, List.set_set]
theorem wipe_idem : ∀ (vs : List Nat) (τ : L2.St), (∀ v ∈ vs, ∀ x, τ[v]? = some x → x = none) → L2.wipe τ vs = τ
  | [], _, _ => rfl
  | v :: vs, τ, h => by
    unfold L2.wipe
    rw [wipe_idem vs τ fun w hw => h w (List.mem_cons_of_mem _ hw)]
    apply List.ext_getElem?
    intro j
    by_cases hj : v = j
    · subst hj
      by_cases hl : v < τ.length
      · rw [List.getElem?_set_self hl, List.getElem?_eq_getElem hl]
        exact congrArg some (h v List.mem_cons_self _ (List.getElem?_eq_getElem hl)).symm
      · rw [List.getElem?_eq_none (by rw [List.length_set]; omega), List.getElem?_eq_none (by omega)]
    · rw [List.getElem?_set_ne hj]
theorem wipe_wipe (vs : List Nat) (τ : L2.St) : L2.wipe (L2.wipe τ vs) vs = L2.wipe τ vs := by
  refine wipe_idem vs _ fun v hv x hx => ?_
  cases x with
  | none => rfl
  | some y => exact absurd hv (wipe_some hx).2
theorem gNames_run {Q : L2.St → Hp → Prop} : ∀ {is : List Nat} {ds : List D} {xs : List V} {ρ ρ1 : Loc} {σ : L2.St}, bindL ρ is ds = some ρ1 → EnvOk K H ι ρ σ → RelL K H ι ds xs →
    (∀ σ1, EnvOk K H ι ρ1 σ1 → (∀ vs : List Nat, (∀ i ∈ is, i ∈ vs) → L2.wipe σ1 vs = L2.wipe σ vs) → Q σ1 H) → is.length = xs.length ∧ gNames is xs σ H Q := by
  intro is
  induction is with
  | nil =>
    intro ds xs ρ ρ1 σ h e r hQ
    cases ds with
    | nil => cases h; cases r; exact ⟨rfl, rfl, hQ σ e fun _ _ => rfl⟩
    | cons d ds => cases h
  | cons i is ih =>
    intro ds xs ρ ρ1 σ h e r hQ
    cases ds with
    | nil => cases h
    | cons d ds =>
      cases r with
      | cons r1 r2 =>
        obtain ⟨h1, h2⟩ := ih (show bindL (ρ.set i (some d)) is ds = some ρ1 from h) (e.set r1) r2 (fun σ1 e1 hw => hQ σ1 e1 fun vs hvs => by
          rw [hw vs fun j hj => hvs j (List.mem_cons_of_mem _ hj), wipe_set (hvs i List.mem_cons_self)])
        exact ⟨by simp [h1], _, _, rfl, h2⟩
theorem gOf_run {t : Tg} {d : D} {μ : Sto} {x : V} {Q : L2.St → Hp → Prop} (hb : bindT t d μ ρ = some ρ1) (e : EnvOk K H ι ρ σ) (r : Rel K H ι d x)
    (hQ : ∀ σ1, EnvOk K H ι ρ1 σ1 → (∀ vs : List Nat, (∀ i ∈ t.ixs, i ∈ vs) → L2.wipe σ1 vs = L2.wipe σ vs) → Q σ1 H) : gOf K t x σ H Q := by
  cases t with
  | nm i =>
    cases hb
    exact hQ _ (e.set r) fun vs hvs => wipe_set (hvs i List.mem_cons_self)
  | tp is =>
    cases d with
    | tup l =>
      cases r with
      | tup h1 h2 =>
        obtain ⟨q1, q2⟩ := gNames_run (show bindL ρ is l = some ρ1 from hb) e h2 hQ
        exact .inl ⟨_, _, rfl, h1, q1.symm, q2⟩
    | rol l =>
      cases r with
      | rol h1 h2 =>
        obtain ⟨q1, q2⟩ := gNames_run (show bindL ρ is l = some ρ1 from hb) e h2 hQ
        exact .inr ⟨_, _, rfl, h1.sq, q1.symm, q2⟩
    | _ => cases hb
end
/-- a target's places -/
theorem pg_ev {X : Cx} {N : List Str} {sc : Scope} (hc : X.calm = true) (hn : X.N = N) (hd : N.Nodup) (hloc : ∀ x i, nameIx N sc (.Name x default) = some i → L2.Loc X.env.scope x ∧ (X.fn x = true ∨ X.env.scope.names.lookup x = some .local)) :
    ∀ {tg : Expr} {t : Tg}, cT N sc tg = some t → PG X tg (gOf X.K t) := by
  have name : ∀ {e : Expr} {i : Nat}, nameIx N sc e = some i → PG X e (gName i) := by
    intro e i h
    cases e with
    | Name x p =>
      have h' : nameIx N sc (.Name x default) = some i := h
      obtain ⟨h1, h2⟩ := hloc x i h'
      have h3 : N[i]? = some x := by
        simp only [nameIx] at h
        split at h
        · exact idxOf_get h
        · exact idxOf_get h
        · cases h
      exact pg_name (by rw [hn]; exact hd) (by rw [hn]; exact h3) h1 h2
    | _ => cases h
  have names : ∀ {es : List Expr} {is : List Nat}, omap (nameIx N sc) es = some is → PGs X es (gNames is) ∧ (assignEach es X.env).length = is.length ∧ (assignEach es X.env).findIdx? (·.1) = none := by
    intro es
    induction es with
    | nil => intro is h; cases h; exact ⟨pgs_nil, rfl, rfl⟩
    | cons e es ih =>
      intro is h
      obtain ⟨i, is', h1, h2, rfl⟩ := omap_cons h
      obtain ⟨q1, q2, q3⟩ := ih h2
      cases e with
      | Name x p =>
        refine ⟨pgs_cons (name h1) q1 (by rfl), ?_, ?_⟩
        · show (assignEach es X.env).length + 1 = _
          rw [q2]; rfl
        · show ((false, _) :: assignEach es X.env).findIdx? (·.1) = none
          rw [List.findIdx?_cons, q3]; rfl
      | _ => cases h1
  intro tg t h
  cases tg with
  | Tuple es k p =>
    obtain ⟨is, h1, rfl⟩ := map_some' (show (omap (nameIx N sc) es).map Tg.tp = some t from h)
    obtain ⟨q1, q2, q3⟩ := names h1
    refine ⟨fun pins s σ H v u Q I r hw => ?_⟩
    rcases hw with hw | hw
    · exact (pg_tup hc q1 q2 q3).run pins s σ H v u Q I r hw
    · exact (pg_unl hc q1 q2 q3).run pins s σ H v u Q I r hw
  | Name x p =>
    obtain ⟨i, h1, rfl⟩ := map_some' (show (nameIx N sc (.Name x p)).map Tg.nm = some t from h)
    exact name h1
  | _ => simp [cT, nameIx] at h
end Ev

namespace Ev
open PySem PySem.Spec L2 PyProof.Rows PySem.Calls

/-! ### enumerate of a tuple -/
def enumObj (it : Addr) : Obj := { cls := .type "enumerate", data := .fields #[.none, .bool false, .ref it, rawInt 0, .none, .none] }
def tupIter (t : Addr) : Obj := { cls := .type "tuple_iterator", data := .fields #[.ref t, .int 0 0] }
set_option maxHeartbeats 4000000 in
theorem meets_enumT (t : Addr) (its : Array Value) :
    Meets (Builtin.«enumerate.__new__» ⟨[.type "enumerate", .ref t], []⟩) (fun _ R s => s.heap.IsTuple t its ∧
      R (.ok (.ret (.ref (s.heap.push (tupIter t)).objs.size))) { s with heap := (s.heap.push (tupIter t)).push (enumObj s.heap.objs.size) }) :=
  .of_wp fun prog w A R s ⟨hT, h⟩ => by
    obtain ⟨hp, g, d, tk, os⟩ := s
    have hsub := sub_enumerate
    wp_walk
    refine wpAny_stack_any fun st => wpAny_pure ?_
    split
    · rename_i c _ _ _ _ _
      cases (c == Value.type "enumerate") <;> (wp_walk using wpAny_pyIter_tuple hT; exact ⟨_, rfl, h⟩)
    · wp_walk using wpAny_pyIter_tuple hT
      exact ⟨_, rfl, h⟩
theorem call_enumT {P : Program} {w : World} {A : Around} {E : Value → Shared → Prop} {s : Shared} {t : Addr} {its : Array Value} {Q : Value → Shared → Prop} (hT : s.heap.IsTuple t its)
    (h : ∀ h', IsEnum h' (s.heap.objs.size + 1) s.heap.objs.size 0 .none → h'.IsTupleIter s.heap.objs.size t 0 → (∀ b o, s.heap.get? b = some o → h'.get? b = some o) → Q (.ref (s.heap.objs.size + 1)) { s with heap := h' }) :
    wpAny (model P w) A (call (.type "enumerate") [.ref t]) Q E s := by
  refine callType_new F.called_enumerate (by decide) (F.typeCall_enumerate_1 _) (F.newCall_enumerate_1 _) (fun obj => F.args_object_init_2 obj _) F.entry_enumerate_new (meets_enumT t its) ⟨hT, ?_⟩
  have hz : (s.heap.push (tupIter t)).objs.size = s.heap.objs.size + 1 := Heap.size_push ..
  show _ ∧ _
  rw [hz]
  have he : IsEnum ((s.heap.push (tupIter t)).push (enumObj s.heap.objs.size)) (s.heap.objs.size + 1) s.heap.objs.size 0 .none := by
    have q := Heap.get?_push_size (s.heap.push (tupIter t)) (o := enumObj s.heap.objs.size) rfl
    rw [hz] at q; exact q
  exact ⟨⟨_, he, rfl⟩, h _ he ⟨_, Heap.get?_push_of_some _ (Heap.get?_push_size _ rfl), rfl, rfl⟩ fun b o q => Heap.get?_push_of_some _ (Heap.get?_push_of_some _ q)⟩
theorem enumT_end {P : Program} {w : World} {A : Around} {E : Value → Shared → Prop} {s : Shared} {e it t : Addr} {i : Int} {j : Nat} {old : Value} {its : Array Value} {Q : Option Value → Shared → Prop} (hh : A.handled = none) (he : IsEnum s.heap e it i old) (hit : s.heap.IsTupleIter it t j)
    (ht : s.heap.IsTuple t its) (hx : its[j]? = none) (hQ : ∀ h', Heap.ExtBut it s.heap h' → Q none { s with heap := h' }) : wpAny (model P w) A (pyNext (.ref e)) Q E s := by
  have D : Draws P w A.in1 it [it, t] j (fun _ _ => False) (fun k h => k = j ∧ h.IsTupleIter it t k ∧ h.IsTuple t its) :=
    { live := fun _ _ st => let ⟨o, ho, _⟩ := st.2.1; ⟨o, ho⟩
      frame := fun _ _ _ st hk => ⟨st.1, st.2.1.at fun o q => hk it (by simp) o q, st.2.2.at fun o q => hk t (by simp) o q⟩
      item := fun k s Q E hk st hQ => absurd st.1 (Nat.ne_of_lt hk)
      done := fun s Q E st hE => wpAny_nextOf_tuple_end hh st.2.1 st.2.2 hx hE }
  exact wpAny_pyNext_enum_endD D he ⟨rfl, hit, ht⟩ hQ
/-- the tuple at a, each item in a new pair -/
def IteT (K : PySem.W.Frag) (a : Addr) : L2.It :=
  ⟨fun i H => ∃ (xs : List V) (x : V), SqT K H a xs ∧ xs[i]? = some x, fun i H v H' => ∃ T x, v = .ref T ∧ H T = none ∧ H' = upd H T (.tup [.int (i : Nat), x]) ∧ ∀ xs, SqT K H a xs → xs[i]? = some x, fun i H => ∃ xs : List V, SqT K H a xs ∧ xs.length ≤ i⟩
theorem turn_enumT {P : Program} {w : World} {K : PySem.W.Frag} {elts : List Expr} {kk : Nat} {tpos : Pos} (a e it : Addr) :
    Turn P w K (.Tuple elts kk tpos) (IteT K a) [e, it] e (fun i h => (∃ old, IsEnum h e it ((i : Nat) : Int) old) ∧ h.IsTupleIter it a i ∧ e ≠ it) where
  mem := by simp
  obj := fun i h st b hb => by
    obtain ⟨⟨old, he⟩, ⟨o, ho, hc, hd⟩, _⟩ := st
    rcases (show b = e ∨ b = it by simpa using hb) with z | z
    · rw [z]; exact ⟨_, he, fun v q => nomatch q⟩
    · rw [z]; exact ⟨o, ho, fun v q => by rw [hd] at q; cases q⟩
  keep := fun i h h' st k => let ⟨⟨old, he⟩, hi, hne⟩ := st; ⟨⟨old, k e (by simp) _ he⟩, hi.at fun o q => k it (by simp) o q, hne⟩
  item := by
    intro X hP hw hK hc i pins s σ H E I hf st hg
    subst hP hw hK
    obtain ⟨⟨old, he⟩, hit, hne⟩ := st
    obtain ⟨xs, x, hq, hx⟩ := hg
    obtain ⟨its, rv, p, hz⟩ := I.tuple hq
    obtain ⟨u, hu, ru⟩ := rv.get hx
    have hel : e < s.heap.objs.size := Heap.lt_size he
    have hil : it < s.heap.objs.size := by obtain ⟨_, q, _⟩ := hit; exact Heap.lt_size q
    have hie := (List.getElem?_eq_some_iff.mp hu).1
    have hfi := hf it (by simp)
    have hnt : a ≠ it := fun z => by
      obtain ⟨o, q1, q2, q3⟩ := p
      obtain ⟨o2, q4, q5, q6⟩ := hit
      rw [← z, q1] at q4
      cases q4
      rw [q2] at q5
      exact absurd q5 (by decide)
    have hea : e ≠ a := fun z => by
      obtain ⟨o, q1, q2, q3⟩ := p
      have q4 : s.heap.get? e = some _ := he
      rw [z, q1] at q4
      cases q4
      have q5 : Value.type "enumerate" = Value.type "tuple" := q2
      exact absurd q5 (by decide)
    have hD : e ∉ [it, a] := fun z => by
      rcases (show e = it ∨ e = a by simpa using z) with z | z
      · exact hne z
      · exact hea z
    refine wpAny_pyNext_enum_itemD (Draws.tuple (A := X.A.in1) (I.ok.hd hc) it a hnt its.toArray) he ⟨hit, p⟩ (by simpa using hie) hne hD fun u2 h' tk hu2 ho st2 hT hsz hk => ?_
    have eu : u2 = u := by
      have q1 : its[i]? = some u2 := by simpa using hu2
      rw [hu] at q1
      exact (Option.some.inj q1).symm
    subst eu
    have hit' : h'.IsTupleIter it a (i + 1) := st2.1
    refine ⟨_, rfl, wpAny_letOwnedTupleGo_enum (s := { s with heap := h', toks := tk + 1 }) ho fun h'' he' sb => ?_⟩
    have q2 : h''.get? s.heap.objs.size = some { cls := .type "tuple", data := .seq #[.int i tk, u2] } := (sb.2 _ (Nat.ne_of_gt hel)).trans hT
    have new : ObjOk X.prog X.w (upd H s.heap.objs.size (.tup [.int (i : Nat), x])) h'' s.heap.objs.size (.tup [.int (i : Nat), x]) :=
      ⟨by show 2 ≤ sizeLine; decide, [.int i tk, u2], .cons ⟨_, rfl⟩ (.cons ru .nil), ⟨_, q2, rfl, _, rfl⟩⟩
    have I1 : L2.Inv X pins σ (upd H s.heap.objs.size (.tup [.int (i : Nat), x])) { s with heap := h'', toks := tk + 1 } :=
      I.turnedNew (ch := [e, it]) (fun b ob hb q => (sb.2 b (fun z => hb (by simp [z]))).trans (hk b ob (fun z => hb (by simp [z])) (fun z => hb (by simp [z])) q)) hf (Nat.le_refl _) new
    refine ⟨.ref s.heap.objs.size, _, I1, rfl, ⟨_, x, rfl, I.hok.fresh (Nat.le_refl _), rfl, fun ys hy => by rw [I.tuple_inj hy hq]; exact hx⟩, ⟨⟨u2, ?_⟩, hit'.at fun o q => (sb.2 it (Ne.symm hne)).trans q, hne⟩, fun b hb => ?_⟩
    · rw [show ((i + 1 : Nat) : Int) = (i : Int) + 1 by omega]
      exact he'
    · have hb' : b < s.heap.objs.size := by
        rcases (show b = e ∨ b = it by simpa using hb) with z | z
        · rw [z]; exact hel
        · rw [z]; exact hil
      rw [upd_ne (Nat.ne_of_lt hb')]
      exact (hf b hb).1
  done := by
    intro X hP hw hK hc i pins s σ H E I hf st hg
    subst hP hw hK
    obtain ⟨⟨old, he⟩, hit, hne⟩ := st
    obtain ⟨xs, hq, hx⟩ := hg
    obtain ⟨its, rv, p, hz⟩ := I.tuple hq
    obtain ⟨f0, f1, f2, f3, f4, f5⟩ := hf it (by simp)
    have hl := rv.length
    have hnt : a ≠ it := fun z => by
      obtain ⟨o, q1, q2, q3⟩ := p
      obtain ⟨o2, q4, q5, q6⟩ := hit
      rw [← z, q1] at q4
      cases q4
      rw [q2] at q5
      exact absurd q5 (by decide)
    exact enumT_end (I.ok.hd hc) he hit p (by rw [List.getElem?_toArray]; exact List.getElem?_eq_none (by omega)) fun h' eb => ⟨rfl, I.turned (t' := s.toks) (fun b o hb q => eb b o hb q) f0 f1 f3 f4 f5⟩
  self := fun A i s Q E st h => let ⟨⟨_, he⟩, _⟩ := st; wpAny_pyIter_enum he h
section
variable {K : PySem.W.Frag} {ι : Ix} {H : Hp} {l : List D} {xs : List V} {a : Addr}
theorem enumI_get {i : Nat} {d : D} (h : (enumI l)[i]? = some d) : ∃ x, l[i]? = some x ∧ d = .tup [.int (i : Nat), x] := by
  unfold enumI at h
  rw [List.getElem?_mapIdx] at h
  obtain ⟨x, h1, rfl⟩ := Option.map_eq_some_iff.mp h
  exact ⟨x, h1, rfl⟩
theorem enumI_end {i : Nat} (h : (enumI l)[i]? = none) : l.length ≤ i := by
  have := List.getElem?_eq_none_iff.mp h
  unfold enumI at this
  rwa [List.length_mapIdx] at this
theorem pair_new {ι' : Ix} {H' : Hp} {μ : Sto} {i : Nat} {x : D} {v : V} {T : Addr} (S : StOk K H' ι' μ) (hT : H' T = none) (r : Rel K H' ι' x v) :
    Grow K ι' H' ι' (upd H' T (.tup [.int (i : Nat), v])) ∧ StOk K (upd H' T (.tup [.int (i : Nat), v])) ι' μ ∧ Rel K (upd H' T (.tup [.int (i : Nat), v])) ι' (.tup [.int (i : Nat), x]) (.ref T) :=
  ⟨Grow.fresh hT, S.fresh hT, .tup (.inl (.inl upd_same)) (.cons (.int _) (.cons (r.grow (Grow.fresh hT)) .nil))⟩
theorem src_enumT (h : SqT K H a xs) (r : RelL K H ι l xs) : SrcOk K ι H (.its (enumI l)) (IteT K a) := by
  refine ⟨fun ι' H' μ i d g s e => ?_, fun ι' H' μ i g s e => ?_⟩
  · obtain ⟨x, e1, rfl⟩ := enumI_get (show (enumI l)[i]? = some d from by simpa [Src.at] using e)
    obtain ⟨v, h1, h2⟩ := r.get e1
    refine ⟨⟨xs, v, g.tup _ _ h, h1⟩, fun y H2 q => ?_⟩
    obtain ⟨T, v2, rfl, hT, rfl, q⟩ := q
    have := q xs (g.tup _ _ h)
    rw [h1] at this; cases this
    exact pair_new s hT (h2.ext g)
  · have e' := enumI_end (show (enumI l)[i]? = none from by simpa [Src.at] using e)
    exact ⟨xs, g.tup _ _ h, by rw [← r.length]; exact e'⟩
theorem src_enumR (h : SqR H ι a xs) (r : RelL K H ι l xs) : SrcOk K ι H (.its (enumI l)) (Ite K a) := by
  refine ⟨fun ι' H' μ i d g s e => ?_, fun ι' H' μ i g s e => ?_⟩
  · obtain ⟨x, e1, rfl⟩ := enumI_get (show (enumI l)[i]? = some d from by simpa [Src.at] using e)
    obtain ⟨v, h1, h2⟩ := r.get e1
    refine ⟨⟨xs, v, (g.rol _ _ h).sq, h1⟩, fun y H2 q => ?_⟩
    obtain ⟨T, v2, rfl, hT, rfl, q⟩ := q
    have := q xs (g.rol _ _ h).sq
    rw [h1] at this; cases this
    exact pair_new s hT (h2.ext g)
  · have e' := enumI_end (show (enumI l)[i]? = none from by simpa [Src.at] using e)
    exact ⟨xs, (g.rol _ _ h).sq, by rw [← r.length]; exact e'⟩
end
/-- enumerate of a list or a tuple -/
def iEnumU (K : PySem.W.Frag) (ta : TA) : TI := fun σ H R => ta σ H fun vs H1 => ∃ a xs, vs = [.ref a] ∧ ((SqL K H1 a xs ∧ R (Ite K a) H1) ∨ (SqT K H1 a xs ∧ R (IteT K a) H1))
theorem pi_enumU {X : Cx} {e : Expr} {ta : TA} {p pos tpos : Pos} {elts : List Expr} {kk : Nat} (hg : Gl X "enumerate") (hm : X.mg "enumerate" = none) (ha : PA X [e] ta) (hs : starEach [e] X.env = [(false, eval e X.env)] := by rfl) :
    PI X (.Tuple elts kk tpos) (.Call (.Name "enumerate" p) [e] [] pos) (iEnumU X.K ta) := by
  refine ⟨fun pins s σ H R I h => ?_⟩
  refine Call_ (ld_blt I hg hm boot_enumerate (PyProof.Rows.callWith_type1 (thn (ha.run pos pins s σ H _ I h) fun us s1 q0 => ?_) hs rfl))
  obtain ⟨vs, H1, I1, r1, a, xs, rfl, q⟩ := q0
  obtain rfl := Vals.ref1 r1
  have fp : ∀ b ∈ [s1.heap.objs.size + 1, s1.heap.objs.size], FpOk X pins H1 b := fun b hb => by
    have hle : s1.heap.objs.size ≤ b := by
      rcases (show b = s1.heap.objs.size + 1 ∨ b = s1.heap.objs.size by simpa using hb) with z | z
      · rw [z]; exact Nat.le_add_right _ _
      · rw [z]; exact Nat.le_refl _
    exact I1.fpOk hle (I1.hok.fresh hle)
  rcases q with ⟨hq, q⟩ | ⟨hq, q⟩
  · obtain ⟨its, rv, p', hz⟩ := I1.list hq
    refine call_enumerate_list p'.isList fun h' he hit hsz hk => wpAny_pyIter_enum he ?_
    exact ⟨s1.heap.objs.size + 1, [s1.heap.objs.size + 1, s1.heap.objs.size], _, _, H1, rfl, I1.kept (t' := s1.toks) hk, turn_enum a (s1.heap.objs.size + 1) s1.heap.objs.size, ⟨⟨.none, he⟩, hit, Nat.succ_ne_self _⟩, fp, q⟩
  · obtain ⟨its, rv, p', hz⟩ := I1.tuple hq
    refine call_enumT p' fun h' he hit hk => wpAny_pyIter_enum he ?_
    exact ⟨s1.heap.objs.size + 1, [s1.heap.objs.size + 1, s1.heap.objs.size], _, _, H1, rfl, I1.kept (t' := s1.toks) hk, turn_enumT a (s1.heap.objs.size + 1) s1.heap.objs.size, ⟨⟨.none, he⟩, hit, Nat.succ_ne_self _⟩, fp, q⟩
end Ev

namespace Ev
open PySem PySem.Spec L2

/-! ### comprehensions -/
def lcF (sf : Loc → Sto → Res Src) (t : Tg) (vs : List Nat) (test elt : Loc → Sto → Res D) : Loc → Sto → Res D :=
  fun ρ μ => (sf ρ μ).bind fun src μ => lcN src t vs ρ test elt src.fuel 0 [] μ
theorem lc_read {K : PySem.W.Frag} {sf : Loc → Sto → Res Src} {t : Tg} {vs : List Nat} {test elt : Loc → Sto → Res D} (hin : ∀ i ∈ t.ixs, i ∈ vs) {σ : L2.St} {H : Hp} {Q : VK} (h : TV K (lcF sf t vs test elt) σ H Q) :
    tLc (TSrc K sf) (gOf K t) (TB K test) (TV K elt) vs σ H Q := by
  obtain ⟨ι, ρ, μ, d, μ', he, hs, hf, ha⟩ := h
  unfold lcF at hf
  obtain ⟨src, μ1, h1, hf⟩ := Res.bind_ok hf
  refine ⟨ι, ρ, μ, src, μ1, he, hs, h1, fun ι1 H1 J g1 s1 so Dd hD => ?_⟩
  -- the new list is not to be read before it is whole
  have hhide : StOk K (upd H1 Dd (.lst [])) (ι1.hide Dd) μ1 := s1.hide hD trivial
  have x0 : Ext K ι1 H1 (ι1.hide Dd) (upd H1 Dd (.lst [])) := Ext.hide hD
  refine ⟨fun i m H' => ∃ ι' μ2 acc xs, Ext K ι1 H1 ι' H' ∧ ι'.hid = Dd :: ι1.hid ∧ (∀ a ∈ ι1.hid, ∀ o, H1 a = some o → H' a = some o) ∧ StOk K H' ι' μ2 ∧ H' Dd = some (.lst xs) ∧ RelL K H' ι' acc xs ∧ lcN src t vs ρ test elt m i acc μ2 = .ok d μ',
    ⟨src.fuel, ι1.hide Dd, μ1, [], [], x0, rfl, fun a _ o h => by rw [upd_ne (ne_of_none h hD)]; exact h, hhide, upd_same, .nil, hf⟩, ?_⟩
  rintro i m H2 ⟨ι2, μ2, acc, xs, g2, hid2, hk2, s2, hx2, rx, hf2⟩
  have hDh : Dd ∈ ι2.hid := by rw [hid2]; exact List.mem_cons_self
  cases m with
  | zero => cases hf2
  | succ m =>
    simp only [lcN] at hf2
    split at hf2
    · cases hf2
    · rename_i hat
      cases hf2
      have hs : ι2.show.hid = ι1.hid := by show ι2.hid.tail = _; rw [hid2]; rfl
      have gs : Grow K ι1 H1 ι2.show H2 := ⟨g2.trans Ext.show, hs, hk2⟩
      exact .inl ⟨so.stops ι2 H2 _ i g2 s2 hat, ha ι2.show H2 _ (g1.trans gs) s2.show (.rol ⟨fun z => s2.dj _ z hDh, fun z => s1.not_hid hD (by rw [hs] at z; exact z), hx2⟩ (rx.ext Ext.show))⟩
    · rename_i x hat
      obtain ⟨go, yl⟩ := so.goes ι2 H2 μ2 i x g2 s2 hat
      refine .inr ⟨go, fun H' => ∃ ι' μ3 acc xs, Ext K ι1 H1 ι' H' ∧ ι'.hid = Dd :: ι1.hid ∧ (∀ a ∈ ι1.hid, ∀ o, H1 a = some o → H' a = some o) ∧ StOk K H' ι' μ3 ∧ H' Dd = some (.lst xs) ∧ RelL K H' ι' acc xs ∧ lcN src t vs ρ test elt m (i + 1) acc μ3 = .ok d μ', fun H' nx => ⟨m, Nat.lt_succ_self m, nx⟩, fun y H3 hy => ?_⟩
      obtain ⟨g3, s3, r3⟩ := yl y H3 hy
      split at hf2
      · cases hf2
      · rename_i ρ1 hb
        have e3 : EnvOk K H3 ι2 (wipe ρ vs) (L2.wipe σ vs) := (he.ext ((g1.ext.trans g2).trans g3.ext)).wipe vs
        refine gOf_run hb e3 r3 fun σ1 e1 hw => ⟨by rw [hw vs hin, wipe_wipe], ?_⟩
        have old : ∀ {ι' : Ix} {H' : Hp}, Grow K ι2 H2 ι' H' → ∀ a ∈ ι1.hid, ∀ o, H1 a = some o → H' a = some o := fun g a hm o h => g.hk a (by rw [hid2]; exact List.mem_cons_of_mem _ hm) o (hk2 a hm o h)
        obtain ⟨bv, μ3, h3, hf2⟩ := Res.bind_ok hf2
        cases bv with
        | bl b =>
          refine ⟨ι2, ρ1, μ2, b, μ3, e1, s3, h3, fun ι4 H4 g4 s4 => ?_⟩
          have g24 := g3.trans g4
          cases b with
          | false => exact ⟨ι4, μ3, acc, xs, g2.trans g24.ext, g24.hid.trans hid2, old g24, s4, g24.hk _ hDh _ hx2, rx.grow g24, hf2⟩
          | true =>
            obtain ⟨yv, μ5, h5, hf2⟩ := Res.bind_ok hf2
            refine Eq.mpr (if_pos rfl) ?_
            refine ⟨ι4, ρ1, μ3, yv, μ5, e1.grow g4, s4, h5, fun ι5 H5 v5 g5 s5 r5 => ?_⟩
            have g25 := g24.trans g5
            have hx5 := g25.hk _ hDh _ hx2
            have hDh5 : Dd ∈ ι5.hid := by rw [g25.hid]; exact hDh
            split at hf2
            · rename_i hz
              have gu : Ext K ι5 H5 ι5 (upd H5 Dd (.lst (xs ++ [v5]))) := Ext.upd hx5 trivial (.inr hDh5)
              have rx5 := rx.grow g25
              rw [room_eq, rx.length] at hz
              refine ⟨xs, hx5, hz, ι5, _, acc ++ [yv], xs ++ [v5], (g2.trans g25.ext).trans gu, g25.hid.trans hid2, fun a hm o h => ?_, s5.grow_hid hDh5 trivial, upd_same, (rx5.append (.cons r5 .nil)).ext gu, hf2⟩
              rw [upd_ne fun e => by subst e; exact s1.not_hid hD hm]
              exact old g25 a hm o h
            · cases hf2
        | _ => cases hf2
theorem lc_readM {K : PySem.W.Frag} {sf : Loc → Sto → Res Src} {t : Tg} {vs : List Nat} {test elt : Loc → Sto → Res D} (hin : ∀ i ∈ t.ixs, i ∈ vs) {σ : L2.St} {H : Hp} {Q : VK} (h : TV K (pushF (lcF sf t vs test elt)) σ H Q) :
    tLc (TSrc K sf) (gOf K t) (TB K test) (TV K elt) vs σ H Q := by
  obtain ⟨ι, ρ, μ, d, μ'', he, hs, hf, ha⟩ := h
  obtain ⟨d, μ', hf, hpu⟩ := Res.bind_ok (show ((lcF sf t vs test elt ρ μ).bind fun x μ => match x with | .rol l => Res.ok (D.loc μ.length) (μ ++ [Mo.lst l]) | _ => .bad) = .ok _ _ from hf)
  unfold lcF at hf
  obtain ⟨src, μ1, h1, hf⟩ := Res.bind_ok hf
  refine ⟨ι, ρ, μ, src, μ1, he, hs, h1, fun ι1 H1 J g1 s1 so Dd hD => ?_⟩
  -- the new list is not to be read before it is whole
  have hhide : StOk K (upd H1 Dd (.lst [])) (ι1.hide Dd) μ1 := s1.hide hD trivial
  have x0 : Ext K ι1 H1 (ι1.hide Dd) (upd H1 Dd (.lst [])) := Ext.hide hD
  refine ⟨fun i m H' => ∃ ι' μ2 acc xs, Ext K ι1 H1 ι' H' ∧ ι'.hid = Dd :: ι1.hid ∧ (∀ a ∈ ι1.hid, ∀ o, H1 a = some o → H' a = some o) ∧ StOk K H' ι' μ2 ∧ H' Dd = some (.lst xs) ∧ RelL K H' ι' acc xs ∧ lcN src t vs ρ test elt m i acc μ2 = .ok d μ',
    ⟨src.fuel, ι1.hide Dd, μ1, [], [], x0, rfl, fun a _ o h => by rw [upd_ne (ne_of_none h hD)]; exact h, hhide, upd_same, .nil, hf⟩, ?_⟩
  rintro i m H2 ⟨ι2, μ2, acc, xs, g2, hid2, hk2, s2, hx2, rx, hf2⟩
  have hDh : Dd ∈ ι2.hid := by rw [hid2]; exact List.mem_cons_self
  cases m with
  | zero => cases hf2
  | succ m =>
    simp only [lcN] at hf2
    split at hf2
    · cases hf2
    · rename_i hat
      cases hf2
      have hs : ι2.show.hid = ι1.hid := by show ι2.hid.tail = _; rw [hid2]; rfl
      cases hpu
      have no : ∀ b, b ∉ ι2.loc ∧ b ∉ ι2.hid → b ∉ (ι2.show.push Dd).loc ∧ b ∉ (ι2.show.push Dd).hid := fun b q => ⟨fun z => by
        rcases List.mem_append.mp z with z | z
        · exact q.1 z
        · rw [List.mem_singleton] at z; subst z; exact q.2 hDh, fun z => q.2 (List.mem_of_mem_tail z)⟩
      have x2 : Ext K ι2 H2 (ι2.show.push Dd) H2 := ⟨List.prefix_append _ _, fun _ _ h => h, fun a xs h => ⟨(no a ⟨h.1, h.2.1⟩).1, (no a ⟨h.1, h.2.1⟩).2, h.2.2⟩, fun _ _ h => h, fun a ps h => ⟨(no a ⟨h.1, h.2.1⟩).1, (no a ⟨h.1, h.2.1⟩).2, h.2.2⟩, fun _ _ _ h => h, fun a _ _ h => ⟨(no a ⟨h.1, h.2.1⟩).1, (no a ⟨h.1, h.2.1⟩).2, h.2.2⟩, fun _ _ h => h⟩
      have gs : Grow K ι1 H1 (ι2.show.push Dd) H2 := ⟨g2.trans x2, hs, hk2⟩
      have s3 : StOk K H2 (ι2.show.push Dd) (μ' ++ [.lst acc]) := by
        refine ⟨by simp [Ix.push, Ix.show, s2.len], ?_, fun a ha => ?_, fun a ha => s2.hd a (List.mem_of_mem_tail ha), fun n m h => ?_⟩
        · show (ι2.loc ++ [Dd]).Nodup
          rw [List.nodup_append]
          refine ⟨s2.nd, by simp, fun a ha b hb => ?_⟩
          rw [List.mem_singleton] at hb
          subst hb
          intro e
          subst e
          exact s2.dj _ ha hDh
        · rcases List.mem_append.mp ha with ha | ha
          · exact fun z => s2.dj a ha (List.mem_of_mem_tail z)
          · rw [List.mem_singleton.mp ha]; exact fun z => s1.not_hid hD (by rw [← hs]; exact z)
        · by_cases hn : n < μ'.length
          · rw [List.getElem?_append_left hn] at h
            obtain ⟨a, h1, h2⟩ := s2.ok n m h
            refine ⟨a, ?_, h2.move x2 fun o q => q⟩
            show (ι2.loc ++ [Dd])[n]? = _
            rw [List.getElem?_append_left (by rw [s2.len]; exact hn)]; exact h1
          · have hn' : n = μ'.length := by
              have := (List.getElem?_eq_some_iff.mp h).1
              rw [List.length_append] at this
              simp at this
              omega
            subst hn'
            simp at h
            subst h
            exact ⟨Dd, push_at s2.len, xs, hx2, rx.ext x2⟩
      exact .inl ⟨so.stops ι2 H2 _ i g2 s2 hat, ha _ H2 _ (g1.trans gs) s3 (.loc (push_at s2.len))⟩
    · rename_i x hat
      obtain ⟨go, yl⟩ := so.goes ι2 H2 μ2 i x g2 s2 hat
      refine .inr ⟨go, fun H' => ∃ ι' μ3 acc xs, Ext K ι1 H1 ι' H' ∧ ι'.hid = Dd :: ι1.hid ∧ (∀ a ∈ ι1.hid, ∀ o, H1 a = some o → H' a = some o) ∧ StOk K H' ι' μ3 ∧ H' Dd = some (.lst xs) ∧ RelL K H' ι' acc xs ∧ lcN src t vs ρ test elt m (i + 1) acc μ3 = .ok d μ', fun H' nx => ⟨m, Nat.lt_succ_self m, nx⟩, fun y H3 hy => ?_⟩
      obtain ⟨g3, s3, r3⟩ := yl y H3 hy
      split at hf2
      · cases hf2
      · rename_i ρ1 hb
        have e3 : EnvOk K H3 ι2 (wipe ρ vs) (L2.wipe σ vs) := (he.ext ((g1.ext.trans g2).trans g3.ext)).wipe vs
        refine gOf_run hb e3 r3 fun σ1 e1 hw => ⟨by rw [hw vs hin, wipe_wipe], ?_⟩
        have old : ∀ {ι' : Ix} {H' : Hp}, Grow K ι2 H2 ι' H' → ∀ a ∈ ι1.hid, ∀ o, H1 a = some o → H' a = some o := fun g a hm o h => g.hk a (by rw [hid2]; exact List.mem_cons_of_mem _ hm) o (hk2 a hm o h)
        obtain ⟨bv, μ3, h3, hf2⟩ := Res.bind_ok hf2
        cases bv with
        | bl b =>
          refine ⟨ι2, ρ1, μ2, b, μ3, e1, s3, h3, fun ι4 H4 g4 s4 => ?_⟩
          have g24 := g3.trans g4
          cases b with
          | false => exact ⟨ι4, μ3, acc, xs, g2.trans g24.ext, g24.hid.trans hid2, old g24, s4, g24.hk _ hDh _ hx2, rx.grow g24, hf2⟩
          | true =>
            obtain ⟨yv, μ5, h5, hf2⟩ := Res.bind_ok hf2
            refine Eq.mpr (if_pos rfl) ?_
            refine ⟨ι4, ρ1, μ3, yv, μ5, e1.grow g4, s4, h5, fun ι5 H5 v5 g5 s5 r5 => ?_⟩
            have g25 := g24.trans g5
            have hx5 := g25.hk _ hDh _ hx2
            have hDh5 : Dd ∈ ι5.hid := by rw [g25.hid]; exact hDh
            split at hf2
            · rename_i hz
              have gu : Ext K ι5 H5 ι5 (upd H5 Dd (.lst (xs ++ [v5]))) := Ext.upd hx5 trivial (.inr hDh5)
              have rx5 := rx.grow g25
              rw [room_eq, rx.length] at hz
              refine ⟨xs, hx5, hz, ι5, _, acc ++ [yv], xs ++ [v5], (g2.trans g25.ext).trans gu, g25.hid.trans hid2, fun a hm o h => ?_, s5.grow_hid hDh5 trivial, upd_same, (rx5.append (.cons r5 .nil)).ext gu, hf2⟩
              rw [upd_ne fun e => by subst e; exact s1.not_hid hD hm]
              exact old g25 a hm o h
            · cases hf2
        | _ => cases hf2
theorem ownOf_mem {N : List Str} : ∀ {l : List (Str × NameKind)} {own : List (Str × Nat)}, ownOf N l = some own → ∀ x i, (l.lookup x = some .local ∨ l.lookup x = some .cell) → idxOf x N = some i → i ∈ own.map (·.2)
  | [], own, h, x, i, hx, _ => by rcases hx with hx | hx <;> simp at hx
  | (y, kd) :: l, own, h, x, i, hx, hi => by
    by_cases hxy : x = y
    · subst hxy
      have hk : kd = .local ∨ kd = .cell := by
        rcases hx with hx | hx
        · rw [List.lookup_cons] at hx; simp at hx; exact .inl hx
        · rw [List.lookup_cons] at hx; simp at hx; exact .inr hx
      rcases hk with rfl | rfl
      · simp only [ownOf, hi] at h
        split at h
        · rename_i j l' hj hl
          cases hj; cases h; simp
        · rename_i hj _; cases hj
        · cases h
      · simp only [ownOf, hi] at h
        split at h
        · rename_i j l' hj hl
          cases hj; cases h; simp
        · rename_i hj _; cases hj
        · cases h
    · have hb : (x == y) = false := beq_eq_false_iff_ne.mpr hxy
      have hx' : l.lookup x = some .local ∨ l.lookup x = some .cell := by
        rw [List.lookup_cons, hb] at hx; exact hx
      cases kd with
      | «local» =>
        simp only [ownOf] at h
        split at h
        · rename_i j l' hj hl
          cases h
          rw [List.map_cons]
          exact List.mem_cons_of_mem _ (ownOf_mem hl x i hx' hi)
        · rename_i l' hj hl
          cases h
          exact ownOf_mem hl x i hx' hi
        · cases h
      | cell =>
        simp only [ownOf] at h
        split at h
        · rename_i j l' hj hl
          cases h
          rw [List.map_cons]
          exact List.mem_cons_of_mem _ (ownOf_mem hl x i hx' hi)
        · rename_i l' hj hl
          cases h
          exact ownOf_mem hl x i hx' hi
        · cases h
      | free => exact ownOf_mem (show ownOf N l = some own from h) x i hx' hi
      | globalExplicit => exact ownOf_mem (show ownOf N l = some own from h) x i hx' hi
      | globalImplicit => exact ownOf_mem (show ownOf N l = some own from h) x i hx' hi
theorem nameIx_kind {N : List Str} {sc : Scope} {x : Str} {p : Pos} {i : Nat} (h : nameIx N sc (.Name x p) = some i) : (sc.names.lookup x = some .local ∨ sc.names.lookup x = some .cell) ∧ idxOf x N = some i := by
  simp only [nameIx] at h
  split at h
  · rename_i e; exact ⟨.inl e, h⟩
  · rename_i e; exact ⟨.inr e, h⟩
  · cases h
theorem ixs_in {N : List Str} {scope : Scope} {own : List (Str × Nat)} (ho : ownOf N scope.names = some own) {tg : Expr} {t : Tg} (h : cT N scope tg = some t) : ∀ i ∈ t.ixs, i ∈ own.map (·.2) := by
  have one : ∀ {e : Expr} {i : Nat}, nameIx N scope e = some i → i ∈ own.map (·.2) := by
    intro e i h
    cases e with
    | Name x p =>
      obtain ⟨h1, h2⟩ := nameIx_kind h
      exact ownOf_mem ho x i h1 h2
    | _ => cases h
  cases tg with
  | Tuple es k p =>
    obtain ⟨is, h1, rfl⟩ := map_some' (show (omap (nameIx N scope) es).map Tg.tp = some t from h)
    have : ∀ {es : List Expr} {is : List Nat}, omap (nameIx N scope) es = some is → ∀ i ∈ is, i ∈ own.map (·.2) := by
      intro es
      induction es with
      | nil => intro is h; cases h; intro i hi; cases hi
      | cons e es ih =>
        intro is h i hi
        obtain ⟨j, is', q1, q2, rfl⟩ := omap_cons h
        rcases List.mem_cons.mp hi with rfl | hi
        · exact one q1
        · exact ih q2 i hi
    exact this h1
  | Name x p =>
    obtain ⟨i, h1, rfl⟩ := map_some' (show (nameIx N scope (.Name x p)).map Tg.nm = some t from h)
    intro j hj
    rcases List.mem_cons.mp hj with rfl | hj
    · exact one h1
    · cases hj
  | _ => simp [cT, nameIx] at h
section
variable {X : Cx} {G : Cfg} {N : List Str} {c : Call} {kw : Kwp} {k : Nat}
theorem fold_set {e : Expr} (h : isSetE e = false) : ∀ (env : Env) (x : Value), foldedSetIterable e env x = pure x := by
  intro env x
  cases e <;> first | rfl | cases h
theorem pts_nilE : PTs X [] (TB X.K fun _ μ => .ok (.bl true) μ) := ⟨fun pins s σ H Q I h => by
  obtain ⟨ι, ρ, μ, b, μ', h1, h2, h3, h4⟩ := h
  cases h3
  exact pts_nil.run pins s σ H Q I (h4 ι H Grow.refl h2)⟩
/-- what a comprehension's parts are -/
structure LcOk (X : Cx) (N : List Str) (scope : Scope) (own : List (Str × Nat)) (tg iter : Expr) (ifs : List Expr) (elt : Expr) (t : Tg) (sf : Loc → Sto → Res Src) (test eltf : Loc → Sto → Res D) : Prop where
  calm : X.calm = true
  nd : X.N.Nodup
  ok : BlkOk X.N X.env.scope scope own
  it : PI X tg iter (TSrc X.K sf)
  tgt : ∀ (s : Shared) (H : Hp) (C : Addr) (cl : List (Str × Addr)) (fp : List Addr), PG (X.blk s H scope (compEnvC scope cl C X.env) fp) tg (gOf X.K t)
  tst : ∀ (s : Shared) (H : Hp) (C : Addr) (cl : List (Str × Addr)) (fp : List Addr), PTs (X.blk s H scope (compEnvC scope cl C X.env) fp) ifs (TB X.K test)
  elt : ∀ (s : Shared) (H : Hp) (C : Addr) (cl : List (Str × Addr)) (fp : List Addr), PE (X.blk s H scope (compEnvC scope cl C X.env) fp) elt (TV X.K eltf)
  fold : ∀ (env : Env) (x : Value), foldedSetIterable iter env x = pure x
  ins : ∀ i ∈ t.ixs, i ∈ own.map (·.2)
theorem LcOk.pe {scope : Scope} {own : List (Str × Nat)} {tg iter elt : Expr} {ifs : List Expr} {t : Tg} {sf : Loc → Sto → Res Src} {test eltf : Loc → Sto → Res D} (L : LcOk X N scope own tg iter ifs elt t sf test eltf) {pos : Pos} :
    PE X (.ListComp elt [⟨tg, iter, ifs, 0⟩] scope pos) (TV X.K (lcF sf t (own.map (·.2)) test eltf)) :=
  peImp (pe_lc L.calm L.nd L.it L.ok L.tgt L.tst L.elt (L.fold X.env)) fun σ H Q h => lc_read L.ins h
end
end Ev

namespace Ev
open PySem PySem.Spec L2

/-! ### comprehensions with any number of clauses -/
abbrev WN := L2.St → Hp → (Hp → Prop) → Prop
abbrev NoE : Value → Shared → Prop := fun _ _ => False
def turnOf (e : Expr) (d : Nat) (tg it0 : Expr) (ifs : List Expr) (aft : PySem.Sem PySem.Fin) (it acc : Value) (env : Env) : PySem.Sem PySem.Fin := do
  standAt it0.pos
  match ← pyNext it with
  | none => pure (.done .next)
  | some u =>
    letOwnedTupleGo tg it u
    assign tg env u
    let mut fine := true
    for z in ifs do
      if fine then fine ← isTrue z env (eval z env)
    if fine then aft else again (.compLoop e d it acc env)
/-- the next clause, then c again -/
def stepIn (e : Expr) (d : Nat) (it0 : Expr) (acc : Value) (env : Env) (c : Code) : PySem.Sem PySem.Fin := do
  let u ← eval it0 env
  standAt it0.pos
  let u ← foldedSetIterable it0 env u
  let _ ← runOwn (.compStart e d (← holding [u] (pyIter u)) acc env) env
  again c
/-- what is asked of the kind of a comprehension -/
structure CK (e : Expr) : Prop where
  q : ∀ d it acc env, (Code.compLoop e d it acc env).quiet = true
  u : ∀ (A : Around) d it acc env, A.under (.compLoop e d it acc env) = A
  n : ∀ P w d it acc env, (model P w).den (.compLoop e d it acc env) = (compTurn e d it acc env).onRaise (fun x => do noteFrame x env; theTreesLotGoes x)
  us : ∀ (A : Around) d it acc env, A.under (.compStart e d it acc env) = A
  ns : ∀ P w d it acc env, (model P w).den (.compStart e d it acc env) = (compStart e d it acc env).onRaise (fun x => do noteFrame x env; standAt theWindowsPlace)
theorem ckL (elt : Expr) (gs : List Comprehension) (sc : Scope) (pos : Pos) : CK (.ListComp elt gs sc pos) :=
  ⟨fun _ _ _ _ => rfl, fun _ _ _ _ _ => rfl, fun _ _ _ _ _ _ => rfl, fun _ _ _ _ _ => rfl, fun _ _ _ _ _ _ => rfl⟩
theorem ckS (elt : Expr) (gs : List Comprehension) (sc : Scope) (pos : Pos) : CK (.SetComp elt gs sc pos) :=
  ⟨fun _ _ _ _ => rfl, fun _ _ _ _ _ => rfl, fun _ _ _ _ _ _ => rfl, fun _ _ _ _ _ => rfl, fun _ _ _ _ _ _ => rfl⟩
def emL (elt : Expr) (acc : Value) (env : Env) (c : Code) : PySem.Sem PySem.Fin := do
  (do let _ ← call (.builtin "list.append") [acc, ← eval elt env]; pure ())
  again c
def emS (elt : Expr) (acc : Value) (env : Env) (c : Code) : PySem.Sem PySem.Fin := do
  (do let u ← eval elt env; standAt elt.pos; let _ ← call (.builtin "set.add") [acc, u]; pure ())
  again c
section
variable {elt tg it0 tg1 it1 : Expr} {ifs ifs1 : List Expr} {gs : List Comprehension} {sc : Scope} {pos : Pos} {d : Nat} {it acc : Value} {env : Env}
theorem turnL_in (h : gs[d]? = some ⟨tg, it0, ifs, 0⟩) (h1 : gs[d + 1]? = some ⟨tg1, it1, ifs1, 0⟩) :
    compTurn (.ListComp elt gs sc pos) d it acc env = turnOf (.ListComp elt gs sc pos) d tg it0 ifs (stepIn (.ListComp elt gs sc pos) (d + 1) it1 acc env (.compLoop (.ListComp elt gs sc pos) d it acc env)) it acc env := by
  unfold compTurn
  simp only [h, h1]
  rfl
theorem turnL_end (h : gs[d]? = some ⟨tg, it0, ifs, 0⟩) (h1 : gs[d + 1]? = none) :
    compTurn (.ListComp elt gs sc pos) d it acc env = turnOf (.ListComp elt gs sc pos) d tg it0 ifs (emL elt acc env (.compLoop (.ListComp elt gs sc pos) d it acc env)) it acc env := by
  unfold compTurn
  simp only [h, h1]
  rfl
theorem turnS_in (h : gs[d]? = some ⟨tg, it0, ifs, 0⟩) (h1 : gs[d + 1]? = some ⟨tg1, it1, ifs1, 0⟩) :
    compTurn (.SetComp elt gs sc pos) d it acc env = turnOf (.SetComp elt gs sc pos) d tg it0 ifs (stepIn (.SetComp elt gs sc pos) (d + 1) it1 acc env (.compLoop (.SetComp elt gs sc pos) d it acc env)) it acc env := by
  unfold compTurn
  simp only [h, h1]
  rfl
theorem turnS_end (h : gs[d]? = some ⟨tg, it0, ifs, 0⟩) (h1 : gs[d + 1]? = none) :
    compTurn (.SetComp elt gs sc pos) d it acc env = turnOf (.SetComp elt gs sc pos) d tg it0 ifs (emS elt acc env (.compLoop (.SetComp elt gs sc pos) d it acc env)) it acc env := by
  unfold compTurn
  simp only [h, h1]
  rfl
end
section
variable {P : Program} {w : World} {A : Around} {R : Result → Shared → Prop} {s : Shared} {e tg it0 : Expr} {ifs : List Expr} {d : Nat} {it acc : Value} {env : Env} {aft : PySem.Sem PySem.Fin} {c : Code}
theorem loopC (hk : CK e) (ht : compTurn e d it acc env = turnOf e d tg it0 ifs aft it acc env) (I : Nat → Shared → Prop)
    (turn : ∀ n s, I n s → wpAny (model P w) A (pyNext it) (fun r s1 => match r with
      | none => R (.ok .next) s1
      | some u => wpAny (model P w) A (letOwnedTupleGo tg it u) (fun _ s2 => wpAny (model P w) A (assign tg env u) (fun _ s3 =>
          wpAny (model P w) A (forIn ifs true fun z b => if b = true then do let ok ← isTrue z env (eval z env); pure (ForInStep.yield ok) else pure (ForInStep.yield b)) (fun ok s4 =>
            if ok = true then wpAny (model P w) A aft (fun f s5 => f = .again (.compLoop e d it acc env) ∧ ∃ m, m < n ∧ I m s5) NoE s4 else ∃ m, m < n ∧ I m s4) NoE s3) NoE s2) NoE s1) NoE s)
    (n : Nat) (h : I n s) : codeAny (model P w) A (.compLoop e d it acc env) R s := by
  refine codeAny_loop (hk.q _ _ _ _) I (fun n s hI => ?_) n h
  rw [hk.u, hk.n]
  refine wpAny_noted ?_
  rw [ht]
  refine wpAny_bind (wpAny_standAt (wpAny_bind (thnF (turn n s hI) fun r s1 q1 => ?_)))
  cases r with
  | none => exact wpAny_pure q1
  | some u =>
    refine wpAny_bind (thnF q1 fun _ s2 q2 => ?_)
    refine wpAny_bind (thnF q2 fun _ s3 q3 => wpAny_bind (thnF q3 fun ok s4 q4 => ?_))
    cases ok with
    | false => exact wpAny_pure ⟨rfl, q4⟩
    | true =>
      refine thnF q4 fun f s5 q5 => ?_
      obtain ⟨rfl, q5⟩ := q5
      exact ⟨rfl, q5⟩
theorem startC (hk : CK e) (hg : (clausesOf e)[d]? = some ⟨tg, it0, ifs, 0⟩) (h0 : codeAny (model P w) A (.compLoop e d it acc env) R s)
    (h : wpAny (model P w) A (pyIter it) (fun u s' => codeAny (model P w) A (.compLoop e d u acc env) R s') (notedBy (model P w) A env fun x s' => R (.error x) s') s) :
    codeAny (model P w) A (.compStart e d it acc env) R s := by
  refine codeAny_of_tree ?_
  rw [hk.us, hk.ns]
  refine wpAny_notedAt ?_
  unfold compStart
  rw [hg]
  refine wpAny_bind (wpAny_askSetting (wpAny_ite ?_))
  have qq : ∀ u, (Code.compLoop e d u acc env).quiet = true := fun u => hk.q _ _ _ _
  split
  · first
      | exact wpAny_bind (wpAny_pure (wpAny_pure (And.intro (qq _) h0)))
      | exact wpAny_pure (And.intro (qq _) h0)
  · first
      | exact wpAny_bind (wpAny_rule (wpAny_bind (wpAny_standAt (wpAny_bind (wpAny_mono h (fun u s' h' => wpAny_pure (And.intro (qq _) h')) fun _ _ x => x)))))
      | (refine wpAny_bind (wpAny_rule ?_); show wpAny _ _ (standAt it0.pos >>= _) _ _ s; exact wpAny_bind (wpAny_standAt (wpAny_bind (wpAny_mono h (fun u s' h' => wpAny_pure (And.intro (qq _) h')) fun _ _ x => x))))
theorem stepIn_ok {Q : Shared → Prop} (hs : ∀ x, foldedSetIterable it0 env x = pure x)
    (h : wpAny (model P w) A (eval it0 env) (fun x s1 => wpAny (model P w) A (pyIter x) (fun u s2 => codeAny (model P w) A (.compStart e d u acc env) (fun r s' => match r with
      | .ok _ => Q s'
      | .error _ => False) s2) NoE s1) NoE s) : wpAny (model P w) A (stepIn e d it0 acc env c) (fun f s' => f = .again c ∧ Q s') NoE s := by
  unfold stepIn
  refine wpAny_bind (thnF h fun x s1 h1 => ?_)
  refine wpAny_bind (wpAny_standAt (wpAny_bind (wpAny_of_eq (hs x) (wpAny_bind (wpAny_holding (thnF h1 fun u s2 h2 => ?_))))))
  refine wpAny_bind (wpAny_runOwn ?_)
  rw [Around.mark_none]
  refine codeAny_mono h2 fun r s' hr => ?_
  cases r with
  | ok f => exact wpAny_pure ⟨rfl, hr⟩
  | error x => exact hr.elim
end
end Ev

namespace Ev
open PySem PySem.Spec L2

/-- a clause's loop: J walked, then wn; vs: its names and those of the clauses in it -/
def tLoop (J : L2.It) (g : TG) (tt : TT) (wn : WN) (vs : List Nat) : WN := fun σ H Nx => ∃ W : Nat → Nat → Hp → Prop, (∃ m, W 0 m H) ∧ ∀ j k H, W j k H →
  (J.stop j H ∧ Nx H) ∨ (J.go j H ∧ ∃ Nt : Hp → Prop, (∀ H', Nt H' → ∃ k', k' < k ∧ W (j + 1) k' H') ∧
    ∀ x H', J.yld j H x H' → g x (L2.wipe σ vs) H' fun σ3 H5 => L2.wipe σ3 vs = L2.wipe σ vs ∧ tt σ3 H5 fun b H6 => if b = true then wn σ3 H6 Nt else Nt H6)
def tCl (wi : TI) (g : TG) (tt : TT) (wn : WN) (vs : List Nat) : WN := fun σ H Nx => wi σ H fun J H1 => tLoop J g tt wn vs σ H1 Nx
def tComp (h0 : Addr → HO) (wi : TI) (g : TG) (tt : TT) (wn : Addr → WN) (vs : List Nat) : TE := fun σ H Q => wi σ H fun J H1 => ∀ D, H1 D = none → tLoop J g tt (wn D) vs σ (upd H1 D (h0 D)) fun H => Q (.ref D) H
theorem thnX {α : Type} {t : Sem α} {Q Q' : α → Shared → Prop} {M : Model} {A : Around} {X E : Value → Shared → Prop} {s : Shared} (hx : X = NoE) (h : wpAny M A t Q X s) (hQ : ∀ a s, Q a s → Q' a s) : wpAny M A t Q' E s := by
  subst hx
  exact thnF h hQ
/-- what stands behind a clause's tests -/
def NestOk (Y : Cx) (c : Code) (aft : PySem.Sem PySem.Fin) (vs : List Nat) (wn : WN) : Prop := ∀ (pins : List (Addr × Obj)) (s : Shared) (σ : L2.St) (H : Hp) (Nx : Hp → Prop), Inv Y pins σ H s → wn σ H Nx →
  wpAny (model Y.prog Y.w) Y.A aft (fun f s' => f = .again c ∧ ∃ H', Inv Y pins (L2.wipe σ vs) H' s' ∧ Nx H') NoE s
theorem weak_wipe {Y : Cx} {pins : List (Addr × Obj)} {σ σ' : L2.St} {H : Hp} {s : Shared} {vs vs' : List Nat} (hsub : ∀ i ∈ vs', i ∈ vs) (hw : L2.wipe σ' vs = L2.wipe σ vs) (I : Inv Y pins (L2.wipe σ' vs') H s) : Inv Y pins (L2.wipe σ vs) H s := by
  refine I.weak ?_ fun j v e => ?_
  · rw [← hw, L2.wipe_length, L2.wipe_length]
  · rw [← hw] at e
    obtain ⟨e1, e2⟩ := L2.wipe_some e
    rw [L2.wipe_out fun z => e2 (hsub j z)]
    exact e1
section
variable {Y : Cx} {e tg it0 : Expr} {ifs : List Expr} {d : Nat} {acc : Value} {aft : Value → PySem.Sem PySem.Fin} {vs vs' : List Nat} {wi : TI} {g : TG} {tt : TT} {wn : WN} {σ : L2.St} {H : Hp} {s : Shared} {pins : List (Addr × Obj)} {R : Result → Shared → Prop} {Nx : Hp → Prop}
theorem loop_run {it : Addr} {fp : List Addr} {tn : Nat → Heap → Prop} {J : L2.It} (hx : Y.xe = NoE) (hc : Y.calm = true) (hk : CK e) (ht : compTurn e d (.ref it) acc Y.env = turnOf e d tg it0 ifs (aft (.ref it)) (.ref it) acc Y.env)
    (T : Turn Y.prog Y.w Y.K tg J fp it tn) (pg : PG Y tg g) (pt : PTs Y ifs tt) (hn : NestOk Y (.compLoop e d (.ref it) acc Y.env) (aft (.ref it)) vs' wn) (hsub : ∀ i ∈ vs', i ∈ vs)
    (I : Inv Y pins σ H s) (st : tn 0 s.heap) (ffp : ∀ b ∈ fp, FpOk Y pins H b) (h : tLoop J g tt wn vs σ H Nx)
    (hR : ∀ s' H', Inv Y pins (L2.wipe σ vs) H' s' → Nx H' → R (.ok .next) s') : codeAny (model Y.prog Y.w) Y.A (.compLoop e d (.ref it) acc Y.env) R s := by
  obtain ⟨W, ⟨m0, w0⟩, turn⟩ := h
  refine loopC hk ht (fun n s' => ∃ i H', Inv Y pins (L2.wipe σ vs) H' s' ∧ tn i s'.heap ∧ (∀ b ∈ fp, H' b = none) ∧ W i n H') ?_ m0 ⟨0, H, I.weak (L2.wipe_length _ _) (fun j v e => (L2.wipe_some e).1), st, fun b hb => (ffp b hb).1, w0⟩
  rintro n s1 ⟨i, H1, I1, t1, n1, w1⟩
  have ok1 : ∀ {H' : Hp}, (∀ b ∈ fp, H' b = none) → ∀ b ∈ fp, FpOk Y pins H' b := fun z b hb => ⟨z b hb, (ffp b hb).2⟩
  rcases turn i n H1 w1 with ⟨sp, nx⟩ | ⟨go, Nt, hNt, step⟩
  · refine thnF (T.done Y rfl rfl rfl hc i pins s1 _ H1 NoE I1 (ok1 n1) t1 sp) fun r s2 q2 => ?_
    obtain ⟨hr, I2⟩ := q2
    subst hr
    exact hR _ _ I2 nx
  · refine thnF (T.item Y rfl rfl rfl hc i pins s1 _ H1 NoE I1 (ok1 n1) t1 go) fun r s2 q2 => ?_
    obtain ⟨u, hr, h2⟩ := q2
    subst hr
    refine thnF h2 fun _ s3 q3 => ?_
    obtain ⟨x, H3, I3, r3, y3, t3, n3⟩ := q3
    have I3' := I3.pinned (ok1 n3) (T.obj _ _ t3)
    refine thnX hx (pg.run _ s3 _ H3 x u _ I3' r3 (step x H3 y3)) fun _ s4 q4 => ?_
    obtain ⟨σ4, H4, I4, hw4, q4⟩ := q4
    refine thnX hx (pt.run _ s4 σ4 H4 _ I4 q4) fun b s5 q5 => ?_
    obtain ⟨H5, I5, q5⟩ := q5
    have fin : ∀ {s' : Shared} {H' : Hp}, Inv Y (pins ++ pinsAt fp s3.heap) (L2.wipe σ vs) H' s' → Nt H' → ∃ m, m < n ∧ ∃ i H', Inv Y pins (L2.wipe σ vs) H' s' ∧ tn i s'.heap ∧ (∀ b ∈ fp, H' b = none) ∧ W i m H' := fun {s' H'} I' nx => by
      obtain ⟨m', hm, w'⟩ := hNt H' nx
      have pin' : ∀ b ∈ fp, ∀ o, s3.heap.get? b = some o → s'.heap.get? b = some o ∧ H' b = none := fun b hb o e =>
        let z := I'.pin (b, o) (List.mem_append_right _ (List.mem_append_right _ (mem_pinsAt hb e)))
        ⟨z.1, z.2.1⟩
      refine ⟨m', hm, i + 1, H', I'.unpinned, T.keep _ _ _ t3 fun b hb o e => (pin' b hb o e).1, fun b hb => ?_, w'⟩
      obtain ⟨o, e, _⟩ := T.obj _ _ t3 b hb
      exact (pin' b hb o e).2
    cases b with
    | false =>
      refine Eq.mpr (if_neg Bool.false_ne_true) ?_
      refine fin ?_ ((if_neg Bool.false_ne_true) ▸ q5)
      exact weak_wipe (vs' := []) (fun _ z => by cases z) hw4 I5
    | true =>
      refine Eq.mpr (if_pos rfl) ?_
      refine thnF (hn _ s5 σ4 H5 _ I5 ((if_pos rfl) ▸ q5)) fun f s6 q6 => ?_
      obtain ⟨rfl, H6, I6, nx⟩ := q6
      exact ⟨rfl, fin (weak_wipe hsub hw4 I6) nx⟩
/-- an inner clause -/
theorem nest_cl {c : Code} (hx : Y.xe = NoE) (hc : Y.calm = true) (hk : CK e) (hg : (clausesOf e)[d]? = some ⟨tg, it0, ifs, 0⟩) (ht : ∀ it, compTurn e d it acc Y.env = turnOf e d tg it0 ifs (aft it) it acc Y.env)
    (hi : PI Y tg it0 wi) (pg : PG Y tg g) (pt : PTs Y ifs tt) (hn : ∀ it, NestOk Y (.compLoop e d it acc Y.env) (aft it) vs' wn) (hsub : ∀ i ∈ vs', i ∈ vs) (hs : ∀ x, foldedSetIterable it0 Y.env x = pure x) :
    NestOk Y c (stepIn e d it0 acc Y.env c) vs (tCl wi g tt wn vs) := by
  intro pins s σ H Nx I h
  refine stepIn_ok hs (thnX hx (hi.run pins s σ H _ I h) fun xv s1 q1 => thnX hx q1 fun itv s2 q2 => ?_)
  obtain ⟨it, fp, tn, J, H2, rfl, I2, T, st, ffp, q⟩ := q2
  have lp : codeAny (model Y.prog Y.w) Y.A (.compLoop e d (.ref it) acc Y.env) (fun r s' => match r with
      | .ok _ => ∃ H', Inv Y pins (L2.wipe σ vs) H' s' ∧ Nx H'
      | .error _ => False) s2 := loop_run hx hc hk (ht _) T pg pt (hn _) hsub I2 st ffp q fun s' H' I' nx => ⟨H', I', nx⟩
  exact startC hk hg lp (T.self Y.A 0 _ _ _ st lp)
/-- the last: an item of a list -/
theorem nest_L {elt : Expr} {te : TE} {D : Addr} {c : Code} (hx : Y.xe = NoE) (pe : PE Y elt te) :
    NestOk Y c (emL elt (.ref D) Y.env c) [] (fun σ H Nx => te σ H fun y H' => ∃ xs, H' D = some (.lst xs) ∧ xs.length < sizeLine ∧ Nx (upd H' D (.lst (xs ++ [y])))) := by
  intro pins s σ H Nx I h
  unfold emL
  refine wpAny_bind (wpAny_bind (thnX hx (pe.run pins s σ H _ I h) fun v s1 q1 => ?_))
  obtain ⟨y, H1, I1, r1, xs, hD, hz, nx⟩ := q1
  refine wpAny_bind (app_ok I1 hD hz r1 fun s2 I2 => wpAny_pure (wpAny_pure ⟨rfl, _, I2, nx⟩))
end
end Ev

namespace Ev
open PySem PySem.Spec L2 PyProof.Rows

section
variable {X : Cx}
/-- a comprehension with any clauses; o0: what it begins with -/
theorem comp_core {e elt tg it0 : Expr} {ifs : List Expr} {gs : List Comprehension} {scope : Scope} {own : List (Str × Nat)} {pos' : Pos} {wi : TI} {g : TG} {tt : TT} {wn : Addr → WN} {vs' : List Nat} {o0 : Obj} {h0 : Addr → HO} {newAcc : Sem Value}
    {aft : Addr → Value → Env → PySem.Sem PySem.Fin} {pins : List (Addr × Obj)} {s : Shared} {σ : L2.St} {H : Hp} {Q : VK} {use : Option (Value → Sem Unit)} {Qf : Value → Shared → Prop}
    (hk : CK e) (hcl : clausesOf e = ⟨tg, it0, ifs, 0⟩ :: gs) (ht : ∀ D it env, compTurn e 0 it (.ref D) env = turnOf e 0 tg it0 ifs (aft D it env) it (.ref D) env)
    (hnew : ∀ {s : Shared} {Q : Value → Shared → Prop} {E : Value → Shared → Prop}, Q (.ref s.heap.objs.size) { s with heap := s.heap.push o0 } → wpAny (model X.prog X.w) X.A newAcc Q E s)
    (hobj : ∀ (h : Heap) (H : Hp), ObjOk X.prog X.w H (h.push o0) h.objs.size (h0 h.objs.size))
    (hc : X.calm = true) (hN : X.N.Nodup) (I : Inv X pins σ H s) (hi : PI X tg it0 wi) (ok : BlkOk X.N X.env.scope scope own) (hsub : ∀ i ∈ vs', i ∈ own.map (·.2))
    (hg : ∀ (s : Shared) (H : Hp) (C : Addr) (cl : List (Str × Addr)) (fp : List Addr), PG (X.blk s H scope (compEnvC scope cl C X.env) fp) tg g) (htt : ∀ (s : Shared) (H : Hp) (C : Addr) (cl : List (Str × Addr)) (fp : List Addr), PTs (X.blk s H scope (compEnvC scope cl C X.env) fp) ifs tt)
    (hnest : ∀ (s : Shared) (H : Hp) (C : Addr) (cl : List (Str × Addr)) (fp : List Addr) (D : Addr) (it : Value), NestOk (X.blk s H scope (compEnvC scope cl C X.env) fp) (.compLoop e 0 it (.ref D) (compEnvC scope cl C X.env)) (aft D it (compEnvC scope cl C X.env)) vs' (wn D))
    (hs : ∀ x, foldedSetIterable it0 X.env x = pure x) (h : tComp h0 wi g tt wn (own.map (·.2)) σ H Q)
    (hRR : ∀ D C s' m H', Inv X pins σ H' s' → Q (.ref D) H' → s'.heap.Ns C m → FpOk X pins H' C → compPost (model X.prog X.w) X.A X.xe use Qf (.ref D) C (.ok .next) s') :
    wpAny (model X.prog X.w) X.A (comprehension e scope X.env pos' newAcc false (eval it0 X.env) use) Qf X.xe s := by
  have hfree : ∀ y ∈ scope.names, y.2 = .free → ∃ c, X.env.cells.lookup y.1 = some c := fun y hy q => by
    rcases ok.free y hy q with k | k
    · exact I.ok.has _ (.inl k)
    · exact I.ok.has _ (.inr k)
  refine wpAny_comprehension_free (use := use) hcl hs (closure_ok hfree) ok.kind (fun y hy q => by rw [ok.uniq y hy, q])
    (thn (hi.run pins s σ H _ I h) fun xv s1 hx => thn hx fun itv s2 h2 => ?_)
  obtain ⟨it, fp, tn, J, H2, rfl, I2, T, t2, f2, q⟩ := h2
  refine hnew (newEnv_comp ?_)
  generalize hD : s2.heap.objs.size = D
  have hDn : H2 D = none := I2.hok.fresh (Nat.le_of_eq hD)
  have lq := q D hDn
  generalize hs3 : ({ s2 with heap := s2.heap.push o0 } : Shared) = s3
  have I3 : Inv X pins σ (upd H2 D (h0 D)) s3 := by
    rw [← hs3]
    refine I2.laid (t' := s2.toks) (fun b o e => Heap.get?_push_of_some _ e) (Nat.le_of_eq hD) ?_
    rw [← hD]
    exact hobj _ _
  have h3 : s3.heap = s2.heap.push o0 := by rw [← hs3]
  have f3 : ∀ b ∈ fp, FpOk X pins (upd H2 D (h0 D)) b ∧ b < s3.heap.objs.size := fun b hb => by
    obtain ⟨o, q1, _⟩ := T.obj _ _ t2 b hb
    have hlt : b < s2.heap.objs.size := Heap.lt_size q1
    refine ⟨⟨?_, (f2 b hb).2⟩, by rw [h3, Heap.size_push]; exact Nat.lt_succ_of_lt hlt⟩
    rw [upd_ne (by rw [← hD]; exact Nat.ne_of_lt hlt)]
    exact (f2 b hb).1
  have t3 : tn 0 s3.heap := T.keep _ _ _ t2 fun b _ o q1 => by rw [h3]; exact Heap.get?_push_of_some _ q1
  have I4 := block_start I3 ok hN f3
  have pg := hg s3 (upd H2 D (h0 D)) s3.heap.objs.size (cellsFrom (s3.heap.objs.size + 1) scope.names (cloFrom X.env.cells scope.names [])) fp
  have pt := htt s3 (upd H2 D (h0 D)) s3.heap.objs.size (cellsFrom (s3.heap.objs.size + 1) scope.names (cloFrom X.env.cells scope.names [])) fp
  have pn := hnest s3 (upd H2 D (h0 D)) s3.heap.objs.size (cellsFrom (s3.heap.objs.size + 1) scope.names (cloFrom X.env.cells scope.names [])) fp D (.ref it)
  have pc := ht D (.ref it) (compEnvC scope (cellsFrom (s3.heap.objs.size + 1) scope.names (cloFrom X.env.cells scope.names [])) s3.heap.objs.size X.env)
  show codeAny _ _ (.compStart e 0 (.ref it) (.ref D) (compEnvC scope (cellsFrom (s3.heap.objs.size + 1) scope.names (cloFrom X.env.cells scope.names [])) s3.heap.objs.size X.env)) (compPost (model X.prog X.w) X.A X.xe use Qf (.ref D) s3.heap.objs.size) { s3 with heap := pushCells (s3.heap.push { cls := .type "dict", data := .dict #[] }) scope.names }
  generalize hce : compEnvC scope (cellsFrom (s3.heap.objs.size + 1) scope.names (cloFrom X.env.cells scope.names [])) s3.heap.objs.size X.env = ce at I4 pg pt pn pc ⊢
  have cL : ce.locals = s3.heap.objs.size := by subst hce; rfl
  generalize hH3 : upd H2 D (h0 D) = H3 at I3 I4 pg pt pn f3 lq
  generalize hs4 : ({ s3 with heap := pushCells (s3.heap.push { cls := .type "dict", data := .dict #[] }) scope.names } : Shared) = s4 at I4 ⊢
  have t4 : tn 0 s4.heap := T.keep _ _ _ t3 fun b _ o q1 => by rw [← hs4]; exact pushCells_keeps _ _ _ _ (Heap.get?_push_of_some _ q1)
  have f4 : ∀ b ∈ fp, FpOk (X.blk s3 H3 scope ce fp) [] H3 b := fun b hb =>
    ⟨(f3 b hb).1.1, (I4.ok.exf b hb).1, I4.ok.exfs b hb, .inl hb, fun x c q1 => (I4.ok.exf b hb).2 x c q1, fun p hp => absurd (show p ∈ ([] : List (Addr × Obj)) ++ [] from hp) (by simp)⟩
  have lp : codeAny (model X.prog X.w) X.A (.compLoop e 0 (.ref it) (.ref D) ce) (compPost (model X.prog X.w) X.A X.xe use Qf (.ref D) s3.heap.objs.size) s4 := by
    refine loop_run (Y := X.blk s3 H3 scope ce fp) (aft := fun u => aft D u ce) (Nx := fun H => Q (.ref D) H) rfl hc hk pc T pg pt pn hsub I4 t4 f4 ?_ fun s6 H5 I6 qq => ?_
    · obtain ⟨W, hm, turn⟩ := lq
      refine ⟨W, hm, fun j k H' w => ?_⟩
      rcases turn j k H' w with z | ⟨z1, Nt, z2, z3⟩
      · exact .inl z
      · refine .inr ⟨z1, Nt, z2, fun x H'' y => ?_⟩
        rw [wipe_wipe]
        exact z3 x H'' y
    · have I7 : Inv X pins σ H5 s6 := I3.call' (ch := fp) I6.os I6.base I6.hok I6.bare fun b hb => ⟨(f3 b hb).1.2.2.2.1, (f3 b hb).1.2.1, (f3 b hb).1.2.2.2.2.1, (f3 b hb).1.2.2.2.2.2⟩
      have nC : H5 s3.heap.objs.size = none := by
        have z : H5 ce.locals = none := I6.free
        rw [cL] at z
        exact z
      obtain ⟨m, hn, _⟩ := I6.loc
      have hn : s6.heap.Ns ce.locals m := hn
      rw [cL] at hn
      exact hRR D s3.heap.objs.size s6 m H5 I7 qq hn (I3.fpOk (Nat.le_refl _) nC)
  refine startC (d := 0) hk (by rw [hcl]; rfl) lp (T.self X.A 0 _ _ _ t4 lp)
end
end Ev

namespace Ev
open PySem PySem.Spec L2 PyProof.Rows

/-! ### sets of texts -/
def textOf (e : Int × Value) : Str := match e.2 with
  | .str x _ => x
  | _ => Str.empty
def IsText (P : Program) (w : World) (e : Int × Value) : Prop := ∃ x u, e.2 = Value.str x u ∧ e.1 = (PySem.strKind P w).hash x
/-- the set of texts at a: L its members, each once -/
def SetX (P : Program) (w : World) (h : Heap) (a : Addr) (L : List Str) : Prop := ∃ o es ep t, h.get? a = some o ∧ o.ExactSet ∧ o.data = .set es ep t ∧
  (∀ e ∈ es.toList, IsText P w e) ∧ (es.toList.map textOf).Perm L ∧ L.Nodup ∧ L.length < scanBound ∧ t.fits es.size = true ∧ Ris t.place.toList ∧ (w.params.followText "set-order" = true ∨ t.led = true)
section
variable {P : Program} {w : World} {h h' : Heap} {a : Addr} {L : List Str} {A : Around} {E : Value → Shared → Prop} {s : Shared}
theorem SetX.at (R : SetX P w h a L) (k : ∀ o, h.get? a = some o → h'.get? a = some o) : SetX P w h' a L := by
  obtain ⟨o, es, ep, t, ho, r⟩ := R
  exact ⟨o, es, ep, t, k o ho, r⟩
theorem texts_elems {l : List (Int × Value)} (g : ∀ e ∈ l, IsText P w e) : ElemsOf (PySem.strKind P w) l := fun e he => by
  obtain ⟨x, u, h1, h2⟩ := g e he
  exact ⟨⟨x, by rw [h1]; exact PySem.strKind_is _ _ _ _, h2⟩, by rw [h1] <;> rfl⟩
theorem text_is {e : Int × Value} (g : IsText P w e) (x : Str) : (PySem.strKind P w).is x e.2 = true ↔ textOf e = x := by
  obtain ⟨y, u, h1, _⟩ := g
  unfold textOf
  rw [h1]
  constructor
  · intro q
    exact (PySem.strKind P w).inj _ _ _ (PySem.strKind_is P w y u) q
  · rintro rfl
    exact PySem.strKind_is P w _ u
theorem SetX.size {es : Array (Int × Value)} (pm : (es.toList.map textOf).Perm L) : es.size = L.length := by
  rw [← pm.length_eq, List.length_map, Array.length_toList]
theorem SetX.setOf (R : SetX P w h a L) : h.SetOf (PySem.strKind P w) a (fun x => decide (x ∈ L)) L.length := by
  obtain ⟨o, es, ep, t, ho, hx, hd, g, pm, nd, hb, hf, _⟩ := R
  have hz := SetX.size pm
  refine ⟨o, es, ep, t, ho, hx, hd, texts_elems g, fun x => ?_, by rw [hz]; exact hb, hf, hz⟩
  rw [decide_eq_true_eq, ← pm.mem_iff, List.mem_map]
  exact ⟨fun ⟨e, he, q⟩ => ⟨e, he, (text_is (g e he) x).2 q⟩, fun ⟨e, he, q⟩ => ⟨e, he, (text_is (g e he) x).1 q⟩⟩
theorem setX_fresh (h : Heap) : SetX P w (h.push { cls := .type "set", dict := none, data := .set #[] 0 (.fresh 0 0 (!w.params.followText "set-order")) }) h.objs.size [] := by
  refine ⟨_, #[], 0, _, Heap.get?_push_size _ rfl, ⟨rfl, rfl, rfl⟩, rfl, fun e he => by simp at he, by simp, .nil, by decide, by rfl, List.Pairwise.nil, ?_⟩
  show _ ∨ (!w.params.followText "set-order") = true
  cases w.params.followText "set-order" <;> simp
theorem setX_tail {gv : Bool → Sem Unit} (hg : ∀ (b : Bool) (s1 : Shared) (Q' : Unit → Shared → Prop), Q' () s1 → wpAny (model P w) A (gv b) Q' E s1)
    {o : Obj} {es : Array (Int × Value)} {ep : Nat} {t : SetTable} (ho : s.heap.get? a = some o) (hx : o.ExactSet) (hd : o.data = .set es ep t)
    {es1 : Array (Int × Value)} {t2 : SetTable} (g1 : ∀ e ∈ es1.toList, IsText P w e) (p1 : (es1.toList.map textOf).Perm L) (nd : L.Nodup) (hb : L.length < scanBound)
    (hf2 : t2.fits es1.size = true) (hr : Ris t2.place.toList) (hl : w.params.followText "set-order" = true ∨ t2.led = true) {wasDummy : Bool} {R : Option Bool → Shared → Prop}
    (hR : ∀ h', Heap.SameBut a s.heap h' → SetX P w h' a L → R (some true) { s with heap := h' }) :
    wpAny (model P w) A (do
        storeSet a es1 t2
        if (!wasDummy && t2.tooFull) = true then do
            gv (relayAll t2 es1 (SetTable.grown es1.size)).2.2
            storeSet a (relayAll t2 es1 (SetTable.grown es1.size)).1 (relayAll t2 es1 (SetTable.grown es1.size)).2.1
            pure (some true)
          else pure (some true)) R E s := by
  have z1 := SetX.size p1
  refine wpAny_bind (wpAny_storeSet_of ho hd ?_ (fits_of_scanBound (by rw [z1]; exact hb)))
  have q1 := store_at (es' := es1) (t' := t2) ho hd
  have sb := Heap.SameBut.update s.heap a (Obj.putSet es1 t2)
  split
  · have pm := relayAll_perm t2 es1 (SetTable.grown es1.size)
    have f3 := relayAll_fits t2 es1 (SetTable.grown es1.size)
    have r3 := relayAll_ris t2 es1 (SetTable.grown es1.size)
    have l3 := relayAll_led t2 es1 (SetTable.grown es1.size)
    generalize relayAll t2 es1 (SetTable.grown es1.size) = Z at pm f3 r3 l3 ⊢
    obtain ⟨es2, t3, gave⟩ := Z
    dsimp only at pm f3 r3 l3 ⊢
    have p2 : (es2.toList.map textOf).Perm L := (pm.map textOf).trans p1
    have z2 := SetX.size p2
    refine wpAny_bind (hg _ _ _ (wpAny_bind (wpAny_storeSet_of q1 rfl ?_ (fits_of_scanBound (by rw [z2]; exact hb)))))
    have q2 := store_at (es' := es2) (t' := t3) q1 rfl
    exact wpAny_pure (hR _ (sb.trans (Heap.SameBut.update _ a _)) ⟨_, es2, _, t3, q2, hx, rfl, fun e he => g1 e (pm.mem_iff.mp he), p2, nd, hb, f3, r3, hl.imp id fun z => by rw [l3]; exact z⟩)
  · exact wpAny_pure (hR _ sb ⟨_, es1, _, t2, q1, hx, rfl, g1, p1, nd, hb, hf2, hr, hl⟩)
def addT (L : List Str) (x : Str) : List Str := if x ∈ L then L else L ++ [x]
theorem setX_hashed {x : Str} {u : Tok} {Q : Bool → Shared → Prop} (R : SetX P w s.heap a L) (rm : L.length + 1 < scanBound)
    (hQ : ∀ h', Heap.SameBut a s.heap h' → SetX P w h' a (addT L x) → ∀ b, Q b { s with heap := h' }) :
    wpAny (model P w) A (setAddHashed a (.str x u) ((PySem.strKind P w).hash x)) Q E s := by
  obtain ⟨o, es, ep, t, ho, hx, hd, g, pm, nd, hb, hf, hr, hl⟩ := R
  have hkey : (PySem.strKind P w).is x (.str x u) = true := PySem.strKind_is P w x u
  have hsc : (Value.str x u).scannable = true := rfl
  have hel : ElemsOf (PySem.strKind P w) es.toList := texts_elems g
  have hz := SetX.size pm
  unfold setAddHashed setAddHashedIn
  refine wpAny_holding (wpAny_bind (wpAny_setState_of ho hd hf ?_))
  dsimp only
  rw [byScan_of hsc (by rw [hz]; exact hb) hel]
  simp only [↓reduceIte]
  unfold setAddByScan
  refine wpAny_bind (wpAny_bind (wpAny_rule (wpAny_bind (wpAny_setScan_of hkey ho hd hf hel ?_))))
  cases hfi : List.findIdx? (fun e => (PySem.strKind P w).is x e.2) es.toList with
  | some j =>
    dsimp only
    obtain ⟨hj, pj, _⟩ := List.findIdx?_eq_some_iff_getElem.mp hfi
    have hin : x ∈ L := pm.mem_iff.mp (List.mem_map.mpr ⟨_, List.getElem_mem hj, (text_is (g _ (List.getElem_mem hj)) x).1 pj⟩)
    refine wpAny_pure (wpAny_pure (hQ s.heap (Heap.SameBut.refl a s.heap) ?_ _))
    rw [addT, if_pos hin]
    exact ⟨o, es, ep, t, ho, hx, hd, g, pm, nd, hb, hf, hr, hl⟩
  | none =>
    dsimp only
    have hnx : x ∉ L := fun z => by
      obtain ⟨e, he, q⟩ := List.mem_map.mp (pm.mem_iff.mpr z)
      have c := List.findIdx?_eq_none_iff.mp hfi e he
      rw [(text_is (g e he) x).2 q] at c
      cases c
    have hgw : ∀ (b : Bool) {s1 : Shared} {Q' : Unit → Shared → Prop}, Q' () s1 → wpAny (model P w) A (match b with | true => rule "set.scan.the-table-gave-way" | false => pure ()) Q' E s1 :=
      fun b s1 Q' q => by cases b <;> first | exact wpAny_pure q | exact wpAny_rule q
    have pl := layNew_perm t es ((PySem.strKind P w).hash x) (.str x u)
    have hf1 := layNew_fits t es ((PySem.strKind P w).hash x) (.str x u)
    have hr1 := layNew_ris t es ((PySem.strKind P w).hash x) (.str x u) hr
    have hl1 := layNew_led t es ((PySem.strKind P w).hash x) (.str x u)
    generalize layNew t es ((PySem.strKind P w).hash x) (.str x u) = Z at pl hf1 hr1 hl1 ⊢
    obtain ⟨es1, t1, wd, gave⟩ := Z
    dsimp only at pl hf1 hr1 hl1 ⊢
    rw [Array.toList_push] at pl
    have g1 : ∀ e ∈ es1.toList, IsText P w e := fun e he => by
      rcases List.mem_append.mp (pl.mem_iff.mp he) with z | z
      · exact g e z
      · rw [List.mem_singleton.mp z]; exact ⟨x, u, rfl, rfl⟩
    have p1 : (es1.toList.map textOf).Perm (L ++ [x]) := by
      have q := pl.map textOf
      rw [List.map_append] at q
      exact q.trans (pm.append (List.Perm.refl [x]))
    have nd1 : (L ++ [x]).Nodup := by
      rw [(List.perm_append_singleton x L).nodup_iff]
      exact List.nodup_cons.mpr ⟨hnx, nd⟩
    have hb1 : (L ++ [x]).length < scanBound := by rw [List.length_append]; exact rm
    have hled : w.params.followText "set-order" = true ∨ t1.led = true := hl.imp id fun z => by rw [hl1]; exact z
    have fin : ∀ h', Heap.SameBut a s.heap h' → SetX P w h' a (L ++ [x]) → Q true { s with heap := h' } := fun h' sb r => hQ h' sb (by rw [addT, if_neg hnx]; exact r) _
    have gOk : ∀ (b : Bool) (s1 : Shared) (Q' : Unit → Shared → Prop), Q' () s1 → wpAny (model P w) A (match b with | true => rule "set.scan.the-table-gave-way" | false => pure ()) Q' E s1 := fun b s1 Q' q => hgw b q
    refine wpAny_bind (hgw _ ?_)
    split
    · refine wpAny_bind ?_
      rw [hashByValue_scannable 8 hsc]
      refine wpAny_pure (setX_tail gOk ho hx hd g1 p1 nd1 hb1 ?_ ?_ ?_ ?_)
      · first | (split <;> first | exact hf1 | exact SetTable.fits_plain_off hf1) | exact hf1
      · first | (split <;> exact hr1) | exact hr1
      · first | (split <;> exact hled) | exact hled
      · intro h' sb r; exact wpAny_pure (fin h' sb r)
    · refine wpAny_bind (wpAny_pure ?_)
      simp only [↓reduceIte]
      exact setX_tail gOk ho hx hd g1 p1 nd1 hb1 hf1 hr1 hled fun h' sb r => wpAny_pure (fin h' sb r)
theorem setX_add {x : Str} {u : Tok} {Q : Value → Shared → Prop} (R : SetX P w s.heap a L) (rm : L.length + 1 < scanBound)
    (hQ : ∀ h', Heap.SameBut a s.heap h' → SetX P w h' a (addT L x) → Q .none { s with heap := h', toks := s.toks + 1 }) :
    wpAny (model P w) A (call (.builtin "set.add") [.ref a, .str x u]) Q E s := by
  have hS := R.setOf
  refine wpAny_call_entry F.slot_set_add hS.typeIs F.entry_set_add ?_ (F.args_set_add_2 _ _)
  unfold Builtin.«set.add» Builtin.Frozenset.oneOther
  simp only [List.isEmpty_nil, bind_assoc]
  unfold Builtin.Frozenset.addrOf setAdd
  refine wpAny_bind (wpAny_pure ?_)
  try dsimp only
  refine wpAny_bind (wpAny_pure ?_)
  try dsimp only
  refine wpAny_bind (wpAny_holding (wpAny_bind ((PySem.strKind P w).pyHash (PySem.strKind_is P w x u) ?_)))
  refine setX_hashed (s := { s with toks := s.toks + 1 }) R rm fun h' sb r b => ?_
  show wpAny _ _ (ret Value.none) _ _ _
  exact wpAny_pure ⟨_, rfl, hQ h' sb r⟩
/-! sorted -/
theorem strs_texts : ∀ (l : List Value), (∀ v ∈ l, ∃ x u, v = Value.str x u) → StrsAre l (l.map fun v => match v with | .str x _ => x | _ => Str.empty)
  | [], _ => .nil
  | v :: l, h => by
    obtain ⟨x, u, rfl⟩ := h v List.mem_cons_self
    exact .cons x u (strs_texts l fun z hz => h z (List.mem_cons_of_mem _ hz))
theorem setX_sorted {Q : Value → Shared → Prop} (R : SetX P w s.heap a L) (hh : A.handled = none)
    (hQ : ∀ s' p (out : Array Value) (c : Nat) (ss : List Str), (∀ b o, s.heap.get? b = some o → s'.heap.get? b = some o) → s'.gens = s.gens → s'.os = s.os → s.heap.objs.size ≤ p →
      s'.heap.get? p = some (seqObj "list" out c) → StrsAre out.toList ss → ss.Perm L → sortedS ss = true → Q (.ref p) s') :
    wpAny (model P w) A (call (.builtin "sorted") [.ref a]) Q E s := by
  obtain ⟨o, es, ep, t, ho, hx, hd, g, pm, nd, hb, hf, hr, hl⟩ := R
  have hz := SetX.size pm
  refine Calls.call_function_entry kind_sorted plain_sorted entry_sorted (args_sorted1 _) ?_
  unfold Builtin.«sorted»
  refine wpAny_bind (m := checkCount "sorted" 1 1 _) (wpAny_pure ?_)
  refine wpAny_bind (collect_set (A := A.in1) hh ⟨o, ho, hx.1, hd⟩ hf (by rw [hz]; exact hb) hr hl fun s1 vs k1 hz1 g1 o1 pv => ?_)
  have hvl : vs.length = L.length := by rw [pv.length_eq, List.length_map, Array.length_toList]; exact hz
  have hI := strs_texts vs fun v hv => by
    obtain ⟨e, he, q⟩ := List.mem_map.mp (pv.mem_iff.mp hv)
    obtain ⟨x, u, h1, _⟩ := g e he
    exact ⟨x, u, by rw [← q]; exact h1⟩
  have pk : (vs.map fun v => match v with | .str x _ => x | _ => Str.empty).Perm L := by
    have q := pv.map fun v => match v with | .str x _ => x | _ => Str.empty
    rw [List.map_map] at q
    exact q.trans pm
  have hvz : vs.length ≤ sizeLine := by rw [hvl]; exact fits_of_scanBound hb
  refine wpAny_bind (wpAny_newList ?_ hvz)
  have hoL : (s1.heap.push (seqObj "list" vs.toArray 0)).get? s1.heap.objs.size = some (seqObj "list" vs.toArray 0) := Heap.get?_push_size _ rfl
  refine wpAny_bind (wpAny_holding (wpAny_call_entry slot_list_sort ⟨_, hoL, rfl⟩ entry_list_sort (list_sort_treeKAny strKind_oneLt hoL hI.keysOf (fun v₁ v₂ rest e => keyKind_strs (by rw [← e]; exact hI)) hvz fun st' hp hs => ?_) (args_list_sort _)))
  obtain ⟨ss, a1, a2, a3⟩ := sorted_out_str hI hp hs
  obtain ⟨c, hc⟩ := sortedHeap_at (vs := vs) (out := (arrOf st').map (·.2)) hoL
  refine ⟨_, rfl, wpAny_pure ⟨_, rfl, hQ _ s1.heap.objs.size _ c ss (fun b v q => ?_) g1 o1 hz1 hc a1 (a2.trans pk) a3⟩⟩
  have q := k1 b v q
  have hlt := Heap.lt_size q
  show (sortedHeap (s1.heap.push (seqObj "list" vs.toArray 0)) s1.heap.objs.size vs ((arrOf st').map (·.2))).get? b = some v
  rw [sortedHeap_old (Nat.ne_of_lt hlt) (by rw [size_push']; exact Nat.lt_succ_of_lt hlt)]
  exact Heap.get?_push_of_some _ q
end
end Ev

namespace Ev
open PySem PySem.Spec L2 PyProof.Rows

/-! ### set(xs), xs a list of texts -/
/-- the members, as they come -/
def addTs (L : List Str) : List Str → List Str
  | [] => L
  | x :: xs => addTs (addT L x) xs
theorem addTs_append (L : List Str) : ∀ xs ys, addTs L (xs ++ ys) = addTs (addTs L xs) ys := by
  intro xs
  induction xs generalizing L with
  | nil => intro ys; rfl
  | cons x xs ih => intro ys; exact ih _ ys
theorem addT_length (L : List Str) (x : Str) : (addT L x).length ≤ L.length + 1 := by
  unfold addT
  split
  · omega
  · simp
theorem addTs_length (L : List Str) : ∀ xs, (addTs L xs).length ≤ L.length + xs.length := by
  intro xs
  induction xs generalizing L with
  | nil => exact Nat.le_refl _
  | cons x xs ih =>
    have := ih (addT L x)
    have := addT_length L x
    simp only [addTs, List.length_cons]
    omega
section
variable {P : Program} {w : World} {A : Around} {E : Value → Shared → Prop} {s : Shared}
theorem setX_loop {I : Addr} {fp wr : List Addr} {G : Array GenState → Array GenState → Prop} {n : Nat} {Pv : Nat → Value → Prop} {St : Nat → Shared → Prop} {R : Result → Shared → Prop}
    (W : WalksS P w A.in1 I fp wr G n Pv St) (a : Addr) (ha : a ∉ fp) (xs : List Str) (hn : xs.length = n) (hz : n < 4000) (hv : ∀ i v, Pv i v → ∃ u, v = .str (xs.getD i Str.empty) u) :
    ∀ (k i : Nat) (s : Shared), n - i = k → i ≤ n → St i s → SetX P w s.heap a (addTs [] (xs.take i)) →
      (∀ s', Moved (a :: wr) G s s' → SetX P w s'.heap a (addTs [] xs) → R (.ok (.ret .none)) s') → codeAny (model P w) A (.builtin "set.update.loop" ⟨[.ref a, .ref I], []⟩) R s := by
  have haw : a ∉ wr := fun z => ha (W.sub _ z)
  have sub : ∀ b ∈ wr, b ∈ a :: wr := fun b hb => List.mem_cons_of_mem _ hb
  intro k
  induction k with
  | zero =>
    intro i s hk hi st hS hR
    have hin : i = n := by omega
    subst hin
    refine codeAny_builtin F.entry_set_update_loop ?_
    rw [Around.under_plainId F.plain_set_update_loop _]
    show wpAny _ A.in1 (pyNext (.ref I) >>= _) _ _ s
    refine wpAny_bind (W.done s _ _ st fun s1 m1 => ?_)
    refine wpAny_pure (hR s1 (m1.mono sub) ?_)
    rw [List.take_of_length_le (Nat.le_of_eq hn)] at hS
    exact hS.at fun o q => m1.heap a o haw q
  | succ k ih =>
    intro i s hk hi st hS hR
    have hlt : i < n := by omega
    refine codeAny_builtin F.entry_set_update_loop ?_
    rw [Around.under_plainId F.plain_set_update_loop _]
    show wpAny _ A.in1 (pyNext (.ref I) >>= _) _ _ s
    refine wpAny_bind (W.item i s _ _ hlt st fun v s1 pv st1 m1 => ?_)
    obtain ⟨u, rfl⟩ := hv i v pv
    have hS1 : SetX P w s1.heap a (addTs [] (xs.take i)) := hS.at fun o q => m1.heap a o haw q
    show wpAny _ A.in1 (holding [Value.str (xs.getD i Str.empty) u] (setAdd a (.str (xs.getD i Str.empty) u)) >>= _) _ _ s1
    refine wpAny_bind (wpAny_holding ?_)
    unfold setAdd
    refine wpAny_holding (wpAny_bind ((PySem.strKind P w).pyHash (PySem.strKind_is P w (xs.getD i Str.empty) u) ?_))
    have hl : (addTs [] (xs.take i)).length + 1 < scanBound := by
      have z := addTs_length [] (xs.take i)
      rw [List.length_take, List.length_nil] at z
      show _ < 4096
      omega
    refine setX_hashed (s := { s1 with toks := s1.toks + 1 }) hS1 hl fun h2 sb r b => ?_
    have e2 : addT (addTs [] (xs.take i)) (xs.getD i Str.empty) = addTs [] (xs.take (i + 1)) := by
      have hi' : i < xs.length := by omega
      rw [List.take_add_one, addTs_append, List.getElem?_eq_getElem hi', List.getD_eq_getElem?_getD, List.getElem?_eq_getElem hi']
      rfl
    rw [e2] at r
    refine wpAny_pure ⟨plainId_quiet F.plain_set_update_loop _, ih (i + 1) _ (by omega) hlt (W.frame _ s1 _ _ st1 (Nat.le_succ _) fun b hb o q => ?_) r fun s3 m3 r3 => ?_⟩
    · rw [sb.2 b (fun z => ha (by rw [← z]; exact hb))]; exact q
    · refine hR s3 (Moved.trans W.gtrans ((m1.mono sub).then_heap (Nat.le_succ _) fun b o hb q => ?_) m3) r3
      rw [sb.2 b (fun z => hb (by rw [z]; exact List.mem_cons_self))]; exact q
def newSetObj (w : World) : Obj := { cls := .type "set", dict := none, data := .set #[] 0 (.fresh 0 0 (!w.params.followText "set-order")) }
set_option maxHeartbeats 8000000 in
theorem setX_list {l : Addr} {its : Array Value} {xs : List Str} {Q : Value → Shared → Prop} (hh : A.handled = none) (hl : s.heap.IsList l its) (hi : StrsAre its.toList xs) (hz : xs.length < 4000)
    (h : ∀ (h' : Heap) (tk : Nat), SetX P w h' s.heap.objs.size (addTs [] xs) → (∀ b o, s.heap.get? b = some o → h'.get? b = some o) → Q (.ref s.heap.objs.size) { s with heap := h', toks := tk }) :
    wpAny (model P w) A (call (.type "set") [.ref l]) Q E s := by
  obtain ⟨c, tl, hmro⟩ := F.called_set.mro
  have made := F.called_set.made
  have hsub := F.called_set.sub
  refine wpAny_call (codeAny_of_tree ?_)
  show wpAny _ _ (callAny (.type "set") _) _ _ _
  refine wpAny_pure ⟨Code.quiet_builtin _ (by decide +kernel), codeAny_builtin F.entry_type_call ?_⟩
  rw [Around.under_plain (weight_type_call_type "set" [.ref l] []) rfl]
  have b1 := F.called_set.notType
  have b2 := F.called_set.canCreate
  have b3 := F.typeCall_set_1 (.ref l)
  repeat (any_goals (first | assumption | wp_step))
  refine codeAny_mono (L2.code_set_led1 (.ref l) (E := E) (Q₁ := fun v s1 => v = .ref s.heap.objs.size ∧ s1 = { s with heap := s.heap.push (newSetObj w) }) ⟨rfl, rfl⟩) fun r s1 hr => ?_
  cases r with
  | error e => exact hr
  | ok fl =>
    cases fl with
    | ret v =>
      obtain ⟨rfl, rfl⟩ := hr
      have hS : (s.heap.push (newSetObj w)).get? s.heap.objs.size = some (newSetObj w) := Heap.get?_push_size _ rfl
      have hT : Shared.TypeIs { s with heap := s.heap.push (newSetObj w) } (.ref s.heap.objs.size) "set" := ⟨_, hS, rfl⟩
      have b4 := F.called_set.init.lookup
      have b5 := F.called_set.init.bind (.ref s.heap.objs.size)
      repeat (any_goals (first | assumption | wp_step))
      refine codeAny_mono (codeAny_call_builtin (R := wants (fun r s2 => r = .none ∧ ∃ h' tk, s2 = { s with heap := h', toks := tk } ∧ SetX P w h' s.heap.objs.size (addTs [] xs) ∧
          ∀ b o, s.heap.get? b = some o → h'.get? b = some o) E) F.called_set.init.plain F.entry_set_init (check_set_init_1 hT ?_)) fun r2 s2 hr2 => ?_
      · obtain ⟨ol, hol, hcl, nl, hdl⟩ := hl
        obtain ⟨c1, c2, c3, c4⟩ := ol
        simp only at hcl hdl
        subst hcl; subst hdl
        have hol' : (s.heap.push (newSetObj w)).get? l = some { cls := .type "list", dict := c2, data := .seq its nl, slots := c4 } := Heap.get?_push_of_some _ hol
        have n1 := F.sub_list_set
        have n2 := F.sub_list_frozenset
        have n3 : (Value.type "list" == Value.type "dict") = false := by decide
        have hl1 : (s.heap.push (newSetObj w)).IsList l its := ⟨_, hol', rfl, nl, rfl⟩
        unfold Builtin.«set.__init__» noKeywords Builtin.Frozenset.updateFrom
        generalize hPI : pyIter = PI
        wp_walk
        subst hPI
        refine wpAny_pyIter_list hl1 (wpAny_bind (wpAny_runValue ?_))
        have hlS : l < s.heap.objs.size := Heap.lt_size hol
        have hh3 : A.in1.in1.in1.handled = none := by simp [hh]
        have hp : (s.heap.push (newSetObj w)).objs.size = s.heap.objs.size + 1 := Heap.size_push ..
        have hne : l ≠ (s.heap.push (newSetObj w)).objs.size := by rw [hp]; exact Nat.ne_of_lt (Nat.lt_succ_of_lt hlS)
        have hnf : s.heap.objs.size ∉ [(s.heap.push (newSetObj w)).objs.size, l] := by
          intro z
          rcases List.mem_cons.mp z with z | z
          · rw [hp] at z; exact Nat.ne_of_lt (Nat.lt_succ_self _) z
          · exact Nat.ne_of_gt hlS (List.mem_singleton.mp z)
        have hsz : xs.length = its.size := by rw [← StrsAre.len_eq hi, Array.length_toList]
        refine setX_loop ((Walks.list hh3 _ l hne its).toS) s.heap.objs.size hnf xs hsz (by omega) (fun i v hv => SS.strs_at hi i v (by rw [Array.getElem?_toList]; exact hv)) (its.size - 0) 0 _ (by omega) (Nat.zero_le _)
          ⟨⟨_, Heap.get?_push_size _ rfl, rfl, rfl⟩, (hl1.push _)⟩ ?_ ?_
        · exact (setX_fresh s.heap).at fun o q => Heap.get?_push_of_some _ q
        · intro s3 m3 r3
          obtain ⟨g1, g2, g3, g4, g5⟩ := s3
          have e2 : g2 = s.gens := m3.gens
          have e3 : g3 = s.drawn := m3.drawn
          have e5 : g5 = s.os := m3.os
          subst e2; subst e3; subst e5
          show wpAny _ _ _ _ _ _
          refine wpAny_pure ?_
          show wpAny _ _ (ret Value.none) _ _ _
          refine wpAny_pure ⟨rfl, g1, g4, rfl, r3, fun b o q => ?_⟩
          have hb := Heap.lt_size q
          refine m3.heap b o (fun z => ?_) (Heap.get?_push_of_some _ (Heap.get?_push_of_some _ q))
          rcases List.mem_cons.mp z with z | z
          · exact Nat.ne_of_lt hb z
          · have z := List.mem_singleton.mp z
            rw [hp] at z
            exact Nat.ne_of_lt (Nat.lt_succ_of_lt hb) z
      · cases r2 with
        | error e => exact hr2
        | ok fl2 =>
          cases fl2 with
          | ret v =>
            obtain ⟨rfl, h', tk, rfl, r3, hk⟩ := hr2
            repeat (any_goals (first | assumption | wp_step))
            exact h _ _ r3 hk
          | _ => exact hr2.elim
    | _ => exact hr.elim
end
end Ev

namespace Ev
open PySem PySem.Spec L2 PyProof.Rows

/-! ### sets of tuples of whole numbers and texts -/
abbrev FK := List L2.Key
abbrev fkh (P : Program) (w : World) (q : FK) : Int := tupleKeyHash (mixKind P w) q
abbrev FAt (P : Program) (w : World) (g : Heap) (q : FK) (b : Addr) : Prop := IsTupleKey (mixKind P w) g q b
abbrev rowV (P : Program) (w : World) (m : Addr × FK) : Int × Value := (fkh P w m.2, .ref m.1)
/-- the set at z: its members R as they stand in the table -/
structure TSet (P : Program) (w : World) (g : Heap) (z : Addr) (R : List (Addr × FK)) (ms : Array (Int × Value)) (ep : Nat) (tb : SetTable) : Prop where
  obj : ∃ ob, g.get? z = some ob ∧ ob.ExactSet ∧ ob.data = .set ms ep tb
  row : ms.toList = R.map (rowV P w)
  tab : TabOk tb (R.map fun m => fkh P w m.2)
  one : (R.map (·.2)).Nodup
  ats : ∀ m ∈ R, FAt P w g m.2 m.1
  ldd : w.params.followText "set-order" = true ∨ tb.led = true
  rm : R.length * 5 < tb.mask * 3
  few : R.length < 64
section
variable {P : Program} {w : World} {A : Around} {E : Value → Shared → Prop} {s : Shared} {z : Addr} {R : List (Addr × FK)} {ms : Array (Int × Value)} {ep : Nat} {tb : SetTable}
def FlatV (v : Value) : Prop := (∃ i t, v = Value.int i t) ∨ ∃ x t, v = Value.str x t
theorem flat_items {q : FK} {vs : List Value} (h : ItemsAre (mixKind P w) q vs) : ∀ v ∈ vs, FlatV v := by
  induction h with
  | nil => intro v hv; cases hv
  | @cons k0 u ks us e _ ih =>
    intro v hv
    rcases List.mem_cons.mp hv with rfl | hv
    · rcases keyIs_shape (k := k0) (v := v) e with ⟨i, t, _, e⟩ | ⟨x, t, _, e⟩
      · exact .inl ⟨i, t, e⟩
      · exact .inr ⟨x, t, e⟩
    · exact ih v hv
theorem flat_cls (n : Nat) {v : Value} (h : FlatV v) : ofAClassStatement n v = pure false := by
  rcases h with ⟨i, t, rfl⟩ | ⟨x, t, rfl⟩ <;> cases n <;> rfl
theorem cls_flat {q : FK} {b : Addr} {Q : Bool → Shared → Prop} (hq : FAt P w s.heap q b) (g : Q false s) : wpAny (model P w) A (ofAClassStatement 8 (.ref b)) Q E s := by
  have ty := hq.typeIs
  obtain ⟨ob, its, c, hob, _, hdt, hit⟩ := hq
  unfold ofAClassStatement
  refine wpAny_bind (wpAny_typeOf ty ?_)
  dsimp only
  simp only [show (("tuple" : String) == "tuple") = true by decide, if_true, Bool.not_true, Bool.false_eq_true, if_false]
  try refine wpAny_bind (wpAny_pure ?_)
  try simp only [Bool.not_true, Bool.false_eq_true, if_false]
  show wpAny _ _ (seqItems? (Value.ref b) >>= _) _ _ s
  refine wpAny_bind (wpAny_seqItems hob hdt ?_)
  dsimp only
  refine wpAny_bind ?_
  show wpAny _ _ (forIn its _ _) _ _ s
  rw [← Array.forIn_toList]
  refine wpAny_forIn_list _ (fun l u s' => u.1 = none ∧ s' = s ∧ ∀ v ∈ l, FlatV v) _ ?_ ?_ _ _ ⟨rfl, rfl, flat_items hit⟩
  · rintro v l u s' ⟨hu, rfl, al⟩
    rw [flat_cls _ (al v List.mem_cons_self)]
    refine wpAny_bind (wpAny_pure ?_)
    simp only [Bool.false_eq_true, if_false]
    exact wpAny_pure ⟨rfl, rfl, fun y hy => al y (List.mem_cons_of_mem _ hy)⟩
  · rintro ⟨u1, u2⟩ s' ⟨hu, rfl, _⟩
    simp only at hu
    subst hu
    exact wpAny_pure g
theorem flat_hby (n : Nat) {v : Value} (h : FlatV v) : ∃ c, hashByValue n v = pure c := by
  rcases h with ⟨i, t, rfl⟩ | ⟨x, t, rfl⟩
  · exact ⟨true, by cases n <;> rfl⟩
  · exact ⟨false, by cases n <;> rfl⟩
theorem hby_flat {q : FK} {b : Addr} {Q : Bool → Shared → Prop} (hq : FAt P w s.heap q b) (g : ∀ c, Q c s) : wpAny (model P w) A (hashByValue 8 (.ref b)) Q E s := by
  have ty := hq.typeIs
  obtain ⟨ob, its, c, hob, _, hdt, hit⟩ := hq
  unfold hashByValue
  refine wpAny_bind (wpAny_specialOf ty F.slot_tuple_hash.lookup ?_)
  show wpAny _ _ (seqItems? (Value.ref b) >>= _) _ _ s
  refine wpAny_bind (wpAny_seqItems hob hdt ?_)
  refine wpAny_bind ?_
  show wpAny _ _ (forIn its _ _) _ _ s
  rw [← Array.forIn_toList]
  refine wpAny_forIn_list _ (fun l u s' => (u.1 = none ∨ u.1 = some false) ∧ s' = s ∧ ∀ v ∈ l, FlatV v) _ ?_ ?_ _ _ ⟨.inl rfl, rfl, flat_items hit⟩
  · rintro v l u s' ⟨hu, rfl, al⟩
    obtain ⟨d, hd⟩ := flat_hby 7 (al v List.mem_cons_self)
    rw [hd]
    refine wpAny_bind (wpAny_pure ?_)
    cases d with
    | true =>
      simp only [Bool.not_true, Bool.false_eq_true, if_false]
      exact wpAny_pure ⟨.inl rfl, rfl, fun y hy => al y (List.mem_cons_of_mem _ hy)⟩
    | false =>
      simp only [Bool.not_false, if_true]
      first
        | exact wpAny_pure (g false)
        | exact wpAny_pure (wpAny_pure (g false))
        | exact wpAny_pure ⟨.inr rfl, rfl, fun y hy => al y (List.mem_cons_of_mem _ hy)⟩
  · rintro ⟨u1, u2⟩ s' ⟨hu, rfl, _⟩
    simp only at hu
    rcases hu with rfl | rfl
    · exact wpAny_pure (g true)
    · exact wpAny_pure (g false)
/-- looking for one among others is not to be seen -/
theorem seen_flat {q : FK} {b : Addr} {Q : Bool → Shared → Prop} (hq : FAt P w s.heap q b) {l : List Value} (hl : ∀ v ∈ l, ∃ q' c, v = Value.ref c ∧ FAt P w s.heap q' c) (g : Q false s) :
    wpAny (model P w) A (searchCouldBeSeen (.ref b) l) Q E s := by
  unfold searchCouldBeSeen
  refine wpAny_bind ?_
  refine wpAny_forIn_list _ (fun l u s' => u.1 = none ∧ s' = s ∧ ∀ v ∈ l, ∃ q' c, v = Value.ref c ∧ FAt P w s.heap q' c) _ ?_ ?_ _ _ ⟨rfl, rfl, hl⟩
  · rintro v l u s' ⟨hu, rfl, al⟩
    obtain ⟨q', c, rfl, hc⟩ := al v List.mem_cons_self
    have al' : ∀ y ∈ l, ∃ q' c, y = Value.ref c ∧ FAt P w s'.heap q' c := fun y hy => al y (List.mem_cons_of_mem _ hy)
    dsimp only
    by_cases same : (b == c || (carriedByValue (.ref b) && carriedByValue (.ref c))) = true
    · refine wp_if_pos same ?_
      exact wpAny_pure ⟨rfl, rfl, al'⟩
    · refine wp_if_neg same ?_
      refine wpAny_bind (wpAny_eqIsQuiet_tuple hq ?_)
      simp only [Bool.not_true, Bool.false_eq_true, if_false]
      refine wpAny_bind (wpAny_eqIsQuiet_tuple hc ?_)
      simp only [Bool.not_true, Bool.false_eq_true, if_false]
      refine wpAny_bind (cls_flat hq ?_)
      simp only [Bool.false_eq_true, if_false]
      refine wpAny_bind (cls_flat hc ?_)
      simp only [Bool.false_eq_true, if_false]
      exact wpAny_pure ⟨rfl, rfl, al'⟩
  · rintro ⟨u1, u2⟩ s' ⟨hu, rfl, _⟩
    simp only at hu
    subst hu
    exact wpAny_pure g

theorem rows_len (e : ms.toList = R.map (rowV P w)) : ms.size = R.length := by
  have q := congrArg List.length e
  rwa [Array.length_toList, List.length_map] at q
theorem rows_at (e : ms.toList = R.map (rowV P w)) {i : Nat} {m : Addr × FK} (h : R[i]? = some m) : ms[i]? = some (rowV P w m) := by
  rw [← Array.getElem?_toList, e, List.getElem?_map, h]
  rfl
theorem TSet.size (T : TSet P w s.heap z R ms ep tb) : ms.size = R.length := rows_len T.row
theorem TSet.fit (T : TSet P w s.heap z R ms ep tb) : tb.fits ms.size = true := by
  have a1 := T.tab.sz
  rw [List.length_map] at a1
  have a2 := T.size
  have a3 := T.rm
  unfold SetTable.fits SetTable.fill
  rw [T.tab.dm, Bool.and_eq_true, beq_iff_eq, decide_eq_true_eq]
  show tb.place.size = ms.size ∧ tb.place.size + 0 ≤ tb.mask
  omega
theorem TSet.stays (T : TSet P w s.heap z R ms ep tb) : ¬ tb.gaveWay = true := by
  unfold SetTable.gaveWay
  rw [mask_odd T.tab.mok]
  decide
/-- the c-th stop on the way of a hash -/
abbrev stop (tb : SetTable) (y : Int) (c : Nat) : SetTable.Probe := nth tb.mask (runAt tb.mask (SetTable.bits y % (tb.mask + 1)) (SetTable.bits y)) c
theorem stop_dummy (tb : SetTable) (y : Int) (c : Nat) : (stop tb y c).dummy = none := by
  have go : ∀ (n : Nat) (p : SetTable.Probe), p.dummy = none → (nth tb.mask p n).dummy = none := by
    intro n
    induction n with
    | zero => exact fun _ e => e
    | succ n ih => exact fun p e => ih (adv tb.mask p) (by unfold adv; split <;> exact e)
  exact go c _ rfl
theorem stop_add (tb : SetTable) (y : Int) (c d : Nat) : nth tb.mask (stop tb y c) d = stop tb y (c + d) := (nth_add tb.mask c _ d).symm
theorem stop_way (tb : SetTable) (y : Int) (c d : Nat) : (nth tb.mask (stop tb y c) d).j = way tb.mask y (c + d) := congrArg SetTable.Probe.j (stop_add tb y c d)
/-- the search from the c-th stop on: N is the first free one -/
theorem look_on (T : TSet P w s.heap z R ms ep tb) {b : Addr} {q : FK} (hb : FAt P w s.heap q b) (hu : A.units < cLine) {N : Nat} (hN : N < 10 * SetTable.turns tb.mask) (hfree : way tb.mask (fkh P w q) N ∉ tb.place.toList)
    (hlive : ∀ d, d < N → way tb.mask (fkh P w q) d ∈ tb.place.toList) {Q : SetFound → Shared → Prop} (yes : q ∈ R.map (·.2) → Q (.there none) s) (no : q ∉ R.map (·.2) → Q (.free (way tb.mask (fkh P w q) N) false) s) :
    ∀ (f c : Nat) (st : Option SetTable.Probe), st.getD (tb.probeStart (fkh P w q)) = stop tb (fkh P w q) c → c ≤ N → N - c < f →
      (∀ (i : Nat) m, R[i]? = some m → m.2 = q → ∃ d, c ≤ d ∧ d < N ∧ tb.place.toList[i]? = some (way tb.mask (fkh P w q) d)) →
      wpAny (model P w) A (setSearchFrom z (.ref b) (fkh P w q) true f st) Q E s := by
  intro f
  induction f with
  | zero => exact fun c st _ _ h _ => absurd h (Nat.not_lt_zero _)
  | succ f ih =>
    intro c st hst hc hf ahead
    obtain ⟨ob, hob, hex, hdt⟩ := T.obj
    have hfit := T.fit
    rw [setSearchFrom_succ]
    refine wpAny_bind (wpAny_setState_of hob hdt hfit ?_)
    dsimp only
    refine wp_if_neg T.stays ?_
    try refine wpAny_bind (wpAny_pure ?_)
    generalize hy : fkh P w q = y at *
    have hsh : ∀ (i : Nat) m, R[i]? = some m → ((ms[i]?.map (·.1)).getD 0) = fkh P w m.2 := fun i m hm => by rw [rows_at T.row hm]; rfl
    have found := go_spec tb T.tab.ris T.tab.dm (fun i => (ms[i]?.map (·.1)).getD 0) y (10 * SetTable.turns tb.mask) (N - c) (stop tb y c) (stop_dummy tb y c) (by omega)
      (fun d hd => by rw [stop_way]; exact hlive (c + d) (by omega)) (by rw [stop_way, Nat.add_sub_cancel' hc]; exact hfree)
    rcases found with ⟨d, i, hd, hi, hhi, hnone, hpr⟩ | ⟨hnone, hpr⟩
    · have hpr2 : tb.probe (fun i => (ms[i]?.map (·.1)).getD 0) y (st.getD (tb.probeStart y)) = some (.candidate (way tb.mask y (c + d)) i (stop tb y (c + (d + 1)))) := by
        rw [hst, ← stop_way, ← stop_add]
        exact hpr
      rw [hpr2]
      dsimp only
      rw [stop_way] at hi
      have hlt : i < R.length := by
        have l1 : i < tb.place.toList.length := (List.getElem?_eq_some_iff.mp hi).1
        have l2 := T.tab.sz
        rw [List.length_map] at l2
        rw [Array.length_toList] at l1
        omega
      obtain ⟨m, hm⟩ : ∃ m, R[i]? = some m := ⟨_, List.getElem?_eq_getElem hlt⟩
      have hmem : m ∈ R := List.mem_of_getElem? hm
      have hmt := T.ats m hmem
      have hlv : tb.slot (way tb.mask y (c + d)) = .live i := slot_live T.tab.ris hi
      have onward : wpAny (model P w) A (searchRest z (.ref b) y true f ms tb (way tb.mask y (c + d)) i (stop tb y (c + (d + 1)))) Q E s := by
        unfold searchRest
        rw [rows_at T.row hm]
        dsimp only
        refine wpAny_bind (wpAny_holding (wpAny_eqBool_tuple hu hmt hb ?_))
        refine wpAny_bind (wpAny_setState_of hob hdt hfit ?_)
        dsimp only
        by_cases eqq : m.2 = q
        · refine wp_if_pos (by simp [eqq]) (wpAny_pure (yes ?_))
          exact List.mem_map.mpr ⟨m, hmem, eqq⟩
        · refine wp_if_neg (by simp [eqq]) ?_
          try refine wpAny_bind (wpAny_pure ?_)
          rw [sameMem]
          dsimp only
          simp only [if_true, hlv, rows_at T.row hm]
          refine wpAny_bind (wpAny_isSame_ref_self (wpAny_bind (wpAny_pure ?_)))
          simp only [if_true]
          refine wp_if_neg (by simp [eqq]) (ih (c + (d + 1)) _ rfl (by omega) (by omega) fun i0 m0 h0 e0 => ?_)
          obtain ⟨d0, b1, b2, b3⟩ := ahead i0 m0 h0 e0
          refine ⟨d0, ?_, b2, b3⟩
          rcases Nat.lt_trichotomy d0 (c + d) with lt | eq | gt
          · refine absurd ((hsh i0 m0 h0).trans (by rw [e0, hy])) (hnone (d0 - c) i0 (by omega) ?_)
            rw [stop_way, Nat.add_sub_cancel' b1]
            exact b3
          · subst eq
            have two := slot_live T.tab.ris b3
            rw [hlv] at two
            injection two with two
            rw [← two, hm] at h0
            exact absurd ((congrArg Prod.snd (Option.some.inj h0)).trans e0) eqq
          · omega
      by_cases hled : tb.led = true
      · refine wp_if_neg (by simp [hled]) ?_
        try refine wpAny_bind (wpAny_pure ?_)
        exact onward
      · refine wp_if_pos (by simp [hled]) (wpAny_bind (seen_flat hb (fun v hv => ?_) ?_))
        · obtain ⟨u, hu1, hu2⟩ := List.mem_map.mp hv
          have hu3 : u ∈ ms ∧ u.1 = y := by simpa using hu1
          have hu4 : u ∈ ms.toList := by simpa using hu3.1
          rw [T.row] at hu4
          obtain ⟨m2, hm2, e2⟩ := List.mem_map.mp hu4
          exact ⟨m2.2, m2.1, by rw [← hu2, ← e2], T.ats m2 hm2⟩
        · refine wp_if_neg (by decide) ?_
          try refine wpAny_bind (wpAny_pure ?_)
          exact onward
    · have hpr2 : tb.probe (fun i => (ms[i]?.map (·.1)).getD 0) y (st.getD (tb.probeStart y)) = some (.empty (way tb.mask y N) none) := by
        have e2 : way tb.mask y N = (nth tb.mask (stop tb y c) (N - c)).j := by rw [stop_way, Nat.add_sub_cancel' hc]
        rw [hst, e2]
        exact hpr
      rw [hpr2]
      dsimp only
      refine wpAny_pure (no fun hq => ?_)
      obtain ⟨m0, h0, e0⟩ := List.mem_map.mp hq
      obtain ⟨i0, hi0, ei⟩ := List.getElem_of_mem h0
      have h00 : R[i0]? = some m0 := by rw [List.getElem?_eq_getElem hi0, ei]
      obtain ⟨d0, b1, b2, b3⟩ := ahead i0 m0 h00 e0
      refine hnone (d0 - c) i0 (by omega) (by rw [stop_way, Nat.add_sub_cancel' b1]; exact b3) ?_
      exact (hsh i0 m0 h00).trans (by rw [e0, hy])
theorem look_at (T : TSet P w s.heap z R ms ep tb) {b : Addr} {q : FK} (hb : FAt P w s.heap q b) (hu : A.units < cLine) {Q : SetFound → Shared → Prop} (yes : q ∈ R.map (·.2) → Q (.there none) s)
    (no : ∀ N, q ∉ R.map (·.2) → way tb.mask (fkh P w q) N ∉ tb.place.toList → (∀ d, d < N → way tb.mask (fkh P w q) d ∈ tb.place.toList) → Q (.free (way tb.mask (fkh P w q) N) false) s) :
    wpAny (model P w) A (setSearch z (.ref b) (fkh P w q) true) Q E s := by
  have hrm := T.rm
  obtain ⟨N, n1, n2, n3⟩ := T.tab.first (by rw [List.length_map]; omega) (fkh P w q)
  have small : 10 * SetTable.turns tb.mask ≤ 1420 := by
    unfold SetTable.turns
    rcases T.tab.mok with e | e | e <;> omega
  unfold setSearch
  refine look_on T hb hu n1 n2 n3 yes (fun hn => no N hn n2 n3) 100000 0 none rfl (Nat.zero_le _) (by omega) fun i m hm em => ?_
  have e1 : (R.map fun m => fkh P w m.2)[i]? = some (fkh P w q) := by rw [List.getElem?_map, hm, ← em]; rfl
  have l1 : i < tb.place.toList.length := by
    have a1 : i < R.length := (List.getElem?_eq_some_iff.mp hm).1
    have a2 := T.tab.sz
    rw [List.length_map] at a2
    rw [Array.length_toList]
    omega
  have e2 := List.getElem?_eq_getElem l1
  obtain ⟨d, hd, e3⟩ := T.tab.before n2 e1 e2
  exact ⟨d, Nat.zero_le _, hd, by rw [e2, e3]⟩
/-! adding -/
theorem flat_same {g g' : Heap} {q : FK} {b : Addr} {ob : Obj} (hb : FAt P w g q b) (ho : g.get? z = some ob) (hd : ob.data = .set ms ep tb) (sb : Heap.SameBut z g g') : FAt P w g' q b := by
  obtain ⟨o2, its, c, h1, h2, h3, h4⟩ := hb
  have ne : b ≠ z := by
    rintro rfl
    cases h1.symm.trans ho
    rw [hd] at h3
    cases h3
  exact ⟨o2, its, c, (sb.2 b ne).trans h1, h2, h3, h4⟩
theorem pick_rows (e : ms.toList = R.map (rowV P w)) (ord : Array Nat) (hp : ord.toList.Perm (List.range R.length)) :
    ∃ R2 : List (Addr × FK), (ord.filterMap (ms[·]?)).toList = R2.map (rowV P w) ∧ R2.Perm R ∧ (R2.map fun m => fkh P w m.2) = ord.toList.map fun i => (ms.map (·.1)).getD i 0 := by
  have sz := rows_len e
  have go : ∀ l : List Nat, (∀ i ∈ l, i < R.length) → ∃ R2 : List (Addr × FK), l.filterMap (fun i => ms[i]?) = R2.map (rowV P w) ∧ R2 = l.filterMap (fun i => R[i]?) ∧ (R2.map fun m => fkh P w m.2) = l.map fun i => (ms.map (·.1)).getD i 0 := by
    intro l
    induction l with
    | nil => exact fun _ => ⟨[], rfl, rfl, rfl⟩
    | cons i l ih =>
      intro hl
      have hi := hl i List.mem_cons_self
      have at1 := List.getElem?_eq_getElem hi
      have at2 := rows_at e at1
      obtain ⟨R2, c1, c2, c3⟩ := ih fun j hj => hl j (List.mem_cons_of_mem _ hj)
      refine ⟨R[i] :: R2, ?_, ?_, ?_⟩
      · rw [List.filterMap_cons_some at2, c1]; rfl
      · rw [List.filterMap_cons_some at1, c2]
      · rw [List.map_cons, List.map_cons, c3]
        have at3 : (ms.map (·.1))[i]? = some (fkh P w (R[i]).2) := by rw [Array.getElem?_map, at2]; rfl
        simp [Array.getD_eq_getD_getElem?, at3]
  obtain ⟨R2, c1, c2, c3⟩ := go ord.toList fun i hi => List.mem_range.mp (hp.mem_iff.mp hi)
  refine ⟨R2, by first | (rw [Array.toList_filterMap]; exact c1) | simpa using c1, ?_, c3⟩
  have whole : ∀ n, n ≤ R.length → (List.range n).filterMap (fun i => R[i]?) = R.take n := by
    intro n
    induction n with
    | zero => exact fun _ => rfl
    | succ n ih =>
      intro hn
      rw [List.range_succ, List.filterMap_append, ih (Nat.le_of_lt hn), List.take_succ, List.getElem?_eq_getElem (show n < R.length from hn)]
      rw [List.filterMap_cons_some (List.getElem?_eq_getElem (show n < R.length from hn))]; rfl
  have e3 := hp.filterMap fun i => R[i]?
  rw [whole R.length (Nat.le_refl _), List.take_length] at e3
  rw [c2]; exact e3
theorem laid_anew {ob : Obj} (ho : s.heap.get? z = some ob) (hx : ob.ExactSet) (hd : ob.data = .set ms ep tb) (hr : ms.toList = R.map (rowV P w)) (hsz : tb.place.size = ms.size) (hdm : tb.dummies = #[]) (hfl : ms.size ≤ tb.mask)
    (one : (R.map (·.2)).Nodup) (ats : ∀ m ∈ R, FAt P w s.heap m.2 m.1) (ldd : w.params.followText "set-order" = true ∨ tb.led = true) (few : R.length < 64) {wt M : Nat}
    (hw : SetTable.sizeAbove wt - 1 = M) (hM : MaskOk M) (hw2 : SetTable.sizeAbove wt ≤ 128) (hn : R.length * 5 < M * 3) {Q : Unit → Shared → Prop}
    (hQ : ∀ g R2 ms2 ep2 tb2, Heap.SameBut z s.heap g → TSet P w g z R2 ms2 ep2 tb2 → R2.Perm R → Q () { s with heap := g }) : wpAny (model P w) A (setRelay z wt) Q E s := by
  have hl := rows_len hr
  have fit : tb.fits ms.size = true := by
    unfold SetTable.fits SetTable.fill
    rw [hdm, Bool.and_eq_true, beq_iff_eq, decide_eq_true_eq]
    show tb.place.size = ms.size ∧ tb.place.size + 0 ≤ tb.mask
    omega
  obtain ⟨tb2, ord, e, hp, T2, em, el, epl, ed⟩ := relaid_ok tb (hs := ms.map (·.1)) (wanted := wt) hw hM (by rw [Array.size_map, hl]; omega)
  rw [Array.size_map, hl] at hp
  obtain ⟨R2, r1, r2, r3⟩ := pick_rows hr ord hp
  rw [← r3] at T2
  have hs2 : (ord.filterMap (ms[·]?)).size = ms.size := by rw [rows_len r1, r2.length_eq, hl]
  rw [setRelay_eq]
  refine wpAny_bind (wpAny_setState_of ho hd fit ?_)
  dsimp only
  refine wp_if_neg (by rw [sizeLine_eq]; omega) ?_
  try refine wpAny_bind (wpAny_pure ?_)
  rw [e]
  dsimp only
  refine wpAny_bind (wp_if_neg (by rw [hs2]; simp) ?_)
  try refine wpAny_bind (wpAny_pure ?_)
  refine wpAny_pure ?_
  dsimp only
  refine wpAny_storeSet_of ho hd ?_ (by rw [hs2, hl, sizeLine_eq]; omega)
  have sb := Heap.SameBut.update s.heap z (Obj.putSet (ord.filterMap (ms[·]?)) tb2)
  refine hQ _ R2 (ord.filterMap (ms[·]?)) (ep + 1) tb2 sb ⟨⟨_, store_at ho hd, ⟨hx.1, hx.2.1, hx.2.2⟩, rfl⟩, r1, T2, (r2.map (·.2)).nodup_iff.mpr one, fun m hm => flat_same (ats m (r2.mem_iff.mp hm)) ho hd sb, by rw [el]; exact ldd, ?_, by rw [r2.length_eq]; exact few⟩ r2
  rw [r2.length_eq, em]
  exact hn
/-- behind the search: it is laid in -/
theorem put_end {ob : Obj} (hob : s.heap.get? z = some ob) (hex : ob.ExactSet) (hdt : ob.data = .set ms ep tb) (sz : ms.size = R.length) (T : TSet P w s.heap z R ms ep tb) {b : Addr} {q : FK} (hb : FAt P w s.heap q b) (hfew : R.length + 1 < 64) (hout : q ∉ R.map (·.2))
    {R1 : List (Addr × FK)} {ms1 : Array (Int × Value)} {tb1 : SetTable} (r1 : ms1.toList = R1.map (rowV P w)) (pm : R1.Perm ((b, q) :: R)) (p3 : TabOk tb1 (R1.map fun m => fkh P w m.2)) (one1 : (R1.map (·.2)).Nodup) (p4 : tb1.mask = tb.mask) (p5 : tb1.led = tb.led) (p9 : tb1.fill = (R.map fun m => fkh P w m.2).length + 1) {Q : Bool → Shared → Prop}
    (hQ : ∀ v g R2 ms2 ep2 tb2, Heap.SameBut z s.heap g → TSet P w g z R2 ms2 ep2 tb2 → (q ∈ R.map (·.2) → R2 = R) → (q ∉ R.map (·.2) → R2.Perm ((b, q) :: R)) → Q v { s with heap := g }) :
    wpAny (model P w) A (do
      storeSet z ms1 tb1
      if (!false && tb1.tooFull) = true then do
        setRelay z (SetTable.grown (ms.size + 1))
        pure true
      else pure true) Q E s := by
  have hrm := T.rm
  have len1 : R1.length = R.length + 1 := pm.length_eq
  have sz1 := rows_len r1
  rw [len1] at sz1
  refine wpAny_bind (wpAny_storeSet_of hob hdt ?_ (by rw [sz1, sizeLine_eq]; omega))
  have sb := Heap.SameBut.update s.heap z (Obj.putSet ms1 tb1)
  have ob1 := store_at (es' := ms1) (t' := tb1) hob hdt
  generalize s.heap.update z (Obj.putSet ms1 tb1) = g1 at sb ob1 ⊢
  have ats1 : ∀ m ∈ R1, FAt P w g1 m.2 m.1 := fun m hm => by
    rcases List.mem_cons.mp (pm.mem_iff.mp hm) with rfl | hm
    · exact flat_same hb hob hdt sb
    · exact flat_same (T.ats m hm) hob hdt sb
  have ldd1 : w.params.followText "set-order" = true ∨ tb1.led = true := by rw [p5]; exact T.ldd
  by_cases full : tb1.tooFull = true
  · refine wp_if_pos (by simp [full]) (wpAny_bind ?_)
    have ful : (R.length + 1) * 5 ≥ tb1.mask * 3 := by
      have f1 := full
      unfold SetTable.tooFull at f1
      rw [decide_eq_true_eq, p9, List.length_map] at f1
      exact f1
    rw [sz]
    have psz : tb1.place.size = ms1.size := by
      have f2 := p3.sz
      rw [List.length_map, len1] at f2
      rw [f2, sz1]
    have two : (tb.mask = 7 ∧ R.length = 4) ∨ (tb.mask = 31 ∧ R.length = 18) := by
      rcases T.tab.mok with e | e | e
      · left; rw [p4, e] at ful; rw [e] at hrm; exact ⟨e, by omega⟩
      · right; rw [p4, e] at ful; rw [e] at hrm; exact ⟨e, by omega⟩
      · exfalso; rw [p4, e] at ful; omega
    have go : ∀ M, SetTable.sizeAbove (SetTable.grown (R.length + 1)) - 1 = M → MaskOk M → SetTable.sizeAbove (SetTable.grown (R.length + 1)) ≤ 128 → (R.length + 1) * 5 < M * 3 →
        wpAny (model P w) A (setRelay z (SetTable.grown (R.length + 1))) (fun _ s' => wpAny (model P w) A (pure true) Q E s') E { s with heap := g1 } := fun M m1 m2 m3 m4 => by
      refine laid_anew (s := { s with heap := g1 }) ob1 ⟨hex.1, hex.2.1, hex.2.2⟩ rfl r1 psz p3.dm (by rw [sz1, p4]; rcases two with ⟨e, e2⟩ | ⟨e, e2⟩ <;> omega) one1 ats1 ldd1 (by rw [len1]; exact hfew) m1 m2 m3 (by rw [len1]; exact m4) ?_
      intro g2 R2 ms2 ep2 tb2 sb2 T2 pm2
      refine wpAny_pure (hQ true g2 R2 ms2 ep2 tb2 (sb.trans sb2) T2 (fun c => absurd c hout) fun _ => pm2.trans pm)
    rcases two with ⟨_, e2⟩ | ⟨_, e2⟩
    · refine go 31 (by rw [e2, size_20]) (.inr (.inl rfl)) (by rw [e2, size_20]; decide) (by omega)
    · refine go 127 (by rw [e2, size_76]) (.inr (.inr rfl)) (by rw [e2, size_76]; decide) (by omega)
  · refine wp_if_neg (by simp [full]) ?_
    refine wpAny_pure (hQ true g1 R1 ms1 (ep + 1) tb1 sb ⟨⟨_, ob1, ⟨hex.1, hex.2.1, hex.2.2⟩, rfl⟩, r1, p3, one1, ats1, ldd1, ?_, by rw [len1]; exact hfew⟩ (fun c => absurd c hout) fun _ => pm)
    have f1 := full
    unfold SetTable.tooFull at f1
    rw [decide_eq_true_eq, p9, List.length_map] at f1
    rw [len1]
    omega
theorem put_in (T : TSet P w s.heap z R ms ep tb) {b : Addr} {q : FK} (hb : FAt P w s.heap q b) (hu : A.units < cLine) (hfew : R.length + 1 < 64) {Q : Bool → Shared → Prop}
    (hQ : ∀ v g R2 ms2 ep2 tb2, Heap.SameBut z s.heap g → TSet P w g z R2 ms2 ep2 tb2 → (q ∈ R.map (·.2) → R2 = R) → (q ∉ R.map (·.2) → R2.Perm ((b, q) :: R)) → Q v { s with heap := g }) :
    wpAny (model P w) A (setAddHashed z (.ref b) (fkh P w q)) Q E s := by
  obtain ⟨ob, hob, hex, hdt⟩ := T.obj
  have hl := T.size
  have hrm := T.rm
  unfold setAddHashed
  refine wpAny_holding ?_
  rw [show (100000 : Nat) = 99999 + 1 from rfl, setAddHashedIn_succ]
  refine wpAny_bind (wpAny_setState_of hob hdt T.fit ?_)
  dsimp only
  refine wp_if_neg (by simp [byScan, Value.scannable]) ?_
  try refine wpAny_bind (wpAny_pure ?_)
  refine wpAny_bind (look_at T hb hu (fun hin => ?_) fun N hout n2 n3 => ?_)
  · dsimp only
    exact wpAny_pure (hQ false s.heap R ms ep tb (Heap.SameBut.refl z s.heap) T (fun _ => rfl) fun c => absurd hin c)
  · dsimp only
    refine wpAny_bind (wpAny_setState_of hob hdt T.fit ?_)
    dsimp only
    obtain ⟨p1, p2, p3, p4, p5, p6, _, _, p9⟩ := T.tab.put n2 n3
    generalize hput : tb.put (way tb.mask (fkh P w q) N) = pt at p1 p3 p4 p5 p6 p9 ⊢
    obtain ⟨tb1, k⟩ := pt
    dsimp only at p1 p3 p4 p5 p6 p9 ⊢
    subst p1
    generalize hk : SetTable.below tb.place (way tb.mask (fkh P w q) N) = k at p2 p3 ⊢
    have r1 : (SetTable.insertAt ms k (fkh P w q, Value.ref b)).toList = (R.take k ++ (b, q) :: R.drop k).map (rowV P w) := by
      rw [SetTable.toList_insertAt, T.row, List.map_append, List.map_cons, List.map_take, List.map_drop]
    have pm := put_perm R k (b, q)
    have len1 : (R.take k ++ (b, q) :: R.drop k).length = R.length + 1 := pm.length_eq
    have hh : (R.take k ++ (b, q) :: R.drop k).map (fun m => fkh P w m.2) = (R.map fun m => fkh P w m.2).take k ++ fkh P w q :: (R.map fun m => fkh P w m.2).drop k := by
      rw [List.map_append, List.map_cons, List.map_take, List.map_drop]
    rw [← hh] at p3
    have one1 : ((R.take k ++ (b, q) :: R.drop k).map (·.2)).Nodup := (pm.map (·.2)).nodup_iff.mpr (List.nodup_cons.mpr ⟨hout, T.one⟩)
    generalize R.take k ++ (b, q) :: R.drop k = R1 at pm len1 p3 one1 r1
    generalize SetTable.insertAt ms k (fkh P w q, Value.ref b) = ms1 at r1 ⊢
    have last : ∀ c : Bool, TabOk (if c = true then tb1 else { tb1 with plain := false }) (R1.map fun m => fkh P w m.2) := fun c => by
      cases c
      · exact ⟨p3.ris, p3.dm, p3.sz, p3.mok, p3.bd, p3.reach⟩
      · exact p3
    by_cases pp : tb1.plain = true
    · refine wp_if_pos pp (wpAny_bind (hby_flat hb fun c => ?_))
      exact put_end hob hex hdt hl T hb hfew hout r1 pm (last c) one1 (by cases c <;> exact p4) (by cases c <;> exact p5) (by cases c <;> exact p9) hQ
    · refine wp_if_neg pp (wpAny_bind (wpAny_pure ?_))
      exact put_end hob hex hdt hl T hb hfew hout r1 pm p3 one1 p4 p5 p9 hQ
end
end Ev

namespace Ev
open PySem PySem.Spec L2 PyProof.Rows

section
variable {P : Program} {w : World} {A : Around} {E : Value → Shared → Prop} {s : Shared} {z : Addr} {R : List (Addr × FK)} {ms : Array (Int × Value)} {ep : Nat} {tb : SetTable}
/-- what of the first i items is in -/
structure InSo (ks : List (Addr × FK)) (i : Nat) (R : List (Addr × FK)) : Prop where
  of : ∀ m ∈ R, m ∈ ks.take i
  all : ∀ m ∈ ks.take i, m.2 ∈ R.map (·.2)
  few : R.length ≤ i
theorem take_one {α : Type} {l : List α} {i : Nat} {x : α} (h : l[i]? = some x) : l.take (i + 1) = l.take i ++ [x] := by
  rw [List.take_succ, h]
  rfl
theorem InSo.next {ks R R2 : List (Addr × FK)} {i : Nat} {m : Addr × FK} (g : InSo ks i R) (h : ks[i]? = some m) (c1 : m.2 ∈ R.map (·.2) → R2 = R) (c2 : m.2 ∉ R.map (·.2) → R2.Perm (m :: R)) : InSo ks (i + 1) R2 := by
  rcases Classical.em (m.2 ∈ R.map (·.2)) with c | c
  · rw [c1 c]
    refine ⟨fun p hp => ?_, fun p hp => ?_, Nat.le_succ_of_le g.few⟩
    · rw [take_one h]
      exact List.mem_append_left _ (g.of p hp)
    · rw [take_one h] at hp
      rcases List.mem_append.mp hp with y | y
      · exact g.all p y
      · rw [List.mem_singleton.mp y]; exact c
  · have pm := c2 c
    refine ⟨fun p hp => ?_, fun p hp => ?_, ?_⟩
    · rw [take_one h]
      rcases List.mem_cons.mp (pm.mem_iff.mp hp) with rfl | y
      · exact List.mem_append_right _ List.mem_cons_self
      · exact List.mem_append_left _ (g.of p y)
    · rw [(pm.map (·.2)).mem_iff, List.map_cons]
      rw [take_one h] at hp
      rcases List.mem_append.mp hp with y | y
      · exact List.mem_cons_of_mem _ (g.all p y)
      · rw [List.mem_singleton.mp y]; exact List.mem_cons_self
    · rw [pm.length_eq, List.length_cons]
      exact Nat.succ_le_succ g.few
theorem flat_kept {g g' : Heap} {q : FK} {b : Addr} (x : FAt P w g q b) (k : ∀ c o, g.get? c = some o → g'.get? c = some o) : FAt P w g' q b := by
  obtain ⟨o, its, c, h, r⟩ := x
  exact ⟨o, its, c, k b o h, r⟩
theorem TSet.kept {g g' : Heap} (T : TSet P w g z R ms ep tb) (k : ∀ o, g.get? z = some o → g'.get? z = some o) (ats : ∀ m ∈ R, FAt P w g' m.2 m.1) : TSet P w g' z R ms ep tb := by
  obtain ⟨o, ho, r⟩ := T.obj
  exact ⟨⟨o, k o ho, r⟩, T.row, T.tab, T.one, ats, T.ldd, T.rm, T.few⟩
theorem tset_new {g : Heap} (ho : g.get? z = some (newSetObj w)) : TSet P w g z [] #[] 0 (.fresh 0 0 (!w.params.followText "set-order")) where
  obj := ⟨_, ho, ⟨rfl, rfl, rfl⟩, rfl⟩
  row := rfl
  tab := ⟨List.Pairwise.nil, rfl, rfl, .inl rfl, fun x hx => (by cases hx), fun i h j hi => (by simp at hi)⟩
  one := List.nodup_nil
  ats := fun m hm => (by cases hm)
  ldd := by
    show _ ∨ (!w.params.followText "set-order") = true
    cases w.params.followText "set-order" <;> simp
  rm := by show 0 * 5 < 7 * 3; decide
  few := by show 0 < 64; decide
theorem tset_loop {I : Addr} {fp wr : List Addr} {G : Array GenState → Array GenState → Prop} {n : Nat} {Pv : Nat → Value → Prop} {St : Nat → Shared → Prop} {Z : Result → Shared → Prop}
    (W : WalksS P w A.in1 I fp wr G n Pv St) (hz : z ∉ fp) (ks : List (Addr × FK)) (hn : n = ks.length) (few : ks.length < 64) (hv : ∀ i v, Pv i v → ∃ m, ks[i]? = some m ∧ v = .ref m.1)
    (g0 : Heap) (hk : ∀ m ∈ ks, FAt P w g0 m.2 m.1) (hz0 : g0.get? z = none) (hw0 : ∀ b ∈ wr, g0.get? b = none) (hu : A.in1.units < cLine) :
    ∀ (c i : Nat) (s : Shared), n - i = c → i ≤ n → St i s → (∀ b o, g0.get? b = some o → s.heap.get? b = some o) → (∃ R ms ep tb, TSet P w s.heap z R ms ep tb ∧ InSo ks i R) →
      (∀ s' R ms ep tb, Moved (z :: wr) G s s' → TSet P w s'.heap z R ms ep tb → InSo ks n R → (∀ b o, g0.get? b = some o → s'.heap.get? b = some o) → Z (.ok (.ret .none)) s') →
      codeAny (model P w) A (.builtin "set.update.loop" ⟨[.ref z, .ref I], []⟩) Z s := by
  have hzw : z ∉ wr := fun y => hz (W.sub _ y)
  have more : ∀ b ∈ wr, b ∈ z :: wr := fun b hb => List.mem_cons_of_mem _ hb
  have old : ∀ {s s' : Shared}, Moved wr G s s' → (∀ b o, g0.get? b = some o → s.heap.get? b = some o) → ∀ b o, g0.get? b = some o → s'.heap.get? b = some o := fun mv k b o e =>
    mv.heap b o (fun hb => by rw [hw0 b hb] at e; cases e) (k b o e)
  intro c
  induction c with
  | zero =>
    intro i s hc hi st k ⟨R, ms, ep, tb, T, g⟩ hZ
    have hin : i = n := by omega
    subst hin
    refine codeAny_builtin F.entry_set_update_loop ?_
    rw [Around.under_plainId F.plain_set_update_loop _]
    show wpAny _ A.in1 (pyNext (.ref I) >>= _) _ _ s
    refine wpAny_bind (W.done s _ _ st fun s1 mv => ?_)
    have k1 := old mv k
    refine wpAny_pure (hZ s1 R ms ep tb (mv.mono more) (T.kept (fun o e => mv.heap z o hzw e) fun m hm => flat_kept (hk m (List.mem_of_mem_take (g.of m hm))) k1) g k1)
  | succ c ih =>
    intro i s hc hi st k ⟨R, ms, ep, tb, T, g⟩ hZ
    have hlt : i < n := by omega
    refine codeAny_builtin F.entry_set_update_loop ?_
    rw [Around.under_plainId F.plain_set_update_loop _]
    show wpAny _ A.in1 (pyNext (.ref I) >>= _) _ _ s
    refine wpAny_bind (W.item i s _ _ hlt st fun v s1 pv st1 mv => ?_)
    obtain ⟨m, hm, rfl⟩ := hv i v pv
    have k1 := old mv k
    have T1 : TSet P w s1.heap z R ms ep tb := T.kept (fun o e => mv.heap z o hzw e) fun m hm => flat_kept (hk m (List.mem_of_mem_take (g.of m hm))) k1
    have hx : FAt P w s1.heap m.2 m.1 := flat_kept (hk m (List.mem_of_getElem? hm)) k1
    show wpAny _ A.in1 (holding [Value.ref m.1] (setAdd z (.ref m.1)) >>= _) _ _ s1
    refine wpAny_bind (wpAny_holding ?_)
    unfold setAdd
    refine wpAny_holding (wpAny_bind (wpAny_pyHash_tuple hu hx ?_))
    refine put_in (s := { s1 with toks := s1.toks + (m.2.length + 1) }) T1 hx hu (by have := g.few; omega) fun v g2 R2 ms2 ep2 tb2 sb T2 c1 c2 => ?_
    have k2 : ∀ b o, g0.get? b = some o → g2.get? b = some o := fun b o e => (sb.2 b (fun y => by rw [y, hz0] at e; cases e)).trans (k1 b o e)
    refine wpAny_pure ⟨plainId_quiet F.plain_set_update_loop _, ih (i + 1) _ (by omega) hlt (W.frame _ s1 _ _ st1 (Nat.le_add_right _ _) fun b hb o e => ?_) k2 ⟨R2, ms2, ep2, tb2, T2, g.next hm c1 c2⟩ fun s3 R3 ms3 ep3 tb3 mv3 T3 g3 k3 => ?_⟩
    · rw [sb.2 b (fun y => hz (by rw [← y]; exact hb))]; exact e
    · refine hZ s3 R3 ms3 ep3 tb3 (Moved.trans W.gtrans ((mv.mono more).then_heap (Nat.le_add_right _ _) fun b o hb e => ?_) mv3) T3 g3 k3
      rw [sb.2 b (fun y => hb (by rw [y]; exact List.mem_cons_self))]; exact e
/-- set(xs), xs a list or a tuple -/
theorem tset_of {l : Addr} {its : Array Value} (ks : List (Addr × FK)) {Q : Value → Shared → Prop} (hh : A.handled = none) (hl : s.heap.IsList l its ∨ s.heap.IsTuple l its) (hit : its.toList = ks.map fun m => Value.ref m.1)
    (hk : ∀ m ∈ ks, FAt P w s.heap m.2 m.1) (few : ks.length < 64) (hu : A.units + 3 < cLine)
    (h : ∀ (g : Heap) (tk : Nat) R ms ep tb, TSet P w g s.heap.objs.size R ms ep tb → InSo ks ks.length R → (∀ b o, s.heap.get? b = some o → g.get? b = some o) → Q (.ref s.heap.objs.size) { s with heap := g, toks := tk }) :
    wpAny (model P w) A (call (.type "set") [.ref l]) Q E s := by
  have isz : its.size = ks.length := by
    have q := congrArg List.length hit
    rwa [Array.length_toList, List.length_map] at q
  have hval : ∀ (i : Nat) (v : Value), its[i]? = some v → ∃ m, ks[i]? = some m ∧ v = .ref m.1 := fun i v hv => by
    have q : its.toList[i]? = some v := by rw [Array.getElem?_toList]; exact hv
    rw [hit, List.getElem?_map] at q
    obtain ⟨m, e1, e2⟩ := Option.map_eq_some_iff.mp q
    exact ⟨m, e1, e2.symm⟩
  have none_of : ∀ b, s.heap.objs.size ≤ b → s.heap.get? b = none := fun b hb => by
    cases q : s.heap.get? b with
    | none => rfl
    | some o => exact absurd (Nat.lt_of_lt_of_le (Heap.lt_size q) hb) (Nat.lt_irrefl _)
  obtain ⟨c, tl, hmro⟩ := F.called_set.mro
  have made := F.called_set.made
  have hsub := F.called_set.sub
  refine wpAny_call (codeAny_of_tree ?_)
  show wpAny _ _ (callAny (.type "set") _) _ _ _
  refine wpAny_pure ⟨Code.quiet_builtin _ (by decide +kernel), codeAny_builtin F.entry_type_call ?_⟩
  rw [Around.under_plain (weight_type_call_type "set" [.ref l] []) rfl]
  have b1 := F.called_set.notType
  have b2 := F.called_set.canCreate
  have b3 := F.typeCall_set_1 (.ref l)
  repeat (any_goals (first | assumption | wp_step))
  refine codeAny_mono (L2.code_set_led1 (.ref l) (E := E) (Q₁ := fun v s1 => v = .ref s.heap.objs.size ∧ s1 = { s with heap := s.heap.push (newSetObj w) }) ⟨rfl, rfl⟩) fun r s1 hr => ?_
  cases r with
  | error e => exact hr
  | ok fl =>
    cases fl with
    | ret v =>
      obtain ⟨rfl, rfl⟩ := hr
      have hS : (s.heap.push (newSetObj w)).get? s.heap.objs.size = some (newSetObj w) := Heap.get?_push_size _ rfl
      have hT : Shared.TypeIs { s with heap := s.heap.push (newSetObj w) } (.ref s.heap.objs.size) "set" := ⟨_, hS, rfl⟩
      have b4 := F.called_set.init.lookup
      have b5 := F.called_set.init.bind (.ref s.heap.objs.size)
      repeat (any_goals (first | assumption | wp_step))
      refine codeAny_mono (codeAny_call_builtin (R := wants (fun r s2 => r = .none ∧ ∃ g tk R ms ep tb, s2 = { s with heap := g, toks := tk } ∧ TSet P w g s.heap.objs.size R ms ep tb ∧ InSo ks ks.length R ∧
          ∀ b o, s.heap.get? b = some o → g.get? b = some o) E) F.called_set.init.plain F.entry_set_init (check_set_init_1 hT ?_)) fun r2 s2 hr2 => ?_
      · have hh3 : A.in1.in1.in1.handled = none := by simp [hh]
        have hp : (s.heap.push (newSetObj w)).objs.size = s.heap.objs.size + 1 := Heap.size_push ..
        have hnf : ∀ {l' : Addr}, l' < s.heap.objs.size → s.heap.objs.size ∉ [(s.heap.push (newSetObj w)).objs.size, l'] := by
          intro l' hlS y
          rcases List.mem_cons.mp y with y | y
          · rw [hp] at y; exact Nat.ne_of_lt (Nat.lt_succ_self _) y
          · exact Nat.ne_of_gt hlS (List.mem_singleton.mp y)
        have hw0 : ∀ b ∈ [(s.heap.push (newSetObj w)).objs.size], s.heap.get? b = none := fun b hb => none_of b (by
          rw [List.mem_singleton.mp hb, hp]
          exact Nat.le_succ _)
        have kp : ∀ (ob : Obj) b o, s.heap.get? b = some o → ((s.heap.push (newSetObj w)).push ob).get? b = some o := fun ob b o e => Heap.get?_push_of_some _ (Heap.get?_push_of_some _ e)
        have t0 : ∀ ob : Obj, TSet P w ((s.heap.push (newSetObj w)).push ob) s.heap.objs.size [] #[] 0 (.fresh 0 0 (!w.params.followText "set-order")) := fun ob => tset_new (Heap.get?_push_of_some _ hS)
        rcases hl with hl | hl
        · obtain ⟨ol, hol, hcl, nl, hdl⟩ := hl
          obtain ⟨o1, o2, o3, o4⟩ := ol
          simp only at hcl hdl
          subst hcl; subst hdl
          have hol' : (s.heap.push (newSetObj w)).get? l = some { cls := .type "list", dict := o2, data := .seq its nl, slots := o4 } := Heap.get?_push_of_some _ hol
          have n1 := F.sub_list_set
          have n2 := F.sub_list_frozenset
          have n3 : (Value.type "list" == Value.type "dict") = false := by decide
          have hl1 : (s.heap.push (newSetObj w)).IsList l its := ⟨_, hol', rfl, nl, rfl⟩
          unfold Builtin.«set.__init__» noKeywords Builtin.Frozenset.updateFrom
          generalize hPI : pyIter = PI
          wp_walk
          subst hPI
          refine wpAny_pyIter_list hl1 (wpAny_bind (wpAny_runValue ?_))
          have hlS : l < s.heap.objs.size := Heap.lt_size hol
          have hne : l ≠ (s.heap.push (newSetObj w)).objs.size := by rw [hp]; exact Nat.ne_of_lt (Nat.lt_succ_of_lt hlS)
          refine tset_loop ((Walks.list hh3 _ l hne its).toS) (hnf hlS) ks isz few hval s.heap hk (none_of _ (Nat.le_refl _)) hw0 hu (its.size - 0) 0 _ (by omega) (Nat.zero_le _)
            ⟨⟨_, Heap.get?_push_size _ rfl, rfl, rfl⟩, (hl1.push _)⟩ (kp _) ⟨[], #[], 0, _, t0 _, ⟨fun m hm => (by cases hm), fun m hm => (by simp at hm), Nat.le_refl _⟩⟩ ?_
          intro s3 R3 ms3 ep3 tb3 m3 T3 gs3 k3
          obtain ⟨g1, g2, g3, g4, g5⟩ := s3
          have e2 : g2 = s.gens := m3.gens
          have e3 : g3 = s.drawn := m3.drawn
          have e5 : g5 = s.os := m3.os
          subst e2; subst e3; subst e5
          show wpAny _ _ _ _ _ _
          refine wpAny_pure ?_
          show wpAny _ _ (ret Value.none) _ _ _
          rw [isz] at gs3
          exact wpAny_pure ⟨rfl, g1, g4, R3, ms3, ep3, tb3, rfl, T3, gs3, k3⟩
        · obtain ⟨ol, hol, hcl, nl, hdl⟩ := hl
          obtain ⟨o1, o2, o3, o4⟩ := ol
          simp only at hcl hdl
          subst hcl; subst hdl
          have hol' : (s.heap.push (newSetObj w)).get? l = some { cls := .type "tuple", dict := o2, data := .seq its nl, slots := o4 } := Heap.get?_push_of_some _ hol
          have n1 := F.sub_tuple_set
          have n2 := F.sub_tuple_frozenset
          have n3 : (Value.type "tuple" == Value.type "dict") = false := by decide
          have hl1 : (s.heap.push (newSetObj w)).IsTuple l its := ⟨_, hol', rfl, nl, rfl⟩
          unfold Builtin.«set.__init__» noKeywords Builtin.Frozenset.updateFrom
          generalize hPI : pyIter = PI
          wp_walk
          subst hPI
          refine wpAny_pyIter_tuple hl1 (wpAny_bind (wpAny_runValue ?_))
          have hlS : l < s.heap.objs.size := Heap.lt_size hol
          have hne : l ≠ (s.heap.push (newSetObj w)).objs.size := by rw [hp]; exact Nat.ne_of_lt (Nat.lt_succ_of_lt hlS)
          refine tset_loop ((Walks.tuple hh3 _ l hne its).toS) (hnf hlS) ks isz few hval s.heap hk (none_of _ (Nat.le_refl _)) hw0 hu (its.size - 0) 0 _ (by omega) (Nat.zero_le _)
            ⟨⟨_, Heap.get?_push_size _ rfl, rfl, rfl⟩, (hl1.push _)⟩ (kp _) ⟨[], #[], 0, _, t0 _, ⟨fun m hm => (by cases hm), fun m hm => (by simp at hm), Nat.le_refl _⟩⟩ ?_
          intro s3 R3 ms3 ep3 tb3 m3 T3 gs3 k3
          obtain ⟨g1, g2, g3, g4, g5⟩ := s3
          have e2 : g2 = s.gens := m3.gens
          have e3 : g3 = s.drawn := m3.drawn
          have e5 : g5 = s.os := m3.os
          subst e2; subst e3; subst e5
          show wpAny _ _ _ _ _ _
          refine wpAny_pure ?_
          show wpAny _ _ (ret Value.none) _ _ _
          rw [isz] at gs3
          exact wpAny_pure ⟨rfl, g1, g4, R3, ms3, ep3, tb3, rfl, T3, gs3, k3⟩
      · cases r2 with
        | error e => exact hr2
        | ok fl2 =>
          cases fl2 with
          | ret v =>
            obtain ⟨rfl, g, tk, R, ms, ep, tb, rfl, T, gs, hk⟩ := hr2
            repeat (any_goals (first | assumption | wp_step))
            exact h _ _ _ _ _ _ T gs hk
          | _ => exact hr2.elim
    | _ => exact hr.elim
end
end Ev

namespace Ev
open PySem PySem.Spec L2

/-! ### what is being made, at D -/
def mkS (s : List Nat) : Str := ⟨s.toArray⟩
theorem mkS_inj {a b : List Nat} (h : mkS a = mkS b) : a = b := by
  unfold mkS at h
  injection h with h
  exact Array.toList_inj.mpr h |> fun z => by simpa using z
def SetXO (P : Program) (w : World) (a : Addr) (L : List Str) : HO := .ext fun h => SetX P w h a L
def CObj (P : Program) (w : World) (K : PySem.W.Frag) (H : Hp) (ι : Ix) (D : Addr) : CKd → List Ev.D → Prop
  | .lst, acc => ∃ xs, H D = some (.lst xs) ∧ RelL K H ι acc xs
  | .set, acc => ∃ ts : List (List Nat), acc = ts.map .str ∧ H D = some (SetXO P w D (addTs [] (ts.map mkS))) ∧ ts.length ≤ 4000
/-- nothing but D changes -/
structure GrowD (K : PySem.W.Frag) (D : Addr) (ι : Ix) (H : Hp) (ι' : Ix) (H' : Hp) : Prop where
  ext : Ext K ι H ι' H'
  hid : ι'.hid = ι.hid
  hk : ∀ a ∈ ι.hid, a ≠ D → ∀ o, H a = some o → H' a = some o
section
variable {P : Program} {w : World} {K : PySem.W.Frag} {ι ι' ι'' : Ix} {H H' H'' : Hp} {D : Addr} {μ μ' : Sto} {ck : CKd} {acc : List Ev.D}
theorem GrowD.refl : GrowD K D ι H ι H := ⟨Ext.refl, rfl, fun _ _ _ _ h => h⟩
theorem GrowD.trans (g : GrowD K D ι H ι' H') (g' : GrowD K D ι' H' ι'' H'') : GrowD K D ι H ι'' H'' :=
  ⟨g.ext.trans g'.ext, g'.hid.trans g.hid, fun a ha hn o h => g'.hk a (by rw [g.hid]; exact ha) hn o (g.hk a ha hn o h)⟩
theorem Grow.toD (g : Grow K ι H ι' H') : GrowD K D ι H ι' H' := ⟨g.ext, g.hid, fun a ha _ o h => g.hk a ha o h⟩
theorem CObj.grow (h : CObj P w K H ι D ck acc) (hd : D ∈ ι.hid) (g : Grow K ι H ι' H') : CObj P w K H' ι' D ck acc := by
  cases ck with
  | lst =>
    obtain ⟨xs, h1, h2⟩ := h
    exact ⟨xs, g.hk _ hd _ h1, h2.grow g⟩
  | set =>
    obtain ⟨ts, h1, h2, h3⟩ := h
    exact ⟨ts, h1, g.hk _ hd _ h2, h3⟩
/-- what follows a nest -/
def TN (P : Program) (w : World) (K : PySem.W.Frag) (ck : CKd) (f : Loc → Sto → List Ev.D → Res (List Ev.D)) (D : Addr) : WN := fun σ H Nx => ∃ ι ρ μ acc acc' μ', EnvOk K H ι ρ σ ∧ StOk K H ι μ ∧ D ∈ ι.hid ∧ CObj P w K H ι D ck acc ∧
  f ρ μ acc = .ok acc' μ' ∧ ∀ ι' H', GrowD K D ι H ι' H' → StOk K H' ι' μ' → CObj P w K H' ι' D ck acc' → Nx H'
/-- a clause's loop -/
theorem loop_read {src : Src} {J : L2.It} {t : Tg} {vs : List Nat} {ρ : Loc} {σ : L2.St} {test : Loc → Sto → Res Ev.D} {body : Loc → Sto → List Ev.D → Res (List Ev.D)} {acc acc' : List Ev.D} {Nx : Hp → Prop} (hin : ∀ i ∈ t.ixs, i ∈ vs)
    (he : EnvOk K H ι ρ σ) (S : StOk K H ι μ) (hd : D ∈ ι.hid) (hc : CObj P w K H ι D ck acc) (so : SrcOk K ι H src J) (hf : clN src t vs ρ test body src.fuel 0 acc μ = .ok acc' μ')
    (hN : ∀ ι' H', GrowD K D ι H ι' H' → StOk K H' ι' μ' → CObj P w K H' ι' D ck acc' → Nx H') :
    tLoop J (gOf K t) (TB K test) (TN P w K ck body D) vs σ H Nx := by
  refine ⟨fun i m H' => ∃ ι' μ2 acc2, GrowD K D ι H ι' H' ∧ StOk K H' ι' μ2 ∧ CObj P w K H' ι' D ck acc2 ∧ clN src t vs ρ test body m i acc2 μ2 = .ok acc' μ', ⟨src.fuel, ι, μ, acc, GrowD.refl, S, hc, hf⟩, ?_⟩
  rintro i m H2 ⟨ι2, μ2, acc2, g2, S2, c2, hf2⟩
  have hd2 : D ∈ ι2.hid := by rw [g2.hid]; exact hd
  cases m with
  | zero => cases hf2
  | succ m =>
    simp only [clN] at hf2
    split at hf2
    · cases hf2
    · rename_i hat
      cases hf2
      exact .inl ⟨so.stops ι2 H2 _ i g2.ext S2 hat, hN ι2 H2 g2 S2 c2⟩
    · rename_i x hat
      obtain ⟨go, yl⟩ := so.goes ι2 H2 μ2 i x g2.ext S2 hat
      refine .inr ⟨go, fun H' => ∃ ι' μ3 acc3, GrowD K D ι H ι' H' ∧ StOk K H' ι' μ3 ∧ CObj P w K H' ι' D ck acc3 ∧ clN src t vs ρ test body m (i + 1) acc3 μ3 = .ok acc' μ', fun H' nx => ⟨m, Nat.lt_succ_self m, nx⟩, fun y H3 hy => ?_⟩
      obtain ⟨g3, S3, r3⟩ := yl y H3 hy
      split at hf2
      · cases hf2
      · rename_i ρ1 hb
        have e3 : EnvOk K H3 ι2 (wipe ρ vs) (L2.wipe σ vs) := (he.ext (g2.ext.trans g3.ext)).wipe vs
        refine gOf_run hb e3 r3 fun σ1 e1 hw => ⟨by rw [hw vs hin, wipe_wipe], ?_⟩
        obtain ⟨bv, μ4, h4, hf2⟩ := Res.bind_ok hf2
        cases bv with
        | bl b =>
          refine ⟨ι2, ρ1, μ2, b, μ4, e1, S3, h4, fun ι4 H4 g4 S4 => ?_⟩
          have g24 := g3.trans g4
          have hd4 : D ∈ ι4.hid := by rw [g24.hid]; exact hd2
          cases b with
          | false => exact Eq.mpr (if_neg Bool.false_ne_true) ⟨ι4, μ4, acc2, g2.trans g24.toD, S4, c2.grow hd2 g24, hf2⟩
          | true =>
            obtain ⟨acc5, μ5, h5, hf2⟩ := Res.bind_ok hf2
            refine Eq.mpr (if_pos rfl) ?_
            exact ⟨ι4, ρ1, μ4, acc2, acc5, μ5, e1.grow g4, S4, hd4, c2.grow hd2 g24, h5, fun ι5 H5 g5 S5 c5 => ⟨ι5, μ5, acc5, (g2.trans g24.toD).trans g5, S5, c5, hf2⟩⟩
        | _ => cases hf2
/-- an inner clause -/
theorem cl_read {sf : Loc → Sto → Res Src} {t : Tg} {vs : List Nat} {test : Loc → Sto → Res Ev.D} {body : Loc → Sto → List Ev.D → Res (List Ev.D)} {σ : L2.St} {Nx : Hp → Prop} (hin : ∀ i ∈ t.ixs, i ∈ vs)
    (h : TN P w K ck (fun ρ μ acc => (sf ρ μ).bind fun src μ => clN src t vs ρ test body src.fuel 0 acc μ) D σ H Nx) :
    tCl (TSrc K sf) (gOf K t) (TB K test) (TN P w K ck body D) vs σ H Nx := by
  obtain ⟨ι, ρ, μ, acc, acc', μ', he, S, hd, hc, hf, hN⟩ := h
  obtain ⟨src, μ1, h1, hf⟩ := Res.bind_ok hf
  refine ⟨ι, ρ, μ, src, μ1, he, S, h1, fun ι1 H1 J g1 S1 so => ?_⟩
  exact loop_read hin (he.grow g1) S1 (by rw [g1.hid]; exact hd) (hc.grow hd g1) so hf fun ι' H' g S' c => hN ι' H' (g1.toD.trans g) S' c
/-- what a comprehension gives -/
def TCm (P : Program) (w : World) (K : PySem.W.Frag) (ck : CKd) (f : Loc → Sto → List Ev.D → Res (List Ev.D)) : TE := fun σ H Q => ∃ ι ρ μ acc μ', EnvOk K H ι ρ σ ∧ StOk K H ι μ ∧ f ρ μ [] = .ok acc μ' ∧
  ∀ ι' H' D, Grow K ι H ι' H' → StOk K H' ι' μ' → D ∉ ι'.loc → D ∉ ι'.hid → CObj P w K H' ι' D ck acc → Q (.ref D) H'
def obj0 (P : Program) (w : World) : CKd → Addr → HO
  | .lst, _ => .lst []
  | .set, D => SetXO P w D []
theorem obj0_chg : ∀ {D : Addr}, Chg (obj0 P w ck D) := by
  intro D
  cases ck <;> trivial
theorem comp_read {sf : Loc → Sto → Res Src} {t : Tg} {vs : List Nat} {test : Loc → Sto → Res Ev.D} {body : Loc → Sto → List Ev.D → Res (List Ev.D)} {σ : L2.St} {Q : VK} (hin : ∀ i ∈ t.ixs, i ∈ vs)
    (h : TCm P w K ck (fun ρ μ acc => (sf ρ μ).bind fun src μ => clN src t vs ρ test body src.fuel 0 acc μ) σ H Q) :
    tComp (obj0 P w ck) (TSrc K sf) (gOf K t) (TB K test) (fun D => TN P w K ck body D) vs σ H Q := by
  obtain ⟨ι, ρ, μ, acc', μ', he, S, hf, hN⟩ := h
  obtain ⟨src, μ1, h1, hf⟩ := Res.bind_ok hf
  refine ⟨ι, ρ, μ, src, μ1, he, S, h1, fun ι1 H1 J g1 S1 so D hD => ?_⟩
  have x0 : Ext K ι1 H1 (ι1.hide D) (upd H1 D (obj0 P w ck D)) := Ext.hide hD
  have so' : SrcOk K (ι1.hide D) (upd H1 D (obj0 P w ck D)) src J := ⟨fun ι H μ i d g => so.goes ι H μ i d (x0.trans g), fun ι H μ i g => so.stops ι H μ i (x0.trans g)⟩
  have c0 : CObj P w K (upd H1 D (obj0 P w ck D)) (ι1.hide D) D ck [] := by
    cases ck with
    | lst => exact ⟨[], upd_same, .nil⟩
    | set => exact ⟨[], rfl, upd_same, Nat.zero_le _⟩
  refine loop_read hin ((he.grow g1).ext x0) (S1.hide hD obj0_chg) List.mem_cons_self c0 so' hf fun ι' H' g S' c => ?_
  have hs : ι'.show.hid = ι1.hid := by show ι'.hid.tail = _; rw [g.hid]; rfl
  have hDh : D ∈ ι'.hid := by rw [g.hid]; exact List.mem_cons_self
  have gs : Grow K ι1 H1 ι'.show H' := ⟨(x0.trans g.ext).trans Ext.show, hs, fun a ha o q => g.hk a (List.mem_cons_of_mem _ ha) (fun e => by subst e; rw [hD] at q; cases q) o (by rw [upd_ne (ne_of_none q hD)]; exact q)⟩
  refine hN ι'.show H' D (g1.trans gs) S'.show (fun z => S'.dj _ z hDh) (fun z => S1.not_hid hD (by rw [hs] at z; exact z)) ?_
  cases ck with
  | lst =>
    obtain ⟨xs, q1, q2⟩ := c
    exact ⟨xs, q1, q2.ext Ext.show⟩
  | set => exact c
end
end Ev

namespace Ev
open PySem PySem.Spec L2

/-! ### texts in order -/
theorem leN_iff {a b : List Nat} : leN a b = true ↔ a ≤ b := by
  unfold leN
  rw [Bool.not_eq_true', decide_eq_false_iff_not]
  exact List.not_lt
theorem insN_perm (x : List Nat) : ∀ l, (insN x l).Perm (x :: l)
  | [] => List.Perm.refl _
  | y :: l => by
    unfold insN
    split
    · exact List.Perm.refl _
    · exact ((insN_perm x l).cons y).trans (List.Perm.swap x y l)
theorem sortN_perm : ∀ l, (sortN l).Perm l
  | [] => List.Perm.refl _
  | x :: l => (insN_perm x _).trans ((sortN_perm l).cons x)
theorem insN_up (x : List Nat) : ∀ l, l.Pairwise (· ≤ ·) → (insN x l).Pairwise (· ≤ ·)
  | [], _ => by unfold insN; simp
  | y :: l, h => by
    unfold insN
    obtain ⟨h1, h2⟩ := List.pairwise_cons.mp h
    split
    · rename_i q
      have q := leN_iff.mp q
      refine List.pairwise_cons.mpr ⟨fun z hz => ?_, h⟩
      rcases List.mem_cons.mp hz with rfl | hz
      · exact q
      · exact List.le_trans q (h1 z hz)
    · rename_i q
      have q : ¬ x ≤ y := fun z => q (leN_iff.mpr z)
      refine List.pairwise_cons.mpr ⟨fun z hz => ?_, insN_up x l h2⟩
      rcases List.mem_cons.mp ((insN_perm x l).mem_iff.mp hz) with rfl | hz
      · exact (List.le_total y z).resolve_right q
      · exact h1 z hz
theorem sortN_up : ∀ l, (sortN l).Pairwise (· ≤ ·)
  | [] => List.Pairwise.nil
  | x :: l => insN_up x _ (sortN_up l)
theorem up_unique : ∀ {l l' : List (List Nat)}, l.Perm l' → l.Pairwise (· ≤ ·) → l'.Pairwise (· ≤ ·) → l = l'
  | [], l', p, _, _ => (List.Perm.nil_eq p)
  | x :: l, [], p, _, _ => by simpa using p.length_eq
  | x :: l, y :: l', p, h, h' => by
    obtain ⟨h1, h2⟩ := List.pairwise_cons.mp h
    obtain ⟨k1, k2⟩ := List.pairwise_cons.mp h'
    have e : x = y := by
      have a : x ≤ y := by
        rcases List.mem_cons.mp (p.mem_iff.mpr List.mem_cons_self) with z | z
        · rw [z]; exact List.le_refl _
        · exact h1 y z
      have b : y ≤ x := by
        rcases List.mem_cons.mp (p.mem_iff.mp List.mem_cons_self) with z | z
        · rw [z]; exact List.le_refl _
        · exact k1 x z
      exact List.le_antisymm a b
    subst e
    rw [up_unique ((List.perm_cons x).mp p) h2 k2]
theorem mkS_cps (s : List Nat) : (mkS s).cps.toList = s := rfl
theorem mkS_of (x : Str) : mkS x.cps.toList = x := by cases x; rfl
theorem rising_up : ∀ (r : List Str) (x : Str), PyProof.Rows.risingS x r = true → (x :: r).Pairwise fun a b => a.cps.toList ≤ b.cps.toList
  | [], x, _ => by simp
  | y :: r, x, h => by
    unfold PyProof.Rows.risingS at h
    rw [Bool.and_eq_true, Bool.not_eq_true', PyProof.Rows.ltCps_eq, decide_eq_false_iff_not] at h
    have h1 : x.cps.toList ≤ y.cps.toList := List.not_lt.mp h.1
    have ih := rising_up r y h.2
    refine List.pairwise_cons.mpr ⟨fun z hz => ?_, ih⟩
    rcases List.mem_cons.mp hz with rfl | hz
    · exact h1
    · exact List.le_trans h1 ((List.pairwise_cons.mp ih).1 z hz)
theorem sorted_up {l : List Str} (h : PyProof.Rows.sortedS l = true) : l.Pairwise fun a b => a.cps.toList ≤ b.cps.toList := by
  cases l with
  | nil => exact List.Pairwise.nil
  | cons x r => exact rising_up r x h
/-- a list of texts that is in order is the one that sortN gives -/
theorem sorted_is {ss : List Str} {L : List (List Nat)} (p : ss.Perm (L.map mkS)) (h : PyProof.Rows.sortedS ss = true) : ss = (sortN L).map mkS := by
  have e : ss.map (fun x => x.cps.toList) = sortN L := by
    refine up_unique ?_ ?_ (sortN_up L)
    · have q := p.map fun x => x.cps.toList
      rw [List.map_map] at q
      exact (q.trans (by rw [show ((fun x : Str => x.cps.toList) ∘ mkS) = id from rfl, List.map_id])).trans (sortN_perm L).symm
    · exact List.pairwise_map.mpr (sorted_up h)
  rw [← e, List.map_map]
  exact (List.map_id'' mkS_of ss).symm
theorem addT_mk (L : List (List Nat)) (x : List Nat) : addT (L.map mkS) (mkS x) = (addN L x).map mkS := by
  unfold addT addN
  by_cases h : x ∈ L
  · rw [if_pos h, if_pos (List.mem_map_of_mem h)]
  · rw [if_neg h, if_neg fun z => ?_, List.map_append]
    · rfl
    · obtain ⟨y, hy, e⟩ := List.mem_map.mp z
      rw [mkS_inj e] at hy
      exact h hy
theorem addTs_mk : ∀ (xs : List (List Nat)) (L : List (List Nat)), addTs (L.map mkS) (xs.map mkS) = (addNs L xs).map mkS
  | [], _ => rfl
  | x :: xs, L => by
    show addTs (addT (L.map mkS) (mkS x)) (xs.map mkS) = _
    rw [addT_mk]
    exact addTs_mk xs _
/-! ### calls -/
section
variable {X : Cx}
def rSortX (P : Program) (w : World) : List V → Hp → VK → Prop := fun xs H Q => ∃ (a : Addr) (L : List Str), xs = [V.ref a] ∧ H a = some (SetXO P w a L) ∧ ∀ (p : Addr) (ss : List Str), H p = none → ss.Perm L → PyProof.Rows.sortedS ss = true → Q (.ref p) (upd H p (.lst (ss.map V.str)))
theorem vals_texts : ∀ {us : List Value} {ss : List Str}, PyProof.Rows.StrsAre us ss → Vals (ss.map V.str) us
  | _, _, .nil => .nil
  | _, _, .cons x t r => .cons ⟨t, rfl⟩ (vals_texts r)
theorem setX_get {pins : List (Addr × Obj)} {σ : L2.St} {H : Hp} {s : Shared} {a : Addr} {L : List Str} (I : L2.Inv X pins σ H s) (ha : H a = some (SetXO X.prog X.w a L)) : SetX X.prog X.w s.heap a L := (I.hok a _ ha).1
theorem setX_obj {P : Program} {w : World} {H : Hp} {h : Heap} {a : Addr} {L : List Str} (R : SetX P w h a L) : ObjOk P w H h a (SetXO P w a L) := by
  have ⟨o, _, _, _, ho, _⟩ := R
  exact ⟨R, ⟨o, ho⟩, fun h1 h2 p k => SetX.at p k⟩
theorem call_sortX (hc : X.calm = true) : CallR X (.builtin "sorted") (rSortX X.prog X.w) := by
  intro pins s σ H xs us Q I r h
  obtain ⟨a, L, rfl, ha, q⟩ := h
  have R := setX_get I ha
  have hL : L.length ≤ sizeLine := by
    obtain ⟨o, es, ep, t, _, _, _, _, _, _, hb, _⟩ := id R
    exact fits_of_scanBound hb
  rw [Vals.ref1 r]
  refine setX_sorted R (I.ok.hd hc) fun s' p out c ss k g o hp hg hi pm so => ?_
  have hn : H p = none := I.hok.fresh hp
  have J : L2.Inv X pins σ (upd H p (.lst (ss.map V.str))) { s with heap := s'.heap, gens := s'.gens, drawn := s'.drawn, toks := s'.toks } :=
    I.call (ch := []) (Un.laid k hp hn) (I.hok.laid k hp ⟨by rw [List.length_map, pm.length_eq]; exact hL, out.toList, c, vals_texts hi, hg⟩) (by rw [g]; exact I.bare) (fun _ z => nomatch z)
  have e : s' = { s with heap := s'.heap, gens := s'.gens, drawn := s'.drawn, toks := s'.toks } := by
    cases s'
    cases s
    cases o
    rfl
  rw [e]
  exact ⟨.ref p, _, J, rfl, q p ss hn pm so⟩
def rSetX (K : PySem.W.Frag) (P : Program) (w : World) : List V → Hp → VK → Prop := fun xs H Q => ∃ (l : Addr) (ts : List Str), xs = [V.ref l] ∧ SqL K H l (ts.map V.str) ∧ ts.length < 4000 ∧ ∀ p, H p = none → Q (.ref p) (upd H p (SetXO P w p (addTs [] ts)))
theorem call_setX (hc : X.calm = true) : CallR X (.type "set") (rSetX X.K X.prog X.w) := by
  intro pins s σ H xs us Q I r h
  obtain ⟨l, ts, rfl, hl, hz, q⟩ := h
  rw [Vals.ref1 r]
  obtain ⟨its, rr, pl, _⟩ := I.list hl
  refine setX_list (I.ok.hd hc) pl.isList (by simpa using L2.strsAre_of rr) hz fun h' tk R k => ?_
  exact ⟨.ref _, _, I.laid (t' := tk) k (Nat.le_refl _) (setX_obj R), rfl, q _ (I.hok.fresh (Nat.le_refl _))⟩
def rLenX (P : Program) (w : World) : List V → Hp → VK → Prop := fun xs H Q => ∃ (a : Addr) (L : List Str), xs = [V.ref a] ∧ H a = some (SetXO P w a L) ∧ Q (.int L.length) H
theorem call_lenX : CallR X (.builtin "len") (rLenX X.prog X.w) := by
  intro pins s σ H xs us Q I r h
  obtain ⟨a, L, rfl, ha, q⟩ := h
  rw [Vals.ref1 r]
  obtain ⟨o, es, ep, t, ho, hx, hd, _, pm, _, hb, hf, _⟩ := setX_get I ha
  have hz := SetX.size pm
  have hb' : L.length < 4096 := hb
  refine call_len_set ho hx hd hf (by rw [hz]; omega) ⟨.int L.length, H, I.tok _, ⟨_, by rw [hz]⟩, q⟩
end
end Ev

namespace Ev
open PySem PySem.Spec L2 PyProof.Rows

/-! ### flat tuples, in order -/
theorem ltF_irr (a : List DKey) : ltF a a = false := lex_irrefl (O := itemOrd) a
theorem ltF_trans {a b c : List DKey} (h : ltF a b = true) (h' : ltF b c = true) : ltF a c = true := lex_trans (O := itemOrd) a b c h h'
theorem ltF_tot {a b : List DKey} (h : ltF a b = false) (h' : ltF b a = false) : a = b := lex_total (O := itemOrd) a b h h'
theorem leF_total : PySem.W.TotalLe fun a b : List DKey => !ltF b a := PySem.W.sortLe_total (listOrd itemOrd) false (fun a : List DKey => a)
/-- sorted lists with the same members, each as often, are one -/
theorem upF_unique : ∀ {l l' : List (List DKey)}, l.Perm l' → (l.Pairwise fun a b => (!ltF b a) = true) → (l'.Pairwise fun a b => (!ltF b a) = true) → l = l'
  | [], l', p, _, _ => List.Perm.nil_eq p
  | x :: l, [], p, _, _ => by simpa using p.length_eq
  | x :: l, y :: l', p, h, h' => by
    obtain ⟨h1, h2⟩ := List.pairwise_cons.mp h
    obtain ⟨k1, k2⟩ := List.pairwise_cons.mp h'
    have e : x = y := by
      rcases List.mem_cons.mp (p.mem_iff.mpr List.mem_cons_self) with a | a
      · exact a.symm
      · rcases List.mem_cons.mp (p.mem_iff.mp List.mem_cons_self) with b | b
        · exact b
        · have c1 := h1 y a
          have c2 := k1 x b
          rw [Bool.not_eq_true'] at c1 c2
          exact ltF_tot c2 c1
    subst e
    rw [upF_unique ((List.perm_cons x).mp p) h2 k2]
/-- the key of a text's Str -/
def kd1 : L2.Key → DKey
  | .inl i => .inl i
  | .inr x => .inr x.cps.toList
def kd (q : FK) : List DKey := q.map kd1
def sk1 : DKey → L2.Key
  | .inl i => .inl i
  | .inr x => .inr (mkS x)
def sk (q : List DKey) : FK := q.map sk1
theorem kd_sk (q : List DKey) : kd (sk q) = q := by
  unfold kd sk
  rw [List.map_map]
  refine (List.map_congr_left fun x _ => ?_).trans (List.map_id _)
  cases x <;> rfl
theorem sk_inj {a b : List DKey} (h : sk a = sk b) : a = b := by rw [← kd_sk a, ← kd_sk b, h]
theorem kd_inj {a b : FK} (h : kd a = kd b) : a = b := by
  have e : ∀ q : FK, sk (kd q) = q := fun q => by
    unfold kd sk
    rw [List.map_map]
    refine (List.map_congr_left fun x _ => ?_).trans (List.map_id _)
    cases x with
    | inl i => rfl
    | inr x => cases x; rfl
  rw [← e a, ← e b, h]
theorem toks1 (x : DKey) : PySem.W.keyToks (enc1 x) = [x] := by cases x <;> rfl
theorem dataLt_flat : ∀ a b : List DKey, lexLt itemOrd (PySem.W.keyToksAll (a.map enc1)) (PySem.W.keyToksAll (b.map enc1)) = ltF a b
  | [], [] => rfl
  | [], y :: b => by
    rw [List.map_nil, List.map_cons, PySem.W.toks_all_cons]
    rfl
  | x :: a, [] => by
    rw [List.map_nil, List.map_cons, PySem.W.toks_all_cons]
    rfl
  | x :: a, y :: b => by
    rw [List.map_cons, List.map_cons, PySem.W.toks_all_cons, PySem.W.toks_all_cons, toks1, toks1]
    rw [lex_self]
    show lexLt itemOrd (x :: PySem.W.keyToksAll (a.map enc1)) (y :: PySem.W.keyToksAll (b.map enc1)) = lexLt itemOrd (x :: a) (y :: b)
    rw [lex_cons, lex_cons, dataLt_flat a b]
theorem dataLt_tup (a b : List DKey) : PySem.W.dataLt (.tuple (a.map enc1)) (.tuple (b.map enc1)) = ltF a b := (PySem.W.dataLt_tuple _ _).trans (dataLt_flat a b)
theorem addF_mem {L : List (List DKey)} {x y : List DKey} : y ∈ addF L x ↔ y ∈ L ∨ y = x := by
  unfold addF
  split
  · rename_i h
    exact ⟨.inl, fun h' => h'.elim id fun e => e ▸ h⟩
  · simp
theorem addFs_mem {y : List DKey} : ∀ {l L : List (List DKey)}, y ∈ addFs L l ↔ y ∈ L ∨ y ∈ l
  | [], L => by simp [addFs]
  | x :: l, L => by
    unfold addFs
    rw [addFs_mem, addF_mem, List.mem_cons, or_assoc]
theorem addFs_nodup : ∀ {l L : List (List DKey)}, L.Nodup → (addFs L l).Nodup
  | [], L, h => h
  | x :: l, L, h => by
    unfold addFs
    refine addFs_nodup ?_
    unfold addF
    split
    · exact h
    · rename_i hx
      exact List.nodup_append.mpr ⟨h, by simp, fun a ha b hb => by rw [List.mem_singleton.mp hb]; exact fun e => hx (e ▸ ha)⟩
theorem sortF_up (L : List (List DKey)) : (sortF L).Pairwise fun a b => (!ltF b a) = true := PySem.W.sort_pairwise leF_total L
theorem sortF_perm (L : List (List DKey)) : (sortF L).Perm L := List.mergeSort_perm _ _

/-! ### over the heap -/
theorem perm_of_map {α β : Type} {f : α → β} {l l' : List β} (p : l.Perm l') : ∀ {m : List α}, l' = m.map f → ∃ k : List α, k.Perm m ∧ l = k.map f := by
  induction p with
  | nil =>
    intro m e
    cases m with
    | nil => exact ⟨[], List.Perm.refl _, rfl⟩
    | cons _ _ => cases e
  | cons x p ih =>
    intro m e
    cases m with
    | nil => cases e
    | cons a m =>
      rw [List.map_cons] at e
      obtain ⟨e1, e2⟩ := List.cons.inj e
      obtain ⟨k, h1, h2⟩ := ih e2
      exact ⟨a :: k, h1.cons a, by rw [List.map_cons, h2, e1]⟩
  | swap x y l =>
    intro m e
    match m, e with
    | a :: b :: m, e =>
      rw [List.map_cons, List.map_cons] at e
      obtain ⟨e1, e2⟩ := List.cons.inj e
      obtain ⟨e3, e4⟩ := List.cons.inj e2
      exact ⟨b :: a :: m, .swap _ _ _, by rw [List.map_cons, List.map_cons, e1, e3, e4]⟩
  | trans p q ih1 ih2 =>
    intro m e
    obtain ⟨k, h1, h2⟩ := ih2 e
    obtain ⟨k2, h3, h4⟩ := ih1 h2
    exact ⟨k2, h3.trans h1, h4⟩
section
variable {P : Program} {w : World} {A : Around} {E : Value → Shared → Prop} {s : Shared} {z : Addr} {R : List (Addr × FK)} {ms : Array (Int × Value)} {ep : Nat} {tb : SetTable}
def encFM (m : Addr × FK) : PyData := .tuple ((kd m.2).map enc1)
theorem reads_items {g : Heap} : ∀ {q : FK} {vs : List Value}, ItemsAre (mixKind P w) q vs → ReadsAll g vs ((kd q).map enc1) []
  | _, _, .nil => .nil
  | _, _, @ItemsAre.cons _ _ _ _ _ k v ks vs e t => by
    have r := reads_items (g := g) t
    rcases keyIs_shape (k := k) (v := v) e with ⟨i, t, rfl, rfl⟩ | ⟨x, t, rfl, rfl⟩
    · exact .cons (.int _ _) r
    · have e : Reads g (Value.str x t) (enc1 (kd1 (Sum.inr x))) [] := by
        show Reads g (Value.str x t) (.str (mkS x.cps.toList)) []
        rw [mkS_of]
        exact .str _ _
      exact .cons e r
theorem reads_flat {g : Heap} {m : Addr × FK} (h : FAt P w g m.2 m.1) : Reads g (.ref m.1) (encFM m) [] := by
  obtain ⟨o, its, c, ho, hc, hd, hi⟩ := h
  exact .tuple ho hc hd (reads_items hi)
/-- sorted(the set) -/
theorem tset_sorted {Q : Value → Shared → Prop} (T : TSet P w s.heap z R ms ep tb) (hh : A.handled = none) (hu : A.units + 100 < cLine) (hal : PySem.W.AllAlike (R.map encFM)) (hk : PySem.W.Sortable (R.map encFM))
    (hQ : ∀ s' p (out : List (Addr × FK)) (c : Nat), (∀ b o, s.heap.get? b = some o → s'.heap.get? b = some o) → s'.gens = s.gens → s'.os = s.os → s.heap.objs.size ≤ p →
      s'.heap.get? p = some (seqObj "list" (out.map fun m => Value.ref m.1).toArray c) → out.Perm R → (out.Pairwise fun a b => (!ltF (kd b.2) (kd a.2)) = true) → Q (.ref p) s') :
    wpAny (model P w) A (call (.builtin "sorted") [.ref z]) Q E s := by
  obtain ⟨o, ho, hx, hd⟩ := T.obj
  have hz := T.size
  have few := T.few
  refine Calls.call_function_entry kind_sorted plain_sorted entry_sorted (args_sorted1 _) ?_
  unfold Builtin.«sorted»
  refine wpAny_bind (m := checkCount "sorted" 1 1 _) (wpAny_pure ?_)
  refine wpAny_bind (collect_set (A := A.in1) hh ⟨o, ho, hx.1, hd⟩ T.fit (by unfold scanBound; omega) T.tab.ris T.ldd fun s1 vs k1 hz1 g1 o1 pv => ?_)
  rw [T.row, List.map_map] at pv
  obtain ⟨B, pB, rfl⟩ := perm_of_map pv rfl
  have hB : B.length < 64 := by rw [pB.length_eq]; exact few
  have hvz : (B.map ((·.2) ∘ rowV P w)).length ≤ sizeLine := by rw [List.length_map, sizeLine_eq]; omega
  refine wpAny_bind (wpAny_newList ?_ hvz)
  have hoL : (s1.heap.push (seqObj "list" (B.map ((·.2) ∘ rowV P w)).toArray 0)).get? s1.heap.objs.size = some (seqObj "list" (B.map ((·.2) ∘ rowV P w)).toArray 0) := Heap.get?_push_size _ rfl
  have kk : ∀ b o, s.heap.get? b = some o → (s1.heap.push (seqObj "list" (B.map ((·.2) ∘ rowV P w)).toArray 0)).get? b = some o := fun b o e => Heap.get?_push_of_some _ (k1 b o e)
  have each : ∀ l : List (Addr × FK), (∀ m ∈ l, m ∈ R) → PySem.W.EachIs (fun v m => v = Value.ref m.1) (l.map ((·.2) ∘ rowV P w)) l ∧
      PySem.W.EachIs (fun v b => ∃ as, Reads (s1.heap.push (seqObj "list" (B.map ((·.2) ∘ rowV P w)).toArray 0)) v (encFM b) as ∧ s1.heap.objs.size ∉ as) (l.map ((·.2) ∘ rowV P w)) l := by
    intro l
    induction l with
    | nil => exact fun _ => ⟨.nil, .nil⟩
    | cons m l ih =>
      intro hl
      obtain ⟨e1, e2⟩ := ih fun x hx => hl x (List.mem_cons_of_mem _ hx)
      exact ⟨.cons rfl e1, .cons ⟨[], reads_flat (flat_kept (T.ats m (hl m List.mem_cons_self)) kk), by simp⟩ e2⟩
  obtain ⟨e1, e2⟩ := each B fun m hm => pB.mem_iff.mp hm
  have hal' : PySem.W.AllAlike (B.map encFM) := fun d hd e he => hal d ((pB.map encFM).mem_iff.mp hd) e ((pB.map encFM).mem_iff.mp he)
  have hk' : PySem.W.Sortable (B.map encFM) := hk.imp (fun h d hd => h d ((pB.map encFM).mem_iff.mp hd)) fun h d hd => h d ((pB.map encFM).mem_iff.mp hd)
  refine wpAny_bind (wpAny_holding (PySem.W.list_sort_data (s := { s1 with heap := s1.heap.push (seqObj "list" (B.map ((·.2) ∘ rowV P w)).toArray 0) }) hoL e1 e2 hal' hk' (by rw [sizeLine_eq]; omega) (fun b hb => ?_) fun out ol eo => ?_))
  · have : (encFM b).depth ≤ 1 := by
      unfold encFM
      rw [PyData.depth]
      have : PyData.depthAll ((kd b.2).map enc1) ≤ 0 := depthAll_le fun d hd => by
        obtain ⟨x, _, rfl⟩ := List.mem_map.mp hd
        cases x <;> exact Nat.le_refl _
      omega
    have : A.in1.units = A.units + 1 := rfl
    omega
  · obtain ⟨c, hc⟩ := sortedHeap_at (vs := B.map ((·.2) ∘ rowV P w)) (out := out.toArray) hoL
    have eo2 : out = (B.mergeSort (PySem.W.dataLe false encFM)).map fun m => Value.ref m.1 := by
      have : ∀ {us : List Value} {l : List (Addr × FK)}, PySem.W.EachIs (fun v m => v = Value.ref m.1) us l → us = l.map fun m => Value.ref m.1 := by
        intro us l h
        induction h with
        | nil => rfl
        | cons e _ ih => rw [List.map_cons, ← ih, e]
      exact this eo
    subst eo2
    refine wpAny_pure ⟨_, rfl, hQ _ s1.heap.objs.size _ c (fun b v q => ?_) g1 o1 hz1 hc ((List.mergeSort_perm _ _).trans pB) ?_⟩
    · have q := k1 b v q
      have hlt := Heap.lt_size q
      show (sortedHeap _ s1.heap.objs.size _ _).get? b = some v
      rw [sortedHeap_old (Nat.ne_of_lt hlt) (by rw [size_push']; exact Nat.lt_succ_of_lt hlt)]
      exact Heap.get?_push_of_some _ q
    · refine (PySem.W.sort_pairwise (PySem.W.sortLe_total (listOrd itemOrd) false fun m => PySem.W.keyToks (encFM m)) B).imp fun {a b} h => ?_
      have h : (!PySem.W.dataLt (encFM b) (encFM a)) = true := h
      unfold encFM at h
      rwa [dataLt_tup] at h
end

/-! ### calls -/
/-- the set, without what its members' own objects say -/
def FSet (P : Program) (w : World) (g : Heap) (z : Addr) (R : List (Addr × FK)) : Prop := ∃ ms ep tb, (∃ ob, g.get? z = some ob ∧ ob.ExactSet ∧ ob.data = .set ms ep tb) ∧ ms.toList = R.map (rowV P w) ∧ TabOk tb (R.map fun m => fkh P w m.2) ∧
  (R.map (·.2)).Nodup ∧ (w.params.followText "set-order" = true ∨ tb.led = true) ∧ R.length * 5 < tb.mask * 3 ∧ R.length < 64
def FSetO (P : Program) (w : World) (z : Addr) (R : List (Addr × FK)) : HO := .ext fun g => FSet P w g z R
theorem fset_obj {P : Program} {w : World} {H : Hp} {g : Heap} {z : Addr} {R : List (Addr × FK)} (T : FSet P w g z R) : ObjOk P w H g z (FSetO P w z R) := by
  have ⟨_, _, _, ⟨o, ho, _⟩, _⟩ := T
  exact ⟨T, ⟨o, ho⟩, fun h1 h2 ⟨ms, ep, tb, ⟨o, ho, r⟩, q⟩ k => ⟨ms, ep, tb, ⟨o, k o ho, r⟩, q⟩⟩
theorem items_flat {P : Program} {w : World} : ∀ {q : FK} {us : List Value}, Vals (q.map L2.kV) us → ItemsAre (mixKind P w) q us
  | [], _, .nil => .nil
  | .inl i :: q, _, .cons r t => by
    obtain ⟨u, rfl⟩ := r
    exact .cons (mixKind_int P w i u) (items_flat t)
  | .inr x :: q, _, .cons r t => by
    obtain ⟨u, rfl⟩ := r
    exact .cons (mixKind_str P w x u) (items_flat t)
theorem refs_flat : ∀ {ks : List (Addr × FK)} {us : List Value}, Vals (ks.map fun m => V.ref m.1) us → us = ks.map fun m => Value.ref m.1
  | [], _, .nil => rfl
  | m :: ks, _, .cons r t => by
    cases r
    rw [List.map_cons, ← refs_flat t]
theorem vals_flat : ∀ ks : List (Addr × FK), Vals (ks.map fun m => V.ref m.1) (ks.map fun m => Value.ref m.1)
  | [] => .nil
  | m :: ks => .cons rfl (vals_flat ks)
section
variable {X : Cx}
theorem flat_at {pins : List (Addr × Obj)} {σ : L2.St} {H : Hp} {s : Shared} {b : Addr} {q : FK} (I : L2.Inv X pins σ H s) (h : SqT X.K H b (q.map L2.kV)) : FAt X.prog X.w s.heap q b := by
  obtain ⟨its, r, ⟨o, ho, hc, n, hd⟩, _⟩ := I.tuple h
  exact ⟨o, its.toArray, n, ho, hc, hd, by simpa using items_flat r⟩
def rSetF (K : PySem.W.Frag) (P : Program) (w : World) : List V → Hp → VK → Prop := fun xs H Q => ∃ (l : Addr) (ks : List (Addr × FK)), xs = [V.ref l] ∧ (SqL K H l (ks.map fun m => V.ref m.1) ∨ SqT K H l (ks.map fun m => V.ref m.1)) ∧ (∀ m ∈ ks, SqT K H m.1 (m.2.map L2.kV)) ∧ ks.length < 64 ∧
  ∀ p R, H p = none → (∀ m ∈ R, m ∈ ks) → (∀ m ∈ ks, m.2 ∈ R.map (·.2)) → (R.map (·.2)).Nodup → Q (.ref p) (upd H p (FSetO P w p R))
theorem call_setF (hc : X.calm = true) (hu : X.A.units + 100 < cLine) : CallR X (.type "set") (rSetF X.K X.prog X.w) := by
  intro pins s σ H xs us Q I r h
  obtain ⟨l, ks, rfl, hl, hk, few, q⟩ := h
  rw [Vals.ref1 r]
  have go : ∀ its : List Value, (s.heap.IsList l its.toArray ∨ s.heap.IsTuple l its.toArray) → Vals (ks.map fun m => V.ref m.1) its → wpAny (model X.prog X.w) X.A (call (.type "set") [.ref l]) (EP X pins σ Q) X.xe s := fun its hl rv => by
    refine tset_of (P := X.prog) (w := X.w) ks (I.ok.hd hc) hl (by simpa using refs_flat rv) (fun m hm => flat_at I (hk m hm)) few (by omega) fun g tk R ms ep tb T so k => ?_
    refine ⟨.ref _, _, I.laid (t' := tk) k (Nat.le_refl _) (fset_obj ⟨ms, ep, tb, T.obj, T.row, T.tab, T.one, T.ldd, T.rm, T.few⟩), rfl, q _ R (I.hok.fresh (Nat.le_refl _)) (fun m hm => List.mem_of_mem_take (so.of m hm)) (fun m hm => so.all m (by rw [List.take_length]; exact hm)) T.one⟩
  rcases hl with hl | hl
  · obtain ⟨its, rv, pl, _⟩ := I.list hl
    exact go its (.inl pl.isList) rv
  · obtain ⟨its, rv, pl, _⟩ := I.tuple hl
    exact go its (.inr pl) rv
def rSortF (K : PySem.W.Frag) (P : Program) (w : World) : List V → Hp → VK → Prop := fun xs H Q => ∃ (a : Addr) (R : List (Addr × FK)), xs = [V.ref a] ∧ H a = some (FSetO P w a R) ∧ (∀ m ∈ R, SqT K H m.1 (m.2.map L2.kV)) ∧ PySem.W.AllAlike (R.map encFM) ∧ PySem.W.Sortable (R.map encFM) ∧
  ∀ (p : Addr) (out : List (Addr × FK)), H p = none → out.Perm R → (out.Pairwise fun a b => (!ltF (kd b.2) (kd a.2)) = true) → Q (.ref p) (upd H p (.lst (out.map fun m => V.ref m.1)))
theorem call_sortF (hc : X.calm = true) (hu : X.A.units + 100 < cLine) : CallR X (.builtin "sorted") (rSortF X.K X.prog X.w) := by
  intro pins s σ H xs us Q I r h
  obtain ⟨a, R, rfl, ha, hk, hal, hs, q⟩ := h
  obtain ⟨ms, ep, tb, h1, h2, h3, h4, h5, h6, h7⟩ := (I.hok a _ ha).1
  rw [Vals.ref1 r]
  have T : TSet X.prog X.w s.heap a R ms ep tb := ⟨h1, h2, h3, h4, fun m hm => flat_at I (hk m hm), h5, h6, h7⟩
  refine tset_sorted T (I.ok.hd hc) hu hal hs fun s' p out c k g o hp hg pm up => ?_
  have hn : H p = none := I.hok.fresh hp
  have hlen : (out.map fun m => V.ref m.1).length ≤ sizeLine := by rw [List.length_map, pm.length_eq, sizeLine_eq]; omega
  have J : L2.Inv X pins σ (upd H p (.lst (out.map fun m => V.ref m.1))) { s with heap := s'.heap, gens := s'.gens, drawn := s'.drawn, toks := s'.toks } :=
    I.call (ch := []) (Un.laid k hp hn) (I.hok.laid k hp ⟨hlen, _, c, vals_flat out, hg⟩) (by rw [g]; exact I.bare) (fun _ z => nomatch z)
  have e : s' = { s with heap := s'.heap, gens := s'.gens, drawn := s'.drawn, toks := s'.toks } := by
    cases s'
    cases s
    cases o
    rfl
  rw [e]
  exact ⟨.ref p, _, J, rfl, q p out hn pm up⟩
end

/-! ### over the terms -/
theorem itemF_val : ∀ {d : D} {x : DKey}, itemF d = some x → d = valF x
  | .int i, _, h => by cases h; rfl
  | .str s, _, h => by cases h; rfl
theorem itemsF_val : ∀ {l : List D} {k : List DKey}, omap itemF l = some k → l = k.map valF
  | [], _, h => by cases h; rfl
  | d :: l, k, h => by
    obtain ⟨b, bs, h1, h2, rfl⟩ := omap_cons h
    rw [List.map_cons, ← itemsF_val h2, itemF_val h1]
theorem keyF_val {d : D} {k : List DKey} (h : keyF d = some k) : d = tupF k := by
  cases d with
  | tup l => exact congrArg D.tup (itemsF_val h)
  | _ => cases h
theorem relL_flat {K : PySem.W.Frag} {H : Hp} {ι : Ix} : ∀ {k : List DKey} {vs : List V}, RelL K H ι (k.map valF) vs → vs = (sk k).map L2.kV
  | [], _, .nil => rfl
  | .inl i :: k, _, .cons r t => by
    cases r
    rw [relL_flat t]
    rfl
  | .inr x :: k, _, .cons r t => by
    cases r
    rw [relL_flat t]
    rfl
/-- the tuples with their addresses -/
theorem rel_keys {K : PySem.W.Frag} {H : Hp} {ι : Ix} : ∀ {l : List D} {ks : List (List DKey)} {vs : List V}, omap keyF l = some ks → RelL K H ι l vs →
    ∃ ms : List (Addr × FK), vs = ms.map (fun m => V.ref m.1) ∧ ms.map (fun m => kd m.2) = ks ∧ (∀ m ∈ ms, SqT K H m.1 (m.2.map L2.kV)) ∧ ∀ m ∈ ms, Rel K H ι (tupF (kd m.2)) (.ref m.1)
  | [], _, _, h, .nil => by
    cases h
    exact ⟨[], rfl, rfl, fun m hm => (by cases hm), fun m hm => (by cases hm)⟩
  | d :: l, _, _, h, .cons r t => by
    obtain ⟨k, ks, h1, h2, rfl⟩ := omap_cons h
    obtain ⟨ms, e1, e2, e3, e4⟩ := rel_keys h2 t
    have e := keyF_val h1
    subst e
    have r0 := r
    cases r with
    | @tup _ a xs hs hr =>
      have ex := relL_flat hr
      subst ex
      refine ⟨(a, sk k) :: ms, by rw [List.map_cons, e1], by rw [List.map_cons, e2, kd_sk], fun m hm => ?_, fun m hm => ?_⟩
      · rcases List.mem_cons.mp hm with rfl | hm
        · exact hs
        · exact e3 m hm
      · rcases List.mem_cons.mp hm with rfl | hm
        · show Rel K H ι (tupF (kd (sk k))) (.ref a)
          rw [kd_sk]
          exact r0
        · exact e4 m hm
end Ev

namespace Ev
open PySem PySem.Spec L2

/-! ### t[::-1] of a tuple -/
theorem places_rev (n : Nat) : Builtin.Slice.slicePlaces ((n : Int) - 1) (-1) (-1) = n := by
  unfold Builtin.Slice.slicePlaces
  rw [if_neg (by decide)]
  split
  · have : ((n : Int) - 1 - -1 - 1) / -(-1) + 1 = (n : Int) := by
      have e : (-(-1) : Int) = 1 := by decide
      rw [e, Int.ediv_one]; omega
    rw [this]; simp
  · omega
theorem pick_rev (xs : Array Value) : ((List.range xs.size).filterMap fun (m : Nat) => xs[(((xs.size : Int) - 1) + (m : Int) * -1).toNat]?).toArray = xs.toList.reverse.toArray := by
  congr 1
  apply List.ext_getElem?
  intro i
  by_cases hi : i < xs.size
  · have h1 : ∀ (l : List Nat), (∀ m ∈ l, m < xs.size) → (l.filterMap fun (m : Nat) => xs[(((xs.size : Int) - 1) + (m : Int) * -1).toNat]?) = l.map fun m => xs.toList.getD (xs.size - 1 - m) .none := by
      intro l
      induction l with
      | nil => intro _; rfl
      | cons a l ih =>
        intro h
        have ha := h a List.mem_cons_self
        have e : (((xs.size : Int) - 1) + (a : Int) * -1).toNat = xs.size - 1 - a := by omega
        have hlt : xs.size - 1 - a < xs.size := by omega
        rw [List.filterMap_cons, e, Array.getElem?_eq_getElem hlt, List.map_cons, ih fun m hm => h m (List.mem_cons_of_mem _ hm)]
        simp [List.getD, hlt]
    rw [h1 _ fun m hm => List.mem_range.mp hm]
    have hlt : xs.size - 1 - i < xs.size := by omega
    simp [List.getD, hi, hlt]
  · have h2 : ((List.range xs.size).filterMap fun (m : Nat) => xs[(((xs.size : Int) - 1) + (m : Int) * -1).toNat]?).length ≤ xs.size := by
      refine Nat.le_trans (List.length_filterMap_le _ _) (by simp)
    rw [List.getElem?_eq_none (by omega), List.getElem?_eq_none (by simp; omega)]
section
variable {prog : Program} {w : World} {A : Around} {E : Value → Shared → Prop} {s : Shared}
theorem applied_rev {sl : Addr} {vl vu vs : Value} {n : Nat} {Q : Int × Int × Nat → Shared → Prop} (hs : s.heap.IsSliceOf sl vl vu vs) (pl : IsPart vl none) (pu : IsPart vu none) (ps : IsPart vs (some (-1))) (h : Q ((n : Int) - 1, -1, n) s) :
    wpAny (model prog w) A (Builtin.Slice.sliceApplied (.ref sl) (pure (n : Int))) Q E s := by
  obtain ⟨os, hos, hcs, hds⟩ := id hs
  unfold Builtin.Slice.sliceApplied Builtin.Slice.sliceFields
  refine wpAny_bind (wpAny_bind (wpAny_field hos hds (x := vl) rfl (wpAny_bind (wpAny_field hos hds (x := vu) rfl (wpAny_bind (wpAny_field hos hds (x := vs) rfl (wpAny_pure ?_)))))))
  refine wpAny_bind (HT.slicePart_ ps ?_)
  show wpAny _ _ (if ((-1 : Int) == 0) = true then _ else _) _ _ s
  rw [if_neg (by decide)]
  refine wpAny_bind (HT.slicePart_ pl (wpAny_bind (HT.slicePart_ pu (wpAny_bind (wpAny_pure ?_)))))
  show wpAny _ _ (pure (((n : Int) - 1), (-1 : Int), Builtin.Slice.slicePlaces ((n : Int) - 1) (-1) (-1))) _ _ s
  rw [places_rev]
  exact wpAny_pure h
theorem getItem_rev {t sl : Addr} {items : Array Value} {vl vu vs : Value} {Q : Value → Shared → Prop} (ht : PyProof.Rows.IsTup s.heap t items) (hs : s.heap.IsSliceOf sl vl vu vs) (pl : IsPart vl none) (pu : IsPart vu none) (ps : IsPart vs (some (-1)))
    (h : Q (.ref s.heap.objs.size) { s with heap := s.heap.push { cls := .type "tuple", data := .seq items.toList.reverse.toArray } }) (hsz : items.size ≤ sizeLine) : wpAny (model prog w) A (getItem (.ref t) (.ref sl)) Q E s := by
  have htake : sizeOk (.seq items.toList.reverse.toArray) := by
    show items.toList.reverse.toArray.size ≤ sizeLine
    simpa using hsz
  obtain ⟨os, hos, hcs, hds⟩ := id hs
  have hTs : s.TypeIs (.ref sl) "slice" := ⟨os, hos, hcs⟩
  unfold getItem
  try with_reducible refine wpAny_holding ?_
  first | refine wpAny_bind (wpAny_pure ?_) | skip
  refine wpAny_bind (wpAny_sequenceKey ht.typeIs (by decide) ?_)
  refine wpAny_bind (wpAny_callSpecial?_slot (name := Str.ofString "__getitem__") ht.typeIs PyProof.Rows.slot_tuple_getitem
    (wpAny_call_entry PyProof.Rows.slot_tuple_getitem ht.typeIs PyProof.Rows.entry_tuple_getitem ?_ (PyProof.Rows.args_tuple_getitem _ _)))
  show wpAny _ _ (Builtin.Tuple.tupleItemsOf (.ref t) >>= _) _ _ s
  refine wpAny_bind (PyProof.Rows.tupleItemsOf_ ht ?_)
  refine wpAny_bind (wpAny_typeOf hTs ?_)
  rw [if_pos (by decide)]
  refine wpAny_bind (applied_rev hs pl pu ps ?_)
  have hno : ¬ (((((items.size : Nat) : Int) - 1) == 0 && (-1 : Int) == 1 && items.size == items.size) = true) := by simp
  show wpAny _ _ (if ((((items.size : Nat) : Int) - 1) == 0 && (-1 : Int) == 1 && items.size == items.size) = true then _ else _) _ _ s
  rw [if_neg hno, pick_rev]
  first
    | exact wpAny_bind (m := Builtin.Tuple.tupleExact _) (wpAny_newObj_type (wpAny_pure ⟨_, rfl, wpAny_pure h⟩) htake)
    | exact wpAny_bind (m := Builtin.Tuple.tupleExact _) (wpAny_newObj_type (wpAny_bind (wpAny_pure (wpAny_pure ⟨_, rfl, wpAny_pure h⟩))) htake)
    | exact wpAny_bind (wpAny_bind (m := Builtin.Tuple.tupleExact _) (wpAny_newObj_type (wpAny_pure (wpAny_pure ⟨_, rfl, wpAny_pure h⟩)) htake))
end
section
variable {X : Cx}
theorem pe_revT {e : Expr} {te : TE} {k : Nat} {p1 p2 p3 pos : Pos} (he : PE X e te) :
    PE X (.Subscript e (.Slice none none (some (.UnaryOp .USub (.Constant (.int 1) k p1) p2)) p3) pos) (fun σ H Q => te σ H fun x H1 => ∃ a xs, x = .ref a ∧ SqT X.K H1 a xs ∧ ∀ p, H1 p = none → Q (.ref p) (upd H1 p (.tup xs.reverse))) := by
  refine ⟨fun pins s σ H Q I h => ?_⟩
  refine PyProof.Rows.Subscript_ (thn (he.run pins s σ H _ I h) fun v s1 ⟨x, H1, I1, r1, q1⟩ => ?_)
  obtain ⟨a, xs, ex, hx, q⟩ := q1
  subst ex
  cases r1
  have hst : PO X (some (.UnaryOp .USub (.Constant (.int 1) k p1) p2)) (tPart (tUn (rU fun i => .int (-i)) (tC (.int 1)))) := po_some (pe_un un_neg pe_int)
  refine wpAny_Slice (thn (po_none.run pins s1 σ H1 (fun o H2 => o = none ∧ H2 = H1) I1 ⟨rfl, rfl⟩) fun vl s2 ⟨l, H2, I2, pl, el, e2⟩ => ?_)
  subst el e2
  refine thn (po_none.run pins s2 σ H2 (fun o H3 => o = none ∧ H3 = H2) I2 ⟨rfl, rfl⟩) fun vu s3 ⟨u, H3, I3, pu, eu, e3⟩ => ?_
  subst eu e3
  refine thn (hst.run pins s3 σ H3 (fun o H4 => o = some (-1) ∧ H4 = H3) I3 ⟨1, rfl, -1, rfl, rfl, rfl⟩) fun vs s4 ⟨o, H4, I4, ps, eo, e4⟩ => ?_
  subst eo e4
  have I5 : Inv X pins σ H4 { s4 with heap := s4.heap.push { cls := .type "slice", data := .fields #[vl, vu, vs] } } := I4.kept (t' := s4.toks) fun b ob q => Heap.get?_push_of_some _ q
  obtain ⟨its, r, ht, hz⟩ := I5.tuple hx
  have hlen := r.length
  show wpAny (model X.prog X.w) X.A (PyProof.Rows.subscriptTail e (.Slice none none (some (.UnaryOp .USub (.Constant (.int 1) k p1) p2)) p3) (.ref a) (.ref s4.heap.objs.size)) (EP X pins σ Q) X.xe { s4 with heap := s4.heap.push { cls := .type "slice", data := .fields #[vl, vu, vs] } }
  refine PyProof.Rows.tail_any (ops := [.ref a, .ref s4.heap.objs.size]) ht.typeIs (PyProof.Rows.slot_tuple_getitem.lookup) ?_ (by with_unfolding_all rfl)
  refine getItem_rev ht (Heap.IsSliceOf.new _ vl vu vs) pl pu ps ?_ (by rw [List.size_toArray]; omega)
  refine ⟨.ref _, _, I5.laid (t' := s4.toks) (o := .tup xs.reverse) (fun b ob q => Heap.get?_push_of_some _ q) (Nat.le_refl _) ?_, rfl, q _ (I5.hok.fresh (Nat.le_refl _))⟩
  exact ⟨by rw [List.length_reverse]; exact hz, _, r.reverse, PyProof.Rows.IsTup.new _ _⟩
end
end Ev

namespace Ev
open PySem PySem.Spec L2

section
variable {X : Cx} {G : Cfg} {N : List Str} {c : Call} {kw : Kwp} {k : Nat} {pos : Pos}
theorem glo_ok {sc : Scope} {x : Str} (h : gloB sc x = true) (hs : X.env.scope = sc) : Gl X x := by
  subst hs
  have h2 : X.env.scope.names.lookup x = some .globalImplicit := of_decide_eq_true h
  exact h2
/-- a name of the def -/
theorem pe_nameE {x : Str} {i : Nat} (hX : XOk G N c kw k X) (ho : oddName x = false) (hv : visB X.env.scope x = true) (hi : idxOf x N = some i) : PE X (.Name x pos) (TV X.K (ev c kw (.var i))) := by
  obtain ⟨h1, h2, _⟩ := oddName_ok ho
  refine peImp (pe_var (by rw [hX.eN]; exact idxOf_get hi) (visB_ok hv) h1 h2) fun σ H Q h => ?_
  obtain ⟨ι, ρ, μ, d, μ', he, hs, hf, ha⟩ := h
  simp only [ev] at hf
  split at hf
  · rename_i d' hd
    cases hf
    obtain ⟨v, q1, q2⟩ := he.get i _ hd
    exact ⟨v, q1, ha.here hs q2⟩
  · cases hf
theorem pe_cnsE {x : Str} {d : DKey} {e : E} {dv : D} (hX : XOk G N c kw k X) (ho : oddName x = false) (hg : Gl X x) (hc : G.cns.lookup x = some d) (he : ∀ ρ μ, ev c kw e ρ μ = .ok dv μ) (hr : ∀ K H ι, Rel K H ι dv (kV (keyK d))) : PE X (.Name x pos) (TV X.K (ev c kw e)) := by
  obtain ⟨h1, h2, _⟩ := oddName_ok ho
  obtain ⟨u, hm, r⟩ := hX.cns x d hc
  refine peImp (pe_glob hg hm r h1) fun σ H Q h => ?_
  obtain ⟨ι, ρ, μ, d', μ', hen, hs, hf, ha⟩ := h
  rw [he] at hf
  cases hf
  exact ha.here hs (hr _ _ _)
/-- a written value -/
theorem pe_cstE {e : Expr} {e' : E} {v : V} {dv : D} (h : PE X e (tC v)) (he : ∀ ρ μ, ev c kw e' ρ μ = .ok dv μ) (hr : ∀ K H ι, Rel K H ι dv v) : PE X e (TV X.K (ev c kw e')) := by
  refine peImp h fun σ H Q q => ?_
  obtain ⟨ι, ρ, μ, d', μ', hen, hs, hf, ha⟩ := q
  rw [he] at hf
  cases hf
  exact ha.here hs (hr _ _ _)
theorem pe_binE {a b : Expr} {x y : E} {o : Bop} (ha : PE X a (TV X.K (ev c kw x))) (hb : PE X b (TV X.K (ev c kw y))) : PE X (.BinOp a (opOf o) b pos) (TV X.K (ev c kw (.bin o x y))) := by
  refine peImp (pe_op (op_bin o) ha hb) fun σ H Q h => ?_
  exact TV.two (f := ev c kw x) (g := ev c kw y) (k := fun x y μ => binop o x y μ) (by simpa only [ev] using h) fun ι H μ x y d μ' u v S rx ry hk hq => ⟨ι, μ, x, y, d, μ', S, rx, ry, hk, hq⟩
theorem pe_negE {a : Expr} {x : E} (ha : PE X a (TV X.K (ev c kw x))) : PE X (.UnaryOp .USub a pos) (TV X.K (ev c kw (.neg x))) := by
  refine peImp (pe_un un_neg ha) fun σ H Q h => ?_
  refine TV.one (f := ev c kw x) (g := fun x μ => ofO ((intD x).map fun i => .int (-i)) μ) (by simpa only [ev] using h) fun ι H μ x d μ' u S rx hk hq => ?_
  obtain ⟨h1, rfl⟩ := ofO_ok hk
  obtain ⟨i, h2, rfl⟩ := map_some' h1
  cases x <;> first | (cases h2; cases rx; exact ⟨_, rfl, hq.here S (.int _)⟩) | cases h2
theorem pe_notE {a : Expr} {x : E} (ha : PE X a (TV X.K (ev c kw x))) : PE X (.UnaryOp .Not a pos) (TV X.K (ev c kw (.not x))) := by
  refine peImp (pe_not ha) fun σ H Q h => ?_
  refine TV.one (f := ev c kw x) (by simpa only [ev] using h) fun ι H μ x d μ' u S rx hk hq => ?_
  cases x with
  | bl b => cases hk; cases rx; exact ⟨b, rfl, hq.here S (.bl _)⟩
  | _ => cases hk
theorem tru_of {K : PySem.W.Frag} {ι : Ix} {H : Hp} {μ : Sto} {d : D} {v : V} {b : Bool} (S : StOk K H ι μ) (r : Rel K H ι d v) (h : truD μ d = some b) : TruV K v H b := by
  have em : ∀ {l : List D} {xs : List V}, RelL K H ι l xs → (!l.isEmpty) = !xs.isEmpty := fun r => by cases r <;> rfl
  cases d with
  | bl b => cases h; cases r; rfl
  | rol l => cases h; cases r with | rol h1 r1 => exact .inl ⟨_, h1.sq, em r1⟩
  | tup l => cases h; cases r with | tup h1 r1 => exact .inr (.inl ⟨_, h1, em r1⟩)
  | loc a =>
    unfold truD at h
    dsimp only at h
    split at h
    · rename_i l hl
      cases h
      cases r with
      | loc h1 =>
        obtain ⟨xs, e1, r1⟩ := S.lst hl h1
        exact .inl ⟨_, .inl (.inl e1), em r1⟩
    · cases h
  | _ => cases h
theorem TB.tru {K : PySem.W.Frag} {x : E} {σ : L2.St} {H : Hp} {Q : Bool → Hp → Prop} (h : TB K (ev c kw (.blt .tru [x])) σ H Q) : TV K (ev c kw x) σ H fun v H' => ∃ k, TruV K v H' k ∧ Q k H' := by
  obtain ⟨ι, ρ, μ, b, μ', he, hs, hf, hq⟩ := h
  simp only [ev, evs] at hf
  obtain ⟨xs, μ1, h1, h2⟩ := Res.bind_ok hf
  obtain ⟨d, μ2, h3, h4⟩ := Res.bind_ok h1
  cases h4
  have h5 : (match truD μ1 d with | some b => Res.ok (D.bl b) μ1 | none => .bad) = .ok (.bl b) μ' := h2
  refine ⟨ι, ρ, μ, d, μ1, he, hs, h3, fun ι' H' v g s r => ?_⟩
  cases hb : truD μ1 d with
  | none => rw [hb] at h5; cases h5
  | some b' =>
    rw [hb] at h5
    cases h5
    exact ⟨b, tru_of s r hb, hq ι' H' g s⟩
theorem pt_truE {a : Expr} {x : E} (ha : PE X a (TV X.K (ev c kw x))) (he : ∀ whole, isTrue a X.env whole = (do let v ← whole; standAt a.pos; holding [v] (truthy v))) : PT X a (TB X.K (ev c kw (.blt .tru [x]))) :=
  ptImp (pt_truth ha he) fun σ H Q h => TB.tru h
theorem pe_notT {a : Expr} {x : E} (ha : PE X a (TV X.K (ev c kw x))) : PE X (.UnaryOp .Not a pos) (TV X.K (ev c kw (.not (.blt .tru [x])))) := by
  refine ⟨fun pins s σ H Q I h => ?_⟩
  have h' : TV X.K (ev c kw x) σ H fun v H' => ∃ k, TruV X.K v H' k ∧ Q (.bl (!k)) H' := by
    refine TB.tru (c := c) (kw := kw) ?_
    obtain ⟨ι, ρ, μ, d, μ', he, hs, hf, hq⟩ := h
    simp only [ev] at hf
    obtain ⟨x1, μ1, h1, h2⟩ := Res.bind_ok hf
    cases x1 with
    | bl b =>
      cases h2
      exact ⟨ι, ρ, μ, b, μ', he, hs, by simpa only [ev] using h1, fun ι' H' g s => hq ι' H' _ g s (.bl _)⟩
    | _ => cases h2
  refine PyProof.Rows.UnaryOp_ (thn (ha.run pins s σ H _ I h') fun v s1 ⟨x, H1, I1, r1, k, q1, q2⟩ => ?_)
  exact PyProof.Rows.not_of (thn (tru_ok pins s1 σ H1 x v (fun k H => Q (.bl (!k)) H) I1 r1 ⟨k, q1, q2⟩) fun b s2 ⟨H2, I2, q⟩ => ⟨.bl (!b), H2, I2, rfl, q⟩)
theorem pt_notE {a : Expr} {x : E} (ha : PT X a (TB X.K (ev c kw x))) : PT X (.UnaryOp .Not a pos) (TB X.K (ev c kw (.not x))) := by
  refine ptImp (pt_not ha) fun σ H Q h => ?_
  simp only [ev] at h
  refine TB.seq h (fun x ρ μ d μ' h => by cases x <;> first | exact ⟨_, rfl⟩ | cases h) fun ι H ρ μ x b μ' e S hk hq => ?_
  cases hk
  exact hq ι H Grow.refl S
theorem pe_andE {a b : Expr} {rest : List Expr} {x y : E} (ha : PE X a (TV X.K (ev c kw x))) (hb : PE X (.BoolOp .And (b :: rest) pos) (TV X.K (ev c kw y))) : PE X (.BoolOp .And (a :: b :: rest) pos) (TV X.K (ev c kw (.and x y))) := by
  refine peImp (pe_and ha hb) fun σ H Q h => ?_
  simp only [ev] at h
  refine TV.seq h fun ι H ρ μ x u d μ' e S rx hk hq => ?_
  cases x with
  | bl z =>
    cases rx
    cases z with
    | true => exact ⟨true, rfl, ι, ρ, μ, d, μ', e, S, hk, hq⟩
    | false => cases hk; exact ⟨false, rfl, hq.here S (.bl _)⟩
  | _ => cases hk
theorem pe_orE {a b : Expr} {rest : List Expr} {x y : E} (ha : PE X a (TV X.K (ev c kw x))) (hb : PE X (.BoolOp .Or (b :: rest) pos) (TV X.K (ev c kw y))) : PE X (.BoolOp .Or (a :: b :: rest) pos) (TV X.K (ev c kw (.or x y))) := by
  refine peImp (pe_or ha hb) fun σ H Q h => ?_
  simp only [ev] at h
  refine TV.seq h fun ι H ρ μ x u d μ' e S rx hk hq => ?_
  cases x with
  | bl z =>
    cases rx
    cases z with
    | false => exact ⟨false, rfl, ι, ρ, μ, d, μ', e, S, hk, hq⟩
    | true => cases hk; exact ⟨true, rfl, hq.here S (.bl _)⟩
  | _ => cases hk
theorem pw_andE {a b : Expr} {rest : List Expr} {x y : E} (ha : PT X a (TB X.K (ev c kw x))) (hb : PW X (.BoolOp .And (b :: rest) pos) (TB X.K (ev c kw y))) : PW X (.BoolOp .And (a :: b :: rest) pos) (TB X.K (ev c kw (.and x y))) := by
  refine pwImp (pw_and ha hb) fun σ H Q h => ?_
  simp only [ev] at h
  refine TB.seq h (fun x ρ μ d μ' h => by cases x <;> first | exact ⟨_, rfl⟩ | cases h) fun ι H ρ μ x b μ' e S hk hq => ?_
  cases x with
  | true => exact ⟨ι, ρ, μ, b, μ', e, S, hk, hq⟩
  | false => cases hk; exact hq ι H Grow.refl S
theorem pw_orE {a b : Expr} {rest : List Expr} {x y : E} (ha : PT X a (TB X.K (ev c kw x))) (hb : PW X (.BoolOp .Or (b :: rest) pos) (TB X.K (ev c kw y))) : PW X (.BoolOp .Or (a :: b :: rest) pos) (TB X.K (ev c kw (.or x y))) := by
  refine pwImp (pw_or ha hb) fun σ H Q h => ?_
  simp only [ev] at h
  refine TB.seq h (fun x ρ μ d μ' h => by cases x <;> first | exact ⟨_, rfl⟩ | cases h) fun ι H ρ μ x b μ' e S hk hq => ?_
  cases x with
  | false => exact ⟨ι, ρ, μ, b, μ', e, S, hk, hq⟩
  | true => cases hk; exact hq ι H Grow.refl S
theorem pe_iteE {t a b : Expr} {z x y : E} (ht : PT X t (TB X.K (ev c kw z))) (ha : PE X a (TV X.K (ev c kw x))) (hb : PE X b (TV X.K (ev c kw y))) : PE X (.IfExp t a b pos) (TV X.K (ev c kw (.ite z x y))) := by
  refine peImp (pe_ifExp ht ha hb) fun σ H Q h => ?_
  obtain ⟨ι, ρ, μ, d, μ', he, hs, hf, hq⟩ := h
  simp only [ev] at hf
  obtain ⟨bv, μ1, h1, hf⟩ := Res.bind_ok hf
  cases bv with
  | bl bv =>
    refine ⟨ι, ρ, μ, bv, μ1, he, hs, h1, fun ι1 H1 g1 s1 => ?_⟩
    cases bv with
    | true => exact ⟨ι1, ρ, μ1, d, μ', he.grow g1, s1, hf, hq.grow g1⟩
    | false => exact ⟨ι1, ρ, μ1, d, μ', he.grow g1, s1, hf, hq.grow g1⟩
  | _ => cases hf
theorem pt_iteE {t a b : Expr} {z x y : E} (ht : PT X t (TB X.K (ev c kw z))) (ha : PT X a (TB X.K (ev c kw x))) (hb : PT X b (TB X.K (ev c kw y))) : PT X (.IfExp t a b pos) (TB X.K (ev c kw (.ite z x y))) := by
  refine ⟨fun pins s σ H Q I h => ?_⟩
  obtain ⟨ι, ρ, μ, d, μ', he, hs, hf, hq⟩ := h
  simp only [ev] at hf
  obtain ⟨bv, μ1, h1, hf⟩ := Res.bind_ok hf
  cases bv with
  | bl bv =>
    show wpAny _ _ (do if ← isTrue t X.env (eval t X.env) then isTrue a X.env (eval a X.env) else isTrue b X.env (eval b X.env)) _ _ s
    refine wpAny_bind (thn (ht.run pins s σ H (fun q H1 => q = bv ∧ ∃ ι1, EnvOk X.K H1 ι1 ρ σ ∧ StOk X.K H1 ι1 μ1 ∧ AftB X.K ι1 H1 Q d μ') I ⟨ι, ρ, μ, bv, μ1, he, hs, h1, fun ι1 H1 g1 s1 => ⟨rfl, ι1, he.grow g1, s1, AftB.grow hq g1⟩⟩) fun q s1 ⟨H1, I1, e1, ι1, he1, hs1, hq1⟩ => ?_)
    subst e1
    cases q with
    | true => exact ha.run pins s1 σ H1 Q I1 ⟨ι1, ρ, μ1, d, μ', he1, hs1, hf, hq1⟩
    | false => exact hb.run pins s1 σ H1 Q I1 ⟨ι1, ρ, μ1, d, μ', he1, hs1, hf, hq1⟩
  | _ => cases hf
theorem mark1 {op : CmpOp} {b : Expr} (h : isSetE b = false) : behindInMarks op b = false := by cases b <;> first | rfl | cases h
theorem pe_cmpE {a b : Expr} {x y : E} {op : CmpOp} (hX : XOk G N c kw k X) (hs : isSetE b = false) (ha : PE X a (TV X.K (ev c kw x))) (hb : PE X b (TV X.K (ev c kw y))) :
    PE X (.Compare a [op] [b] pos) (TV X.K (ev c kw (.cmp (copTo op) x y))) ∧ PT X (.Compare a [op] [b] pos) (TB X.K (ev c kw (.cmp (copTo op) x y))) := by
  have ho : OpR X (compareOp op) (rCmp X.K (copTo op)) := by
    have := op_cmp (X := X) (by have := hX.units; omega) (copTo op)
    rw [← copTo_ok] at this
    exact this
  have key : ∀ σ H (Q : VK), TV X.K (ev c kw (.cmp (copTo op) x y)) σ H Q → tOp (rCmp X.K (copTo op)) (TV X.K (ev c kw x)) (TV X.K (ev c kw y)) σ H Q := fun σ H Q h => by
    refine TV.two (f := ev c kw x) (g := ev c kw y) (k := fun x y μ => ofO ((cmpop (copTo op) x y μ).map .bl) μ) (by simpa only [ev] using h) fun ι H μ x y d μ' u v S rx ry hk hq => ?_
    obtain ⟨h1, rfl⟩ := ofO_ok hk
    obtain ⟨b, h2, rfl⟩ := map_some' h1
    exact ⟨ι, μ', x, y, b, S, rx, ry, h2, hq.here S (.bl b)⟩
  exact ⟨peImp (pe_cmpR ho ha hb (mark1 hs)) key, ptImp (pt_cmpR ho ha hb (mark1 hs)) fun σ H Q h => key σ H _ (TB.of h)⟩
theorem pe_chnE {a b d : Expr} {x y z : E} {op op' : CmpOp} (hX : XOk G N c kw k X) (hs : isSetE d = false) (ha : PE X a (TV X.K (ev c kw x))) (hb : PE X b (TV X.K (ev c kw y))) (hd : PE X d (TV X.K (ev c kw z))) :
    PE X (.Compare a [op, op'] [b, d] pos) (TV X.K (ev c kw (.chn (copTo op) (copTo op') x y z))) ∧ PT X (.Compare a [op, op'] [b, d] pos) (TB X.K (ev c kw (.chn (copTo op) (copTo op') x y z))) := by
  have ho : ∀ op, OpR X (compareOp op) (rCmp X.K (copTo op)) := fun op => by
    have := op_cmp (X := X) (by have := hX.units; omega) (copTo op)
    rw [← copTo_ok] at this
    exact this
  have hm : lastMarks [op, op'] [b, d] = false := by
    show behindInMarks op' d = false
    exact mark1 hs
  have key : ∀ σ H (Q : VK), TV X.K (ev c kw (.chn (copTo op) (copTo op') x y z)) σ H Q → tChain (rCmp X.K (copTo op)) (rCmp X.K (copTo op')) (TV X.K (ev c kw x)) (TV X.K (ev c kw y)) (TV X.K (ev c kw z)) σ H Q := fun σ H Q h => by
    obtain ⟨ι, ρ, μ, r, μ', he, hst, hf, hq⟩ := h
    simp only [ev] at hf
    obtain ⟨xv, μ1, h1, hf⟩ := Res.bind_ok hf
    obtain ⟨yv, μ2, h2, hf⟩ := Res.bind_ok hf
    refine ⟨ι, ρ, μ, xv, μ1, he, hst, h1, fun ι1 H1 u g1 s1 r1 => ⟨ι1, ρ, μ1, yv, μ2, he.grow g1, s1, h2, fun ι2 H2 v g2 s2 r2 => ?_⟩⟩
    split at hf
    · rename_i hc
      obtain ⟨zv, μ3, h3, hf⟩ := Res.bind_ok hf
      obtain ⟨h4, rfl⟩ := ofO_ok hf
      obtain ⟨bb, h5, rfl⟩ := map_some' h4
      refine ⟨ι2, μ2, xv, yv, true, s2, r1.grow g2, r2, hc, true, rfl, ?_⟩
      rw [if_pos rfl]
      exact ⟨ι2, ρ, μ2, zv, _, (he.grow g1).grow g2, s2, h3, fun ι3 H3 w g3 s3 r3 => ⟨ι3, _, yv, zv, bb, s3, r2.grow g3, r3, h5, hq ι3 H3 _ ((g1.trans g2).trans g3) s3 (.bl _)⟩⟩
    · rename_i hc
      cases hf
      refine ⟨ι2, _, xv, yv, false, s2, r1.grow g2, r2, hc, false, rfl, ?_⟩
      rw [if_neg Bool.false_ne_true]
      exact hq ι2 H2 _ (g1.trans g2) s2 (.bl _)
    · cases hf
  exact ⟨peImp (pe_chain (ho op) (ho op') ha hb hd hm) key, ptImp (pt_chain (ho op) (ho op') ha hb hd hm) fun σ H Q h => key σ H _ (TB.of h)⟩
end
end Ev

namespace Ev
open PySem PySem.Spec L2

section
variable {X : Cx} {G : Cfg} {N : List Str} {c : Call} {kw : Kwp} {k : Nat} {pos : Pos}
/-! ### displays -/
theorem pe_tupE {es : List Expr} {es' : List E} {j : Nat} (h : PA X es (TL X.K (evs c kw es'))) : PE X (.Tuple es j pos) (TV X.K (ev c kw (.tup es'))) := by
  refine peImp (pe_tup h) fun σ H Q h => ?_
  simp only [ev] at h
  refine TL.one h fun ι H μ xs d μ' us S r hk hq => ?_
  split at hk
  · rename_i hz
    cases hk
    rw [room_eq, r.length] at hz
    exact ⟨hz, fun p hp => hq.tup S r hp⟩
  · cases hk
theorem pe_lstE {es : List Expr} {es' : List E} (h : PA X es (TL X.K (evs c kw es'))) : PE X (.List es pos) (TV X.K (ev c kw (.lst es'))) := by
  refine peImp (pe_lst h) fun σ H Q h => ?_
  simp only [ev] at h
  refine TL.one h fun ι H μ xs d μ' us S r hk hq => ?_
  split at hk
  · rename_i hz
    cases hk
    rw [room_eq, r.length] at hz
    exact ⟨hz, fun p hp => hq.rol S r hp⟩
  · cases hk
theorem pe_lstME {es : List Expr} {es' : List E} (h : PA X es (TL X.K (evs c kw es'))) : PE X (.List es pos) (TV X.K (ev c kw (.lstM es'))) := by
  refine peImp (pe_lst h) fun σ H Q h => ?_
  simp only [ev] at h
  refine TL.one h fun ι H μ xs d μ' us S r hk hq => ?_
  split at hk
  · rename_i hz
    cases hk
    rw [room_eq, r.length] at hz
    exact ⟨hz, fun p hp => hq.lst S r hp⟩
  · cases hk
theorem pe_dct0E : PE X (.Dict [] [] pos) (TV X.K (ev c kw .dct0)) := by
  refine peImp pe_dnewK fun σ H Q h => ?_
  obtain ⟨ι, ρ, μ, d, μ', he, hs, hf, hq⟩ := h
  simp only [ev] at hf
  cases hf
  exact fun p hp => hq.dct hs .nil hp
theorem pe_dct0ME : PE X (.Dict [] [] pos) (TV X.K (ev c kw .dct0M)) := by
  refine peImp pe_dnewK fun σ H Q h => ?_
  obtain ⟨ι, ρ, μ, d, μ', he, hs, hf, hq⟩ := h
  simp only [ev] at hf
  cases hf
  exact fun p hp => hq.dic hs .nil hp
theorem pe_dct1E {a b : Expr} {x y : E} (ha : PE X a (TV X.K (ev c kw x))) (hb : PE X b (TV X.K (ev c kw y))) : PE X (.Dict [some a] [b] pos) (TV X.K (ev c kw (.dct1 x y))) := by
  refine peImp (pe_disp (pps_cons ha hb pps_nil) rfl rfl (fun z => by cases z) (by show 1 ≤ 15; decide)) fun σ H Q h => ?_
  obtain ⟨ι, ρ, μ, d, μ', he, hs, hf, hq⟩ := h
  simp only [ev] at hf
  obtain ⟨xv, μ1, h1, hf1⟩ := Res.bind_ok hf
  obtain ⟨yv, μ2, h2, hf2⟩ := Res.bind_ok hf1
  clear hf hf1
  intro p hp
  have x0 : Ext X.K ι H (ι.hide p) (upd H p (.dK [])) := Ext.hide hp
  have s0 : StOk X.K (upd H p (.dK [])) (ι.hide p) μ := hs.hide hp trivial
  refine ⟨ι.hide p, ρ, μ, xv, μ1, he.ext x0, s0, h1, fun ι1 H1 u g1 s1 r1 => ⟨ι1, ρ, μ1, yv, μ2, (he.ext x0).grow g1, s1, h2, fun ι2 H2 v g2 s2 r2 => ?_⟩⟩
  have g := g1.trans g2
  have hph : p ∈ ι2.hid := by rw [g.hid]; exact List.mem_cons_self
  have hp2 : H2 p = some (.dK []) := g.hk p List.mem_cons_self _ upd_same
  have hsh : ι2.show.hid = ι.hid := by show ι2.hid.tail = _; rw [g.hid]; rfl
  cases xv with
  | str z =>
    cases hf2
    cases r1
    have gu : Ext X.K ι2 H2 ι2 (upd H2 p (.dK [(.inr ⟨z.toArray⟩, v)])) := Ext.upd hp2 trivial (.inr hph)
    refine ⟨hp2, [(.inr ⟨z.toArray⟩, v)], rfl, by show 1 ≤ 15; decide, ?_⟩
    refine hq ι2.show _ _ ⟨((x0.trans g.ext).trans gu).trans Ext.show, hsh, fun b hb o h => ?_⟩ (s2.grow_hid (o := .dK [(.inr ⟨z.toArray⟩, v)]) hph trivial).show (.dct ⟨fun z => s2.dj _ z hph, fun z => hs.not_hid hp (by rw [hsh] at z; exact z), upd_same⟩ ((RelK.cons (k := .inr z) r2 .nil).ext (gu.trans Ext.show)))
    have hne : b ≠ p := fun e => by subst e; exact hs.not_hid hp hb
    rw [upd_ne hne]
    exact g.hk b (List.mem_cons_of_mem _ hb) o (by rw [upd_ne hne]; exact h)
  | _ => cases hf2
/-! ### subscripts -/
theorem plain_ix {b : Expr} (h : isSliceE b = false) : PlainIx b := by
  intro o i
  cases b <;> first | rfl | cases h
theorem pe_ixE {a b : Expr} {x y : E} (hs : isSliceE b = false) (ha : PE X a (TV X.K (ev c kw x))) (hb : PE X b (TV X.K (ev c kw y))) : PE X (.Subscript a b pos) (TV X.K (ev c kw (.ix x y))) := by
  refine peImp (pe_ix ix_ev ha hb (plain_ix hs)) fun σ H Q h => ?_
  exact TV.two (f := ev c kw x) (g := ev c kw y) (k := fun x y μ => ixop x y μ) (by simpa only [ev] using h) fun ι H μ x y d μ' u v S rx ry hk hq => ⟨ι, μ, x, y, d, μ', S, rx, ry, hk, hq⟩
theorem pe_slUE {a b : Expr} {x y : E} {p : Pos} (ha : PE X a (TV X.K (ev c kw x))) (hb : PE X b (TV X.K (ev c kw y))) : PE X (.Subscript a (.Slice none (some b) none p) pos) (TV X.K (ev c kw (.slU x y))) := by
  refine peImp (pe_slice sl_ev ha po_none (po_some hb)) fun σ H Q h => ?_
  obtain ⟨ι, ρ, μ, d, μ', he, hs, hf, hq⟩ := h
  simp only [ev] at hf
  obtain ⟨xv, μ1, h1, hf⟩ := Res.bind_ok hf
  obtain ⟨yv, μ2, h2, hf⟩ := Res.bind_ok hf
  refine ⟨ι, ρ, μ, xv, μ1, he, hs, h1, fun ι1 H1 u g1 s1 r1 => ⟨ι1, ρ, μ1, yv, μ2, he.grow g1, s1, h2, fun ι2 H2 v g2 s2 r2 => ?_⟩⟩
  cases yv with
  | int j => cases r2; exact ⟨j, rfl, ι2, μ2, xv, d, μ', s2, r1.grow g2, hf, hq.grow (g1.trans g2)⟩
  | _ => cases hf
theorem pe_slLE {a b : Expr} {x y : E} {p : Pos} (ha : PE X a (TV X.K (ev c kw x))) (hb : PE X b (TV X.K (ev c kw y))) : PE X (.Subscript a (.Slice (some b) none none p) pos) (TV X.K (ev c kw (.slL x y))) := by
  refine peImp (pe_slice sl_ev ha (po_some hb) po_none) fun σ H Q h => ?_
  obtain ⟨ι, ρ, μ, d, μ', he, hs, hf, hq⟩ := h
  simp only [ev] at hf
  obtain ⟨xv, μ1, h1, hf⟩ := Res.bind_ok hf
  obtain ⟨yv, μ2, h2, hf⟩ := Res.bind_ok hf
  refine ⟨ι, ρ, μ, xv, μ1, he, hs, h1, fun ι1 H1 u g1 s1 r1 => ⟨ι1, ρ, μ1, yv, μ2, he.grow g1, s1, h2, fun ι2 H2 v g2 s2 r2 => ?_⟩⟩
  cases yv with
  | int j => cases r2; exact ⟨j, rfl, ι2, μ2, xv, d, μ', s2, r1.grow g2, hf, hq.grow (g1.trans g2)⟩
  | _ => cases hf
theorem pe_slLUE {a b e : Expr} {x y z : E} {p : Pos} (ha : PE X a (TV X.K (ev c kw x))) (hb : PE X b (TV X.K (ev c kw y))) (he' : PE X e (TV X.K (ev c kw z))) : PE X (.Subscript a (.Slice (some b) (some e) none p) pos) (TV X.K (ev c kw (.slLU x y z))) := by
  refine peImp (pe_slice sl_ev ha (po_some hb) (po_some he')) fun σ H Q h => ?_
  obtain ⟨ι, ρ, μ, d, μ', he, hs, hf, hq⟩ := h
  simp only [ev] at hf
  obtain ⟨xv, μ1, h1, hf⟩ := Res.bind_ok hf
  obtain ⟨yv, μ2, h2, hf⟩ := Res.bind_ok hf
  obtain ⟨zv, μ3, h3, hf⟩ := Res.bind_ok hf
  refine ⟨ι, ρ, μ, xv, μ1, he, hs, h1, fun ι1 H1 u g1 s1 r1 => ⟨ι1, ρ, μ1, yv, μ2, he.grow g1, s1, h2, fun ι2 H2 v g2 s2 r2 => ?_⟩⟩
  cases yv with
  | int j =>
    cases r2
    refine ⟨j, rfl, ι2, ρ, μ2, zv, μ3, (he.grow g1).grow g2, s2, h3, fun ι3 H3 w g3 s3 r3 => ?_⟩
    cases zv with
    | int i => cases r3; exact ⟨i, rfl, ι3, μ3, xv, d, μ', s3, (r1.grow g2).grow g3, hf, hq.grow ((g1.trans g2).trans g3)⟩
    | _ => cases hf
  | _ => cases hf
theorem pe_revE {a : Expr} {x : E} {j : Nat} {p1 p2 p3 : Pos} (ha : PE X a (TV X.K (ev c kw x))) : PE X (.Subscript a (.Slice none none (some (.UnaryOp .USub (.Constant (.int 1) j p1) p2)) p3) pos) (TV X.K (ev c kw (.rev x))) := by
  refine peImp (pe_revT ha) fun σ H Q h => ?_
  simp only [ev] at h
  refine TV.one h fun ι H μ x d μ' u S rx hk hq => ?_
  cases x with
  | tup l =>
    cases hk
    cases rx with
    | tup h1 h2 => exact ⟨_, _, rfl, h1, fun p hp => hq.tup S h2.reverse hp⟩
  | _ => cases hk
/-! ### calls -/
theorem pe_callE {x : Str} {p : Pos} {es : List Expr} {es' : List E} {f : Nat} (hX : XOk G N c kw k X) (ho : oddName x = false) (hg : Gl X x) (hst : es.any isStar = false) (hf : fidOf x G.fns = some f) (h : Paired (fun e e' => PE X e (TV X.K (ev c kw e'))) es es') :
    PE X (.Call (.Name x p) es [] pos) (TV X.K (ev c kw (.call f es'))) := by
  obtain ⟨fa, fd, ps, hm, hk, F, hb, _⟩ := hX.fn f x hf
  have R := call_own F hX.room hX.gd hb
  obtain ⟨hdb, _, _⟩ := oddName_ok ho
  have hPA := pa_ev hst h
  refine ⟨fun pins s σ H Q I h' => ?_⟩
  simp only [ev] at h'
  have hA := TL.one (R := fun vs H => rFn (G.nds.contains f) X.K (c f) vs H Q) h' fun ι H μ xs d μ' us S r hk hq => ⟨ι, μ, xs, d, μ', S, r, hk, hq.n⟩
  refine wpAny_Call_Name_kw (ld_glob I hg hm ?_ hdb)
  cases h with
  | nil =>
    refine PySem.W.callWith_K0 I.kIn hk ?_
    obtain ⟨ι, ρ, μ, ds, μ', h1, h2, h3, h4⟩ := hA
    simp only [evs] at h3
    cases h3
    exact R pins s σ H [] [] Q I .nil (h4 ι H [] Grow.refl h2 .nil)
  | cons h0 hr =>
    rw [List.any_cons, Bool.or_eq_false_iff] at hst
    exact PySem.W.callWith_K (h₀ := X.base) I.ok.mod.kin hk (thn (hPA.run pos pins s σ H _ I hA) fun us s1 ⟨vs, H1, I1, r, q⟩ => ⟨I1.kIn, R pins s1 σ H1 vs us Q I1 r q⟩) (star1 hst.1) (star_none hst.2)
theorem pe_callN {x : Str} {p : Pos} {es : List Expr} {es' : List E} {f : Nat} (hX : XOk G N c kw k X) (ho : oddName x = false) (hg : Gl X x) (hst : es.any isStar = false) (hf : fidOf x G.fns = some f) (h : Paired (fun e e' => PE X e (TV X.K (ev c kw e'))) es es') :
    PE X (.Call (.Name x p) es [] pos) (fun σ H Q => TL X.K (evs c kw es') σ H fun vs H1 => rFn (G.nds.contains f) X.K (c f) vs H1 Q) := by
  obtain ⟨fa, fd, ps, hm, hk, F, hb, _⟩ := hX.fn f x hf
  have R := call_own F hX.room hX.gd hb
  obtain ⟨hdb, _, _⟩ := oddName_ok ho
  have hPA := pa_ev hst h
  refine ⟨fun pins s σ H Q I h' => ?_⟩
  have hA := h'
  refine wpAny_Call_Name_kw (ld_glob I hg hm ?_ hdb)
  cases h with
  | nil =>
    refine PySem.W.callWith_K0 I.kIn hk ?_
    obtain ⟨ι, ρ, μ, ds, μ', h1, h2, h3, h4⟩ := hA
    simp only [evs] at h3
    cases h3
    exact R pins s σ H [] [] Q I .nil (h4 ι H [] Grow.refl h2 .nil)
  | cons h0 hr =>
    rw [List.any_cons, Bool.or_eq_false_iff] at hst
    exact PySem.W.callWith_K (h₀ := X.base) I.ok.mod.kin hk (thn (hPA.run pos pins s σ H _ I hA) fun us s1 ⟨vs, H1, I1, r, q⟩ => ⟨I1.kIn, R pins s1 σ H1 vs us Q I1 r q⟩) (star1 hst.1) (star_none hst.2)
theorem pk_ev : ∀ {kws : List Keyword} {ks' : List E}, Paired (fun (q : Keyword) e' => PE X q.value (TV X.K (ev c kw e'))) kws ks' → PK X kws (TL X.K (evs c kw ks'))
  | [], [], .nil => ⟨fun pos pins s σ H Q I h => by
    obtain ⟨ι, ρ, μ, ds, μ', he, hs, hf, ha⟩ := h
    simp only [evs] at hf
    cases hf
    exact pk_nil.run pos pins s σ H Q I (ha ι H [] Grow.refl hs .nil)⟩
  | ⟨nm, e, kpos⟩ :: kws, e' :: ks', .cons h1 h2 => ⟨fun pos pins s σ H Q I h => by
    refine (pk_cons (nm := nm) (kpos := kpos) h1 (pk_ev h2)).run pos pins s σ H Q I ?_
    obtain ⟨ι, ρ, μ, ds, μ', he, hs, hf, ha⟩ := h
    simp only [evs] at hf
    obtain ⟨x, μ1, q1, hf⟩ := Res.bind_ok hf
    obtain ⟨xs, μ2, q2, hf⟩ := Res.bind_ok hf
    cases hf
    exact ⟨ι, ρ, μ, x, μ1, he, hs, q1, fun ι1 H1 u g1 s1 r1 => ⟨ι1, ρ, μ1, xs, _, he.grow g1, s1, q2, fun ι2 H2 us g2 s2 r2 => ha ι2 H2 _ (g1.trans g2) s2 (.cons (r1.grow g2) r2)⟩⟩⟩
theorem kwNames_ok {pos : Pos} {env : Env} : ∀ {kws : List Keyword} {ks : List Str}, kwNames kws = some ks → (backToKw pos (keywordEach kws env)).all (·.1.isSome) = true ∧ (backToKw pos (keywordEach kws env)).filterMap (·.1) = ks ∧ (backToKw pos (keywordEach kws env)).any (·.1.isNone) = false ∧ ks.length = kws.length
  | [], ks, h => by cases h; exact ⟨rfl, rfl, rfl, rfl⟩
  | ⟨some x, e, p⟩ :: r, ks, h => by
    obtain ⟨ks', h1, rfl⟩ := map_some' (show (kwNames r).map (x :: ·) = some ks from h)
    obtain ⟨q1, q2, q3, q4⟩ := kwNames_ok (pos := pos) (env := env) h1
    refine ⟨?_, ?_, ?_, by simp [q4]⟩
    · show (true && (backToKw pos (keywordEach r env)).all (·.1.isSome)) = true
      rw [q1]; rfl
    · show x :: (backToKw pos (keywordEach r env)).filterMap (·.1) = _
      rw [q2]
    · show (false || (backToKw pos (keywordEach r env)).any (·.1.isNone)) = false
      rw [q3]; rfl
  | ⟨none, e, p⟩ :: r, ks, h => by cases h
theorem perm_relL {K : PySem.W.Frag} {ι : Ix} {H : Hp} {ds : List D} {vs : List V} (r : RelL K H ι ds vs) : ∀ {p : List Nat} {zs : List D}, perm ds p = some zs → ∃ ws, perm vs p = some ws ∧ RelL K H ι zs ws
  | [], zs, h => by cases h; exact ⟨[], rfl, .nil⟩
  | i :: p, zs, h => by
    simp only [perm] at h
    split at h
    · rename_i d r' hd hr
      cases h
      obtain ⟨v, h1, h2⟩ := r.get hd
      obtain ⟨ws, h3, h4⟩ := perm_relL r hr
      exact ⟨v :: ws, by simp [perm, h1, h3], .cons h2 h4⟩
    · cases h
theorem perm_vals {vs : List V} {us : List Value} (r : Vals vs us) : ∀ {p : List Nat} {zs : List V} {ws : List Value}, perm vs p = some zs → perm us p = some ws → Vals zs ws
  | [], zs, ws, h, h' => by cases h; cases h'; exact .nil
  | i :: p, zs, ws, h, h' => by
    simp only [perm] at h h'
    split at h
    · rename_i d r' hd hr
      cases h
      split at h'
      · rename_i u r'' hu hr'
        cases h'
        obtain ⟨u', e1, e2⟩ := r.get hd
        rw [hu] at e1; cases e1
        exact .cons e2 (perm_vals r hr hr')
      · cases h'
    · cases h
theorem relL_app {K : PySem.W.Frag} {ι : Ix} {H : Hp} {ds es : List D} {vs us : List V} (a : RelL K H ι ds vs) (b : RelL K H ι es us) : RelL K H ι (ds ++ es) (vs ++ us) := a.append b
theorem pe_callkE {x : Str} {p : Pos} {es : List Expr} {es' ks' : List E} {kws : List Keyword} {f : Nat} {ks : List Str} {pm : List Nat} (hX : XOk G N c kw k X) (ho : oddName x = false) (hg : Gl X x) (hst : es.any isStar = false) (hf : fidOf x G.fns = some f)
    (hw : (f, es.length, ks, pm) ∈ G.kws) (hks : kwNames kws = some ks) (h : Paired (fun e e' => PE X e (TV X.K (ev c kw e'))) es es') (h2 : Paired (fun (q : Keyword) e' => PE X q.value (TV X.K (ev c kw e'))) kws ks') :
    PE X (.Call (.Name x p) es kws pos) (TV X.K (ev c kw (.callk f pm es' ks'))) := by
  obtain ⟨fa, fd, ps, hm, hk, F, _, hkw⟩ := hX.fn f x hf
  have hbind := hkw es.length ks pm hw
  obtain ⟨hdb, _, _⟩ := oddName_ok ho
  have hPA := pa_ev hst h
  have hPK := pk_ev h2
  obtain ⟨k1, k2, k3, k4⟩ := kwNames_ok (pos := pos) (env := X.env) hks
  have run : ∀ (pins : List (Addr × Obj)) (s : Shared) (σ : L2.St) (H : Hp) (us ws : List Value) (vs zs : List V) (Q : VK) (ι : Ix) (μ : Sto) (xs ys : List D) (d : D) (μ' : Sto), Inv X pins σ H s → Vals vs us → Vals zs ws → us.length = es.length → ws.length = ks.length → StOk X.K H ι μ → RelL X.K H ι xs vs → RelL X.K H ι ys zs →
      (match perm (xs ++ ys) pm with | some zs => c f zs μ | none => .bad) = Res.ok d μ' → Aft X.K ι H Q d μ' → wpAny (model X.prog X.w) X.A (PySem.call (.ref fa) us (ks.zip ws)) (EP X pins σ Q) X.xe s := by
    intro pins s σ H us ws vs zs Q ι μ xs ys d μ' I ru rw' hl1 hl2 S rx ry hc hq
    split at hc
    · rename_i zsD hp
      obtain ⟨vsP, hv1, hv2⟩ := perm_relL (relL_app rx ry) hp
      obtain ⟨usP, hu1, hu2⟩ := hbind s us ws hl1 hl2
      refine wpAny_call (codeAny_mono (fn_end (us := usP) F hX.room hX.gd I (fun _ _ _ => hu2) (perm_vals (ru.append rw') hv1 hu1) ⟨ι, μ, zsD, d, μ', S, hv2, hc, hq.n⟩) fun r s' hq => hq)
    · cases hc
  refine ⟨fun pins s σ H Q I h' => ?_⟩
  obtain ⟨ι, ρ, μ, d, μ', he, hs, hfn, hq⟩ := h'
  simp only [ev] at hfn
  obtain ⟨xs, μ1, q1, hfn1⟩ := Res.bind_ok hfn
  obtain ⟨ys, μ2, q2, hfn2⟩ := Res.bind_ok hfn1
  clear hfn hfn1
  have hlen : ∀ {us : List Value} {vs : List V}, RelL X.K H ι xs vs → True := fun _ => trivial
  refine wpAny_Call_Name_kw (ld_glob I hg hm ?_ hdb)
  have evsLen : ∀ {es : List E} {ρ : Loc} {μ μ' : Sto} {xs : List D}, evs c kw es ρ μ = .ok xs μ' → xs.length = es.length := by
    intro es
    induction es with
    | nil => intro ρ μ μ' xs h; simp only [evs] at h; cases h; rfl
    | cons e es ih =>
      intro ρ μ μ' xs h
      simp only [evs] at h
      obtain ⟨x, μ1, q1, h⟩ := Res.bind_ok h
      obtain ⟨xs', μ2, q2, h⟩ := Res.bind_ok h
      cases h
      simp [ih q2]
  have pl : ∀ {α β : Type} {F : α → β → Prop} {l : List α} {r : List β}, Paired F l r → l.length = r.length := fun h => h.length
  have l1 : xs.length = es.length := (evsLen q1).trans (pl h).symm
  have l2 : ys.length = ks.length := (evsLen q2).trans ((pl h2).symm.trans k4.symm)
  cases h with
  | nil =>
    simp only [evs] at q1
    cases q1
    refine PySem.W.callWith_KW0 (h₀ := X.base) I.ok.mod.kin hk k1 (thn (hPK.run pos pins s σ H (fun zs H2 => ∃ ι2, StOk X.K H2 ι2 μ2 ∧ RelL X.K H2 ι2 ys zs ∧ Aft X.K ι2 H2 Q d μ') I ⟨ι, ρ, _, ys, μ2, he, hs, q2, fun ι2 H2 zs g2 s2 r2 => ⟨ι2, s2, r2, hq.grow g2⟩⟩) fun ws s2 ⟨zs, H2, I2, rz, ι2, S2, r2, a2⟩ => ⟨I2.kIn, ?_⟩) (by rw [k3]; rfl)
    rw [k2]
    exact run pins s2 σ H2 [] ws [] zs Q ι2 μ2 [] ys d μ' I2 .nil rz rfl (by rw [← rz.length, ← r2.length, l2]) S2 .nil r2 hfn2 a2
  | cons h0 hr =>
    rw [List.any_cons, Bool.or_eq_false_iff] at hst
    refine PySem.W.callWith_KW (h₀ := X.base) I.ok.mod.kin hk k1 (thn (hPA.run pos pins s σ H (fun vs H1 => ∃ ι1, EnvOk X.K H1 ι1 ρ σ ∧ StOk X.K H1 ι1 μ1 ∧ RelL X.K H1 ι1 xs vs ∧ Aft X.K ι1 H1 Q d μ') I ⟨ι, ρ, μ, xs, μ1, he, hs, q1, fun ι1 H1 vs g1 s1 r1 => ⟨ι1, he.grow g1, s1, r1, hq.grow g1⟩⟩)
      fun us s1 ⟨vs, H1, I1, rv, ι1, he1, S1, r1, a1⟩ => thn (hPK.run pos pins s1 σ H1 (fun zs H2 => ∃ ι2, StOk X.K H2 ι2 μ2 ∧ RelL X.K H2 ι2 xs vs ∧ RelL X.K H2 ι2 ys zs ∧ Aft X.K ι2 H2 Q d μ') I1 ⟨ι1, ρ, μ1, ys, μ2, he1, S1, q2, fun ι2 H2 zs g2 s2 r2 => ⟨ι2, s2, r1.grow g2, r2, a1.grow g2⟩⟩)
        fun ws s2 ⟨zs, H2, I2, rz, ι2, S2, r1', r2, a2⟩ => ⟨I2.kIn, ?_⟩) ?_ (star1 hst.1)
    · rw [k2]
      exact run pins s2 σ H2 us ws vs zs Q ι2 μ2 xs ys d μ' I2 rv rz (by rw [← rv.length, ← r1'.length, l1]) (by rw [← rz.length, ← r2.length, l2]) S2 r1' r2 hfn2 a2
    · rw [star1 hst.1, k3]
      show ((false || (backTo pos (starEach _ X.env)).any (·.1)) || false) = false
      rw [star_none hst.2]; rfl
end
end Ev

namespace Ev
open PySem PySem.Spec L2

section
variable {X : Cx} {G : Cfg} {N : List Str} {c : Call} {kw : Kwp} {k : Nat} {pos : Pos}
theorem tl_blt {b : Bi} {es' : List E} {σ : L2.St} {H : Hp} {Q : VK} (h : TV X.K (ev c kw (.blt b es')) σ H Q) : tCB (rBlt X.K b) (TL X.K (evs c kw es')) σ H Q := by
  simp only [ev] at h
  exact TL.one (R := fun vs H => rBlt X.K b vs H Q) h fun ι H μ xs d μ' us S r hk hq => ⟨ι, μ, xs, d, μ', S, r, hk, hq⟩
theorem pe_bltE {b : Bi} {p : Pos} {es : List Expr} {es' : List E} (hX : XOk G N c kw k X) (ho : oddName (biN b) = false) (hg : Gl X (biN b)) (hst : es.any isStar = false) (hnt : b ≠ .tru) (har : es.length = biAr b) (h : Paired (fun e e' => PE X e (TV X.K (ev c kw e'))) es es') :
    PE X (.Call (.Name (biN b) p) es [] pos) (TV X.K (ev c kw (.blt b es'))) := by
  have R := call_blt (X := X) hX.calm hX.gd (by have := hX.units; omega) b hnt
  obtain ⟨h1, _, h3⟩ := oddName_ok ho
  have hm : X.mg (biN b) = none := hX.blt _ (by cases b <;> decide +kernel)
  cases es with
  | nil => exfalso; cases b <;> cases har
  | cons e es =>
    have hPA := pa_ev hst h
    rw [List.any_cons, Bool.or_eq_false_iff] at hst
    have s1 := star1 (env := X.env) (es := es) hst.1
    have s2 := star_none (pos := pos) (env := X.env) hst.2
    cases b with
    | len => exact peImp (pe_callB R hg hm (by decide +kernel) hPA h3 h1 s1 s2) fun σ H Q h => tl_blt h
    | repr => exact peImp (pe_callB R hg hm (by decide +kernel) hPA h3 h1 s1 s2) fun σ H Q h => tl_blt h
    | abs => exact peImp (pe_callB R hg hm (by decide +kernel) hPA h3 h1 s1 s2) fun σ H Q h => tl_blt h
    | int => exact peImp (pe_callTy R hg hm (by decide +kernel) hPA h3 h1 s1 s2) fun σ H Q h => tl_blt h
    | str => exact peImp (pe_callTy R hg hm (by decide +kernel) hPA h3 h1 s1 s2) fun σ H Q h => tl_blt h
    | list => exact peImp (pe_callTy R hg hm (by decide +kernel) hPA h3 h1 s1 s2) fun σ H Q h => tl_blt h
    | tuple => exact peImp (pe_callTy R hg hm (by decide +kernel) hPA h3 h1 s1 s2) fun σ H Q h => tl_blt h
    | all => exact peImp (pe_callB R hg hm (by decide +kernel) hPA h3 h1 s1 s2) fun σ H Q h => tl_blt h
    | any => exact peImp (pe_callB R hg hm (by decide +kernel) hPA h3 h1 s1 s2) fun σ H Q h => tl_blt h
    | listM => exact peImp (pe_callTy R hg hm (by decide +kernel) hPA h3 h1 s1 s2) fun σ H Q h => tl_blt h
    | sum => exact peImp (pe_callB R hg hm (by decide +kernel) hPA h3 h1 s1 s2) fun σ H Q h => tl_blt h
    | sorted => exact peImp (pe_callB R hg hm (by decide +kernel) hPA h3 h1 s1 s2) fun σ H Q h => tl_blt h
    | rng1 => exact peImp (pe_callTy R hg hm (by decide +kernel) hPA h3 h1 s1 s2) fun σ H Q h => tl_blt h
    | rng2 => exact peImp (pe_callTy R hg hm (by decide +kernel) hPA h3 h1 s1 s2) fun σ H Q h => tl_blt h
    | tru => exact absurd rfl hnt
    | max2 => exact peImp (pe_callB R hg hm (by decide +kernel) hPA h3 h1 s1 s2) fun σ H Q h => tl_blt h
    | min2 => exact peImp (pe_callB R hg hm (by decide +kernel) hPA h3 h1 s1 s2) fun σ H Q h => tl_blt h
theorem pe_isiE {e : Expr} {e' : E} {t : Ty} {p q : Pos} (hX : XOk G N c kw k X) (ho : oddName (tyS t) = false) (hg : Gl X "isinstance") (hg2 : Gl X (tyS t)) (hst : isStar e = false) (h : PE X e (TV X.K (ev c kw e'))) :
    PE X (.Call (.Name "isinstance" p) [e, .Name (tyS t) q] [] pos) (TV X.K (ev c kw (.isi e' t))) := by
  obtain ⟨h1, _, h3⟩ := oddName_ok ho
  have hm : X.mg (tyS t) = none := hX.blt _ (by cases t <;> decide +kernel)
  have ht : PE X (.Name (tyS t) q) (tC (.ty (tyN t))) := pe_bltn (u := .type (tyN t)) hg2 hm (by cases t <;> decide +kernel) rfl h3 h1
  have s2 : starEach [Expr.Name (tyS t) q] X.env = (false, eval (.Name (tyS t) q) X.env) :: starEach [] X.env := rfl
  refine peImp (pe_callB (call_isE t) hg (hX.blt _ (by decide +kernel)) (by decide +kernel) (pa_cons h (pa_cons ht pa_nil s2) (star1 hst)) (by decide) (by decide) (star1 hst) (by rw [s2]; rfl)) fun σ H Q h => ?_
  simp only [ev] at h
  refine TV.one (f := ev c kw e') h fun ι H μ x d μ' u S rx hk hq => ?_
  split at hk
  · rename_i hn
    cases hk
    exact ⟨ι, _, x, u, rfl, S, rx, hn, hq.here S (.bl _)⟩
  · cases hk
theorem base_attr {o : Expr} {m : Str} {env : Env} (h : isCallE o = false) : attributeBase o m env (eval o env) = eval o env := by
  cases o <;> first | rfl | cases h
theorem base_call {x m : Str} {p q : Pos} {es : List Expr} {env : Env} (h : (x != ("super" : Str)) = true) : attributeBase (.Call (.Name x p) es [] q) m env (eval (.Call (.Name x p) es [] q) env) = eval (.Call (.Name x p) es [] q) env := by
  cases es with
  | nil =>
    unfold attributeBase
    simp only [h, Bool.true_or, if_true]
  | cons e es => rfl
/-- what each method's rule leans on -/
structure MtOk (m : Mt) where
  row : isRowM m = false
  T : String
  pa : PlainAttrs T
  slot : Slot T (mtS m) (mthV m)
  ty : typeOf (.builtin (mthV m)) = pure (.type "method_descriptor")
  rv : ∀ {K : PySem.W.Frag} {H : Hp} {ι : Ix} {μ : Sto} {x : D} {v : V}, StOk K H ι μ → recv m x μ = true → Rel K H ι x v → tyV K T v H
theorem recv_lst {m : Mt} (hm : m ≠ .upper) (hw : isRowM m = false) {K : PySem.W.Frag} {H : Hp} {ι : Ix} {μ : Sto} {x : D} {v : V} (S : StOk K H ι μ) (h : recv m x μ = true) (r : Rel K H ι x v) : tyV K "list" v H := by
  have h' : ∃ a l, x = .loc a ∧ μ[a]? = some (.lst l) := by
    cases x with
    | loc a =>
      cases e : μ[a]? with
      | none => cases m <;> first | exact absurd hw (by decide) | simp [recv, e] at h
      | some q =>
        cases q with
        | lst l => exact ⟨a, l, rfl, e⟩
        | dic l => cases m <;> first | exact absurd hw (by decide) | simp [recv, e] at h
    | _ => cases m <;> first | exact absurd rfl hm | exact absurd hw (by decide) | simp [recv] at h
  obtain ⟨a, l, rfl, hl⟩ := h'
  cases r with
  | loc ha =>
    obtain ⟨xs, e, _⟩ := S.lst hl ha
    exact .inl ⟨rfl, xs, SqL.of e⟩
def mtFacts (m : Mt) (hw : isRowM m = false) : MtOk m := match m with
  | .append => ⟨rfl, "list", PySem.F.plainAttrs_list, PySem.F.slot_list_append, PySem.F.type_list_append, fun S h r => recv_lst (m := .append) (fun z => nomatch z) rfl S h r⟩
  | .extend => ⟨rfl, "list", PySem.F.plainAttrs_list, PySem.F.slot_list_extend, PySem.F.type_list_extend, fun S h r => recv_lst (m := .extend) (fun z => nomatch z) rfl S h r⟩
  | .popAt => ⟨rfl, "list", PySem.F.plainAttrs_list, PySem.F.slot_list_pop, PySem.F.type_list_pop, fun S h r => recv_lst (m := .popAt) (fun z => nomatch z) rfl S h r⟩
  | .insert => ⟨rfl, "list", PySem.F.plainAttrs_list, PySem.F.slot_list_insert, PySem.F.type_list_insert, fun S h r => recv_lst (m := .insert) (fun z => nomatch z) rfl S h r⟩
  | .upper => ⟨rfl, "str", PySem.F.plainAttrs_str, PySem.F.slot_str_upper, PySem.F.type_str_upper, fun {K H ι μ x v} S h r => by
      cases x with
      | str z => cases r; exact (rfl : "str" = "str")
      | _ => cases h⟩
theorem peOr {e : Expr} {t1 t2 : TE} (h1 : PE X e t1) (h2 : PE X e t2) : PE X e (fun σ H Q => t1 σ H Q ∨ t2 σ H Q) := ⟨fun pins s σ H Q I h => h.elim (h1.run pins s σ H Q I) (h2.run pins s σ H Q I)⟩
theorem pe_mthE0 {m : Mt} (hw : isRowM m = false) {o : Expr} {o' : E} {es : List Expr} {es' : List E} {apos : Pos} (hc : isCallE o = false) (hst : es.any isStar = false) (hline : (apos.endLine == pos.line) = true) (har : es.length = mtAr m) (ho : PE X o (TV X.K (ev c kw o'))) (h : Paired (fun e e' => PE X e (TV X.K (ev c kw e'))) es es') :
    PE X (.Call (.Attribute o (mtS m) apos) es [] pos) (TV X.K (ev c kw (.mth m o' es'))) := by
  have F := mtFacts m hw
  have key : ∀ (σ : L2.St) (H : Hp) (Q : VK), TV X.K (ev c kw (.mth m o' es')) σ H Q → tBM X.K F.T (rMth X.K m) (TV X.K (ev c kw o')) (TL X.K (evs c kw es')) σ H Q := fun σ H Q h => by
    simp only [ev] at h
    refine TV.seq (f := ev c kw o') h fun ι H ρ μ x u d μ' e S rx hk hq => ?_
    split at hk
    · rename_i hr
      refine ⟨F.rv S hr rx, ?_⟩
      obtain ⟨xs, μ1, h1, h2⟩ := Res.bind_ok hk
      exact ⟨ι, ρ, μ, xs, μ1, e, S, h1, fun ι1 H1 us g1 s1 r1 => ⟨ι1, μ1, x, xs, d, μ', s1, rx.grow g1, r1, h2, hq.grow g1⟩⟩
    · cases hk
  cases es with
  | nil =>
    cases h
    refine peImp (pe_bm0 F.pa F.slot F.ty (mt_ev m hw) ho (base_attr hc) hline) fun σ H Q h => ?_
    obtain ⟨ι, ρ, μ, d, μ', h1, h2, h3, h4⟩ := key σ H Q h
    refine ⟨ι, ρ, μ, d, μ', h1, h2, h3, fun ι' H' v g s r => ?_⟩
    obtain ⟨q1, q2⟩ := h4 ι' H' v g s r
    refine ⟨q1, ?_⟩
    obtain ⟨ι2, ρ2, μ2, ds, μ3, e1, e2, e3, e4⟩ := q2
    simp only [evs] at e3
    cases e3
    exact e4 ι2 H' [] Grow.refl e2 .nil
  | cons e es =>
    have hPA := pa_ev hst h
    have h30 : (e :: es).length < 30 := by rw [har]; cases m <;> decide
    have hst' := hst
    rw [List.any_cons, Bool.or_eq_false_iff] at hst
    refine peImp (pe_bm F.pa F.slot F.ty (mt_ev m hw) ho hPA (base_attr hc) ?_ hline (star1 hst.1) (star_none hst.2)) key
    rw [star_all hst']
    show (true && true && decide ((e :: es).length + 0 + 0 < 30)) = true
    rw [decide_eq_true (by omega)]; rfl
/-- a method of a tuple that is known whole -/
def tBT (r : V → List V → Hp → VK → Prop) (to : TE) (t : TA) : TE := fun σ H Q => to σ H fun x H1 => NdT H1 x ∧ t σ H1 fun xs H2 => r x xs H2 Q
theorem pe_bT {o e : Expr} {es : List Expr} {to : TE} {t : TA} {name : Str} {apos cpos : Pos} {id : String} {r : V → List V → Hp → VK → Prop} (slot : Slot "tuple" name id) (hty : typeOf (.builtin id) = pure (.type "method_descriptor")) (hm : MtR X id r) (ho : PE X o to) (ha : PA X (e :: es) t)
    (hbase : attributeBase o name X.env (eval o X.env) = eval o X.env)
    (hfew : ((backTo cpos (starEach (e :: es) X.env)).all (fun x => !x.1) && (backToKw cpos (keywordEach [] X.env)).all (fun x => x.1.isSome)
      && decide ((e :: es).length + ([] : List Keyword).length + (if ([] : List Keyword).isEmpty then 0 else 1) < 30)) = true)
    (hline : (apos.endLine == cpos.line) = true) (hs : starEach (e :: es) X.env = (false, eval e X.env) :: starEach es X.env) (hplain : (backTo cpos (starEach es X.env)).any (·.1) = false) :
    PE X (.Call (.Attribute o name apos) (e :: es) [] cpos) (tBT r to t) := by
  refine ⟨fun pins s σ H Q I h => ?_⟩
  refine wpAny_Call_method_late hbase hfew hline rfl (thn (ho.run pins s σ H _ I h) fun v s1 ⟨x, H1, I1, r1, ty, q1⟩ => ?_)
  obtain ⟨a, ob, ys, rfl, h1, h2⟩ := ty
  cases r1
  obtain ⟨h3, _, its, _, o2, h4, h5, h6⟩ := I1.hok a _ h1
  rw [h3] at h4
  cases h4
  refine ⟨"tuple", id, PySem.F.plainAttrs_tuple, slot, hty, ⟨ob, h3, h5⟩, fun b hb => ?_, ?_⟩
  · cases hb; exact ⟨ob, h3, h2⟩
  · have hA := ha.run cpos pins s1 σ H1 _ I1 q1
    rw [hs] at hA ⊢
    refine Calls.callWith_builtin (by show (false || (backTo cpos (starEach es X.env)).any (·.1)) = false; rw [hplain] <;> rfl) (Calls.evalArgs_plain ?_)
    exact thn hA fun us s2 ⟨vs, H2, I2, r2, q2⟩ => hm pins s2 σ H2 (.ref a) vs (.ref a) us Q I2 rfl r2 q2
structure RwOk (m : Mt) where
  slotL : Slot "list" (mtS m) (mthV m)
  tyL : typeOf (.builtin (mthV m)) = pure (.type "method_descriptor")
  slotT : Slot "tuple" (mtS m) (rowVT m)
  tyT : typeOf (.builtin (rowVT m)) = pure (.type "method_descriptor")
theorem rowFacts {m : Mt} (hw : isRowM m = true) : RwOk m := by
  cases m with
  | index => exact ⟨PySem.F.slot_list_index, PySem.F.type_list_index, PySem.F.slot_tuple_index, PySem.F.type_tuple_index⟩
  | count => exact ⟨PySem.F.slot_list_count, PySem.F.type_list_count, PySem.F.slot_tuple_count, PySem.F.type_tuple_count⟩
  | _ => exact absurd hw (by decide)
theorem mth_row {m : Mt} {o x : D} {xs : List D} {μ : Sto} (hw : isRowM m = true) (h : recv m o μ = true) : ∃ l, rowD μ o = some l := by
  have key : (rowD μ o).isSome = true := by
    cases m with
    | index => exact h
    | count => exact h
    | _ => exact absurd hw (by decide)
  exact Option.isSome_iff_exists.mp key
/-- index and count of a list -/
theorem pe_mthL {m : Mt} (hu : X.A.units + 100 < cLine) (hw : isRowM m = true) {o : Expr} {o' : E} {es : List Expr} {es' : List E} {apos : Pos} (hc : isCallE o = false) (hst : es.any isStar = false) (hline : (apos.endLine == pos.line) = true) (har : es.length = mtAr m) (ho : PE X o (TV X.K (ev c kw o'))) (h : Paired (fun e e' => PE X e (TV X.K (ev c kw e'))) es es') :
    PE X (.Call (.Attribute o (mtS m) apos) es [] pos) (fun σ H Q => tBM X.K "list" (rRow X.K m) (TV X.K (ev c kw o')) (TL X.K (evs c kw es')) σ H Q) := by
  have F := rowFacts hw
  cases es with
  | nil => cases m <;> first | exact absurd hw (by decide) | cases har
  | cons e es =>
    have hPA := pa_ev hst h
    have h30 : (e :: es).length < 30 := by rw [har]; cases m <;> decide
    have hst' := hst
    rw [List.any_cons, Bool.or_eq_false_iff] at hst
    refine pe_bm PySem.F.plainAttrs_list F.slotL F.tyL (mt_rowL hu m hw) ho hPA (base_attr hc) ?_ hline (star1 hst.1) (star_none hst.2)
    rw [star_all hst']
    show (true && true && decide ((e :: es).length + 0 + 0 < 30)) = true
    rw [decide_eq_true (by omega)]; rfl
theorem pe_mthE {m : Mt} {o : Expr} {o' : E} {es : List Expr} {es' : List E} {apos : Pos} (hu : X.A.units + 100 < cLine) (hc : isCallE o = false) (hst : es.any isStar = false) (hline : (apos.endLine == pos.line) = true) (har : es.length = mtAr m) (ho : PE X o (TV X.K (ev c kw o'))) (h : Paired (fun e e' => PE X e (TV X.K (ev c kw e'))) es es') :
    PE X (.Call (.Attribute o (mtS m) apos) es [] pos) (TV X.K (ev c kw (.mth m o' es'))) := by
  by_cases hw : isRowM m = true
  · refine peImp (pe_mthL hu hw hc hst hline har ho h) fun σ H Q h => ?_
    simp only [ev] at h
    refine TV.seq (f := ev c kw o') h fun ι H ρ μ x u d μ' e S rx hk hq => ?_
    split at hk
    · rename_i hr
      obtain ⟨xs, μ1, h1, h2⟩ := Res.bind_ok hk
      obtain ⟨l, hl⟩ := mth_row (x := x) (xs := xs) hw hr
      obtain ⟨a, ys, rfl, _, q⟩ := row_of S hl rx
      refine ⟨.inl ⟨rfl, ys, q⟩, ι, ρ, μ, xs, μ1, e, S, h1, fun ι1 H1 us g1 s1 r1 => ⟨ι1, μ1, x, xs, d, μ', s1, rx.grow g1, r1, h2, hq.grow g1⟩⟩
    · cases hk
  · exact pe_mthE0 (by simpa using hw) hc hst hline har ho h
/-- index and count of a tuple that an own def makes -/
theorem pe_mtcE {m : Mt} {x : Str} {p q : Pos} {as : List Expr} {as' : List E} {f : Nat} {es : List Expr} {es' : List E} {apos : Pos} (hX : XOk G N c kw k X) (hw : isRowM m = true) (ho : oddName x = false) (hg : Gl X x) (hsup : (x != ("super" : Str)) = true) (hsa : as.any isStar = false) (hst : es.any isStar = false)
    (hline : (apos.endLine == pos.line) = true) (har : es.length = mtAr m) (hf : fidOf x G.fns = some f) (hnd : G.nds.contains f = true) (ha : Paired (fun e e' => PE X e (TV X.K (ev c kw e'))) as as') (h : Paired (fun e e' => PE X e (TV X.K (ev c kw e'))) es es') :
    PE X (.Call (.Attribute (.Call (.Name x p) as [] q) (mtS m) apos) es [] pos) (TV X.K (ev c kw (.mtc m f as' es'))) := by
  have F := rowFacts hw
  have hu : X.A.units + 100 < cLine := by have := hX.units; omega
  have PC := pe_callN (pos := q) (p := p) hX ho hg hsa hf ha
  rw [hnd] at PC
  cases es with
  | nil => cases m <;> first | exact absurd hw (by decide) | cases har
  | cons e es =>
    have hPA := pa_ev hst h
    have h30 : (e :: es).length < 30 := by rw [har]; cases m <;> decide
    have hst' := hst
    rw [List.any_cons, Bool.or_eq_false_iff] at hst
    refine peImp (pe_bT F.slotT F.tyT (mt_rowT hu m hw) PC hPA (base_call hsup) ?_ hline (star1 hst.1) (star_none hst.2)) fun σ H Q h => ?_
    · rw [star_all hst']
      show (true && true && decide ((e :: es).length + 0 + 0 < 30)) = true
      rw [decide_eq_true (by omega)]; rfl
    · simp only [ev] at h
      obtain ⟨ι, ρ, μ, d, μ', he, hs, hf', hq⟩ := h
      obtain ⟨xs, μ1, h1, h2⟩ := Res.bind_ok hf'
      obtain ⟨x, μ2, h3, h4⟩ := Res.bind_ok h2
      cases x with
      | tup l =>
        obtain ⟨ys, μ3, h5, h6⟩ := Res.bind_ok h4
        refine ⟨ι, ρ, μ, xs, μ1, he, hs, h1, fun ι1 H1 us g1 s1 r1 => ⟨ι1, μ1, xs, .tup l, μ2, s1, r1, h3, fun ι2 H2 u g2 s2 r2 n2 => ⟨n2 rfl, ι2, ρ, μ2, ys, μ3, (he.grow g1).grow g2, s2, h5, fun ι3 H3 vs g3 s3 r3 => ⟨ι3, μ3, l, ys, d, μ', s3, r2.grow g3, r3, h6, ((hq.grow g1).grow g2).grow g3⟩⟩⟩⟩
      | _ => cases h4
end

/-! ### the theorem: what a piece of the text gives is what its term evaluates to -/
theorem omap_mem {α β : Type} {f : α → Option β} {F : α → β → Prop} : ∀ {l : List α} {r : List β}, omap f l = some r → (∀ a b, f a = some b → F a b) → Paired F l r
  | [], r, h, _ => by cases h; exact .nil
  | a :: l, r, h, hF => by
    obtain ⟨b, bs, h1, h2, rfl⟩ := omap_cons h
    exact .cons (hF a b h1) (omap_mem h2 hF)
structure Snd (X : Cx) (c : Call) (kw : Kwp) (e : Expr) (e' : E) : Prop where
  pe : PE X e (TV X.K (ev c kw e'))
  pt : PT X e (TB X.K (ev c kw e'))
  pw : ∀ op vs pos, e = .BoolOp op vs pos → PW X e (TB X.K (ev c kw e'))
  pm : PE X e (TV X.K (ev c kw (toM e')))
theorem Snd.of {X : Cx} {c : Call} {kw : Kwp} {e : Expr} {e' : E} (h : PE X e (TV X.K (ev c kw e'))) (he : ∀ whole, isTrue e X.env whole = (do let v ← whole; standAt e.pos; holding [v] (truthy v))) (hn : ∀ op vs pos, e ≠ .BoolOp op vs pos) (hm : toM e' = e' := by rfl) : Snd X c kw e e' :=
  ⟨h, pt_of h he, fun op vs pos z => absurd z (hn op vs pos), by rw [hm]; exact h⟩
theorem Snd.ofM {X : Cx} {c : Call} {kw : Kwp} {e : Expr} {e' : E} (h : PE X e (TV X.K (ev c kw e'))) (hM : PE X e (TV X.K (ev c kw (toM e')))) (he : ∀ whole, isTrue e X.env whole = (do let v ← whole; standAt e.pos; holding [v] (truthy v))) (hn : ∀ op vs pos, e ≠ .BoolOp op vs pos) : Snd X c kw e e' :=
  ⟨h, pt_of h he, fun op vs pos z => absurd z (hn op vs pos), hM⟩
theorem pi_enu {X : Cx} {G : Cfg} {N : List Str} {c : Call} {kw : Kwp} {k : Nat} {tg e : Expr} {e' : E} {p q : Pos} (hX : XOk G N c kw k X) (hg : Gl X "enumerate") (ht : isTupE tg = true) (hst : isStar e = false) (h : PE X e (TV X.K (ev c kw e'))) :
    PI X tg (.Call (.Name "enumerate" p) [e] [] q) (TSrc X.K (evIt c kw (.enu e'))) := by
  cases tg with
  | Tuple elts kk tpos =>
    have P0 := pi_enumU (X := X) (p := p) (pos := q) (tpos := tpos) (elts := elts) (kk := kk) hg (hX.blt _ (by decide +kernel)) (pa_cons h pa_nil (star1 hst)) (by rw [star1 hst]; rfl)
    refine ⟨fun pins s σ H R I w => P0.run pins s σ H R I ?_⟩
    obtain ⟨ι, ρ, μ, src, μ', he, S, hf, hR⟩ := w
    simp only [evIt] at hf
    obtain ⟨x, μ1, h1, hf⟩ := Res.bind_ok hf
    obtain ⟨hf, rfl⟩ := ofO_ok hf
    refine ⟨ι, ρ, μ, x, _, he, S, h1, fun ι1 H1 v g1 S1 r1 => ?_⟩
    cases x with
    | tup l =>
      cases hf
      cases r1 with
      | tup z1 z2 => exact ⟨_, _, rfl, .inr ⟨z1, hR ι1 H1 _ g1 S1 (src_enumT z1 z2)⟩⟩
    | rol l =>
      cases hf
      cases r1 with
      | rol z1 z2 => exact ⟨_, _, rfl, .inl ⟨z1.sq, hR ι1 H1 _ g1 S1 (src_enumR z1 z2)⟩⟩
    | _ => cases hf
  | _ => cases ht
section
variable {K : PySem.W.Frag} {ι : Ix} {H : Hp} {l k : List D} {xs ys : List V} {a b : Addr}
theorem zip_at {i : Nat} {d : D} (rl : RelL K H ι l xs) (rk : RelL K H ι k ys) (h : (l.zipWith (fun x y => D.tup [x, y]) k)[i]? = some d) : ∃ x y u v, d = .tup [x, y] ∧ xs[i]? = some u ∧ ys[i]? = some v ∧ Rel K H ι x u ∧ Rel K H ι y v := by
  rw [List.getElem?_zipWith] at h
  cases h1 : l[i]? with
  | none => rw [h1] at h; cases h
  | some x =>
    cases h2 : k[i]? with
    | none => rw [h1, h2] at h; cases h
    | some y =>
      rw [h1, h2] at h
      cases h
      obtain ⟨u, q1, q2⟩ := rl.get h1
      obtain ⟨v, q3, q4⟩ := rk.get h2
      exact ⟨x, y, u, v, rfl, q1, q3, q2, q4⟩
theorem zip_none {i : Nat} (rl : RelL K H ι l xs) (rk : RelL K H ι k ys) (h : (l.zipWith (fun x y => D.tup [x, y]) k)[i]? = none) : xs.length ≤ i ∨ ys.length ≤ i := by
  have := List.getElem?_eq_none_iff.mp h
  rw [List.length_zipWith, rl.length, rk.length] at this
  omega
theorem zip_new {T : Addr} {x y : D} {u v : V} {μ : Sto} (s : StOk K H ι μ) (hT : H T = none) (r1 : Rel K H ι x u) (r2 : Rel K H ι y v) : Grow K ι H ι (upd H T (.tup [u, v])) ∧ StOk K (upd H T (.tup [u, v])) ι μ ∧ Rel K (upd H T (.tup [u, v])) ι (.tup [x, y]) (.ref T) :=
  ⟨Grow.fresh hT, s.fresh hT, .tup (.inl (.inl upd_same)) (.cons (r1.grow (Grow.fresh hT)) (.cons (r2.grow (Grow.fresh hT)) .nil))⟩
theorem src_zipR (ha : SqR H ι a xs) (hb : SqR H ι b ys) (rl : RelL K H ι l xs) (rk : RelL K H ι k ys) : SrcOk K ι H (.its (l.zipWith (fun x y => .tup [x, y]) k)) (Itz K a b) := by
  refine ⟨fun ι' H' μ i d g s e => ?_, fun ι' H' μ i g s e => ?_⟩
  · obtain ⟨x, y, u, v, rfl, q1, q2, q3, q4⟩ := zip_at rl rk (show (l.zipWith (fun x y => D.tup [x, y]) k)[i]? = some d by simpa [Src.at] using e)
    refine ⟨⟨xs, ys, u, v, (g.rol _ _ ha).sq, (g.rol _ _ hb).sq, q1, q2⟩, fun z H2 q => ?_⟩
    obtain ⟨T, u2, v2, rfl, hT, rfl, w1, w2⟩ := q
    have e1 := w1 xs ((g.rol _ _ ha).sq)
    have e2 := w2 ys ((g.rol _ _ hb).sq)
    rw [q1] at e1; cases e1
    rw [q2] at e2; cases e2
    exact zip_new s hT (q3.ext g) (q4.ext g)
  · exact ⟨xs, ys, (g.rol _ _ ha).sq, (g.rol _ _ hb).sq, zip_none rl rk (show (l.zipWith (fun x y => D.tup [x, y]) k)[i]? = none by simpa [Src.at] using e)⟩
theorem src_zipT (ha : SqT K H a xs) (hb : SqT K H b ys) (rl : RelL K H ι l xs) (rk : RelL K H ι k ys) : SrcOk K ι H (.its (l.zipWith (fun x y => .tup [x, y]) k)) (RZ.ItzT K a b) := by
  refine ⟨fun ι' H' μ i d g s e => ?_, fun ι' H' μ i g s e => ?_⟩
  · obtain ⟨x, y, u, v, rfl, q1, q2, q3, q4⟩ := zip_at rl rk (show (l.zipWith (fun x y => D.tup [x, y]) k)[i]? = some d by simpa [Src.at] using e)
    refine ⟨⟨xs, ys, u, v, g.tup _ _ ha, g.tup _ _ hb, q1, q2⟩, fun z H2 q => ?_⟩
    obtain ⟨T, u2, v2, rfl, hT, rfl, w1, w2⟩ := q
    have e1 := w1 xs (g.tup _ _ ha)
    have e2 := w2 ys (g.tup _ _ hb)
    rw [q1] at e1; cases e1
    rw [q2] at e2; cases e2
    exact zip_new s hT (q3.ext g) (q4.ext g)
  · exact ⟨xs, ys, g.tup _ _ ha, g.tup _ _ hb, zip_none rl rk (show (l.zipWith (fun x y => D.tup [x, y]) k)[i]? = none by simpa [Src.at] using e)⟩
end
theorem pi_zipE {X : Cx} {G : Cfg} {N : List Str} {c : Call} {kw : Kwp} {k : Nat} {tg e d : Expr} {e' d' : E} {p q : Pos} (hX : XOk G N c kw k X) (hg : Gl X "zip") (ht : isTupE tg = true) (hst : isStar e = false) (hst2 : isStar d = false) (h : PE X e (TV X.K (ev c kw e'))) (h' : PE X d (TV X.K (ev c kw d'))) :
    PI X tg (.Call (.Name "zip" p) [e, d] [] q) (TSrc X.K (evIt c kw (.zip e' d'))) := by
  cases tg with
  | Tuple elts kk tpos =>
    have s2 : starEach [d] X.env = [(false, eval d X.env)] := star1 hst2
    have P0 := RZ.pi_zipA (X := X) (p := p) (pos := q) (tpos := tpos) (elts := elts) (kk := kk) hg (hX.blt _ (by decide +kernel)) (pa_cons h (pa_cons h' pa_nil s2) (by rw [star1 hst])) (star1 hst) (by rw [s2]; rfl)
    refine ⟨fun pins s σ H R I w => P0.run pins s σ H R I ?_⟩
    obtain ⟨ι, ρ, μ, src, μ', he, S, hf, hR⟩ := w
    simp only [evIt] at hf
    obtain ⟨x, μ1, h1, hf⟩ := Res.bind_ok hf
    obtain ⟨y, μ2, h2, hf⟩ := Res.bind_ok hf
    obtain ⟨hf, rfl⟩ := ofO_ok hf
    refine ⟨ι, ρ, μ, x, _, he, S, h1, fun ι1 H1 v g1 S1 r1 => ⟨ι1, ρ, μ1, y, _, he.grow g1, S1, h2, fun ι2 H2 u g2 S2 r2 => ?_⟩⟩
    have r1 := r1.grow g2
    have g := g1.trans g2
    cases x with
    | tup l =>
      cases y with
      | tup k =>
        cases hf
        cases r1 with
        | tup z1 z2 =>
          cases r2 with
          | tup w1 w2 => exact ⟨_, _, _, _, rfl, .inr ⟨z1, w1, hR ι2 H2 _ g S2 (src_zipT z1 w1 z2 w2)⟩⟩
      | _ => cases hf
    | rol l =>
      cases y with
      | rol k =>
        cases hf
        cases r1 with
        | rol z1 z2 =>
          cases r2 with
          | rol w1 w2 => exact ⟨_, _, _, _, rfl, .inl ⟨z1.sq, w1.sq, hR ι2 H2 _ g S2 (src_zipR z1 w1 z2 w2)⟩⟩
      | _ => cases hf
    | _ => cases y <;> cases hf
  | _ => cases ht
theorem cIter_ok {X : Cx} {G : Cfg} {N : List Str} {c : Call} {kw : Kwp} {k : Nat} {sc : Scope} {f : Expr → Option E} (hX : XOk G N c kw k X) (hs : X.env.scope = sc) (hf : ∀ e e', f e = some e' → PE X e (TV X.K (ev c kw e'))) {tg iter : Expr} {it : It} (h : cIter G sc f (isTupE tg) iter = some it) :
    PI X tg iter (TSrc X.K (evIt c kw it)) ∧ isSetE iter = false := by
  unfold cIter at h
  split at h
  · rename_i x p e q
    split at h
    · rename_i hr
      split at h
      · cases h
      · rename_i hst
        obtain ⟨e', h1, rfl⟩ := map_some' h
        unfold isRange at hr
        simp only [Bool.and_eq_true, decide_eq_true_eq] at hr
        obtain ⟨⟨rfl, hg⟩, _⟩ := hr
        exact ⟨pi_rng1 hX (glo_ok hg hs) (by simpa using hst) (hf _ _ h1), rfl⟩
    · split at h
      · rename_i hr
        split at h
        · cases h
        · rename_i hst
          rw [Bool.or_eq_true, not_or] at hst
          obtain ⟨e', h1, rfl⟩ := map_some' h
          unfold isEnum at hr
          simp only [Bool.and_eq_true, decide_eq_true_eq] at hr
          obtain ⟨⟨rfl, hg⟩, _⟩ := hr
          exact ⟨pi_enu hX (glo_ok hg hs) (by simpa using hst.2) (by simpa using hst.1) (hf _ _ h1), rfl⟩
      · obtain ⟨e', h1, rfl⟩ := map_some' h
        exact ⟨pi_seq (hf _ _ h1), rfl⟩
  · rename_i x p e d q
    split at h
    · rename_i hr
      split at h
      · cases h
      · rename_i hst
        rw [Bool.or_eq_true, not_or] at hst
        split at h
        · rename_i y z h1 h2
          cases h
          unfold isRange at hr
          simp only [Bool.and_eq_true, decide_eq_true_eq] at hr
          obtain ⟨⟨rfl, hg⟩, _⟩ := hr
          exact ⟨pi_rng2 hX (glo_ok hg hs) (by simpa using hst.1) (by simpa using hst.2) (hf _ _ h1) (hf _ _ h2), rfl⟩
        · cases h
    · split at h
      · rename_i hr
        split at h
        · cases h
        · rename_i hst
          rw [Bool.or_eq_true, Bool.or_eq_true, not_or, not_or] at hst
          split at h
          · rename_i y z h1 h2
            cases h
            unfold isZip at hr
            simp only [Bool.and_eq_true, decide_eq_true_eq] at hr
            obtain ⟨⟨rfl, hg⟩, _⟩ := hr
            exact ⟨pi_zipE hX (glo_ok hg hs) (by simpa using hst.2) (by simpa using hst.1.1) (by simpa using hst.1.2) (hf _ _ h1) (hf _ _ h2), rfl⟩
          · cases h
      · obtain ⟨e', h1, rfl⟩ := map_some' h
        exact ⟨pi_seq (hf _ _ h1), rfl⟩
  · split at h
    · cases h
    · rename_i hset
      obtain ⟨e', h1, rfl⟩ := map_some' h
      exact ⟨pi_seq (hf _ _ h1), by simpa using hset⟩
end Ev

namespace Ev
open PySem PySem.Spec L2

/-! ### comprehensions with any clauses, converted -/
def emK (ck : CKd) (elt : Expr) (acc : Value) (env : Env) (c : Code) : PySem.Sem PySem.Fin := match ck with
  | .lst => emL elt acc env c
  | .set => emS elt acc env c
/-- what stands behind the tests of the clause ahead of d -/
def aftOf (ck : CKd) (e elt : Expr) (d : Nat) (acc : Value) (env : Env) (c : Code) : PySem.Sem PySem.Fin := match (clausesOf e)[d]? with
  | some g => stepIn e d g.iter acc env c
  | none => emK ck elt acc env c
/-- a comprehension's kind -/
structure CKn (ck : CKd) (e elt : Expr) : Prop where
  k : CK e
  t : ∀ d tg it0 ifs acc it env, (clausesOf e)[d]? = some ⟨tg, it0, ifs, 0⟩ → (∀ g, (clausesOf e)[d + 1]? = some g → g.is_async = 0) →
    compTurn e d it acc env = turnOf e d tg it0 ifs (aftOf ck e elt (d + 1) acc env (.compLoop e d it acc env)) it acc env
theorem cknL (elt : Expr) (gs : List Comprehension) (sc : Scope) (pos : Pos) : CKn .lst (.ListComp elt gs sc pos) elt := by
  refine ⟨ckL _ _ _ _, fun d tg it0 ifs acc it env h h1 => ?_⟩
  have h : gs[d]? = some ⟨tg, it0, ifs, 0⟩ := h
  unfold aftOf
  show _ = turnOf _ d tg it0 ifs (match gs[d + 1]? with | some g => stepIn _ (d + 1) g.iter acc env _ | none => emK .lst elt acc env _) it acc env
  cases e1 : gs[d + 1]? with
  | none => exact turnL_end h e1
  | some g =>
    obtain ⟨tg1, it1, ifs1, a⟩ := g
    have ha : a = 0 := h1 _ e1
    subst ha
    exact turnL_in h e1
theorem cknS (elt : Expr) (gs : List Comprehension) (sc : Scope) (pos : Pos) : CKn .set (.SetComp elt gs sc pos) elt := by
  refine ⟨ckS _ _ _ _, fun d tg it0 ifs acc it env h h1 => ?_⟩
  have h : gs[d]? = some ⟨tg, it0, ifs, 0⟩ := h
  unfold aftOf
  show _ = turnOf _ d tg it0 ifs (match gs[d + 1]? with | some g => stepIn _ (d + 1) g.iter acc env _ | none => emK .set elt acc env _) it acc env
  cases e1 : gs[d + 1]? with
  | none => exact turnS_end h e1
  | some g =>
    obtain ⟨tg1, it1, ifs1, a⟩ := g
    have ha : a = 0 := h1 _ e1
    subst ha
    exact turnS_in h e1
section
variable {Y : Cx} {c : Call} {kw : Kwp}
theorem nest_S {elt : Expr} {te : TE} {D : Addr} {cd : Code} (hx : Y.xe = NoE) (pe : PE Y elt te) :
    NestOk Y cd (emS elt (.ref D) Y.env cd) [] (fun σ H Nx => te σ H fun y H' => ∃ x L, y = V.str x ∧ H' D = some (SetXO Y.prog Y.w D L) ∧ L.length + 1 < scanBound ∧ Nx (upd H' D (SetXO Y.prog Y.w D (addT L x)))) := by
  intro pins s σ H Nx I h
  unfold emS
  refine wpAny_bind (wpAny_bind (thnX hx (pe.run pins s σ H _ I h) fun v s1 q1 => ?_))
  obtain ⟨y, H1, I1, r1, x, L, rfl, hD, hz, nx⟩ := q1
  obtain ⟨u, rfl⟩ := r1
  refine wpAny_bind (wpAny_standAt (wpAny_bind (setX_add (setX_get I1 hD) hz fun h' sb R => ?_)))
  have he : ∃ o, h'.get? D = some o := by
    obtain ⟨o, _, _, _, ho, _⟩ := R
    exact ⟨o, ho⟩
  refine wpAny_pure (wpAny_pure ⟨rfl, _, I1.write (e := D) (t' := s1.toks + 1) (by rw [hD]; trivial) (.inl rfl) (fun b o hb q => (sb.2 b hb).trans q) he (setX_obj R), nx⟩)
theorem NestOk.imp {cd : Code} {aft : PySem.Sem PySem.Fin} {vs : List Nat} {wn wn' : WN} (h : NestOk Y cd aft vs wn) (i : ∀ σ H Nx, wn' σ H Nx → wn σ H Nx) : NestOk Y cd aft vs wn' := fun pins s σ H Nx I q => h pins s σ H Nx I (i σ H Nx q)
/-- the last part -/
theorem nest_last {ck : CKd} {elt : Expr} {y : E} {D : Addr} {cd : Code} (hx : Y.xe = NoE) (pe : PE Y elt (TV Y.K (ev c kw y))) :
    NestOk Y cd (emK ck elt (.ref D) Y.env cd) [] (TN Y.prog Y.w Y.K ck (evN c kw ck (.last y)) D) := by
  cases ck with
  | lst =>
    refine (nest_L hx pe).imp fun σ H Nx h => ?_
    obtain ⟨ι, ρ, μ, acc, acc', μ', he, S, hd, hc, hf, hN⟩ := h
    simp only [evN] at hf
    obtain ⟨yv, μ1, h1, hf⟩ := Res.bind_ok hf
    obtain ⟨hf, rfl⟩ := ofO_ok hf
    refine ⟨ι, ρ, μ, yv, _, he, S, h1, fun ι1 H1 v g1 S1 r1 => ?_⟩
    simp only [emitD] at hf
    split at hf
    · rename_i hz
      cases hf
      obtain ⟨xs, q1, q2⟩ := hc.grow hd g1
      have hd1 : D ∈ ι1.hid := by rw [g1.hid]; exact hd
      have gu : Ext Y.K ι1 H1 ι1 (upd H1 D (.lst (xs ++ [v]))) := Ext.upd q1 trivial (.inr hd1)
      rw [room_eq, q2.length] at hz
      exact ⟨xs, q1, hz, hN ι1 _ (g1.toD.trans ⟨gu, rfl, fun a _ hn o q => by rw [upd_ne hn]; exact q⟩) (S1.grow_hid hd1 trivial) ⟨_, upd_same, (q2.append (.cons r1 .nil)).ext gu⟩⟩
    · cases hf
  | set =>
    refine (nest_S hx pe).imp fun σ H Nx h => ?_
    obtain ⟨ι, ρ, μ, acc, acc', μ', he, S, hd, hc, hf, hN⟩ := h
    simp only [evN] at hf
    obtain ⟨yv, μ1, h1, hf⟩ := Res.bind_ok hf
    obtain ⟨hf, rfl⟩ := ofO_ok hf
    refine ⟨ι, ρ, μ, yv, _, he, S, h1, fun ι1 H1 v g1 S1 r1 => ?_⟩
    simp only [emitD] at hf
    cases yv with
    | str z =>
      simp only at hf
      split at hf
      · rename_i hz
        cases hf
        obtain ⟨ts, rfl, q1, q2⟩ := hc.grow hd g1
        cases r1
        have hd1 : D ∈ ι1.hid := by rw [g1.hid]; exact hd
        rw [List.length_map] at hz
        have hl := addTs_length [] (ts.map mkS)
        rw [List.length_map, List.length_nil] at hl
        have e1 : addT (addTs [] (ts.map mkS)) (mkS z) = addTs [] ((ts ++ [z]).map mkS) := by rw [List.map_append, addTs_append]; rfl
        have gu : Ext Y.K ι1 H1 ι1 (upd H1 D (SetXO Y.prog Y.w D (addTs [] ((ts ++ [z]).map mkS)))) := Ext.upd q1 trivial (.inr hd1)
        refine ⟨mkS z, _, rfl, q1, by show _ < 4096; omega, ?_⟩
        rw [e1]
        exact hN ι1 _ (g1.toD.trans ⟨gu, rfl, fun a _ hn o q => by rw [upd_ne hn]; exact q⟩) (S1.grow_hid hd1 trivial) ⟨ts ++ [z], by simp, upd_same, by simp; omega⟩
      · cases hf
    | _ => cases hf
end
section
variable {G : Cfg} {N : List Str} {c : Call} {kw : Kwp} {k : Nat}
theorem ifs_ok {Y : Cx} {f : Expr → Option E} (hf : ∀ e e', f e = some e' → PT Y e (TB Y.K (ev c kw e'))) {ifs : List Expr} {d : E} (h : cIfs f ifs = some d) : PTs Y ifs (TB Y.K (ev c kw d)) := by
  unfold cIfs at h
  split at h
  · cases h
    exact ⟨fun pins s σ H Q I q => pts_nilE.run pins s σ H Q I (by
      obtain ⟨ι, ρ, μ, b, μ', h1, h2, h3, h4⟩ := q
      simp only [ev] at h3
      exact ⟨ι, ρ, μ, b, μ', h1, h2, h3, h4⟩)⟩
  · exact pts_one (hf _ _ h)
  · cases h
/-- a target inside -/
theorem tg_in {Y : Cx} {sc scope : Scope} {own : List (Str × Nat)} (hB : XOk G N c kw k Y) (hY : Y.env.scope = relS scope sc) (hfn : ∀ x, scope.names.lookup x = some .cell ∨ scope.names.lookup x = some .local → Y.fn x = true ∨ Y.env.scope.names.lookup x = some .local)
    {tg : Expr} {t : Tg} (ht : cT N scope tg = some t) : PG Y tg (gOf Y.K t) := by
  refine pg_ev (sc := scope) hB.calm hB.eN hB.nd (fun x i h => ?_) ht
  obtain ⟨h1, _⟩ := nameIx_kind h
  refine ⟨?_, hfn x h1.symm⟩
  rw [hY]
  rcases h1 with h1 | h1
  · exact .inl (lookup_relS_keep (k := .local) (by decide) h1)
  · exact .inr (lookup_relS_keep (k := .cell) (by decide) h1)
theorem nest_ok {Y : Cx} {ck : CKd} {e elt : Expr} {sc scope : Scope} {f : Expr → Option E} {D : Addr} (hk : CKn ck e elt) (hY : XOk G N c kw k Y) (hs : Y.env.scope = relS scope sc) (hx : Y.xe = NoE)
    (hg : ∀ tg t, cT N scope tg = some t → PG Y tg (gOf Y.K t)) (hf : ∀ e e', f e = some e' → PE Y e (TV Y.K (ev c kw e'))) (hft : ∀ e e', f e = some e' → PT Y e (TB Y.K (ev c kw e'))) :
    ∀ (gs : List Comprehension) (vs : List Nat) (n : Nest) (d : Nat), cNest G N (relS scope sc) f scope elt vs gs = some n → (clausesOf e).drop d = gs →
      (∀ g, (clausesOf e)[d]? = some g → g.is_async = 0) ∧ ∃ vs', (∀ i ∈ vs', i ∈ vs) ∧ ∀ cd, NestOk Y cd (aftOf ck e elt d (.ref D) Y.env cd) vs' (TN Y.prog Y.w Y.K ck (evN c kw ck n) D) := by
  intro gs
  induction gs with
  | nil =>
    intro vs n d h hd
    have e0 : (clausesOf e)[d]? = none := by
      rw [List.getElem?_eq_none_iff]
      exact List.drop_eq_nil_iff.mp hd
    obtain ⟨y, h1, rfl⟩ := map_some' (show (f elt).map Nest.last = some n from h)
    refine ⟨fun g hg => (by rw [e0] at hg; cases hg), [], fun _ z => (by cases z), fun cd => ?_⟩
    unfold aftOf
    rw [e0]
    exact nest_last hx (hf _ _ h1)
  | cons g gs ih =>
    intro vs n d h hd
    obtain ⟨tg, iter, ifs, a⟩ := g
    have e0 : (clausesOf e)[d]? = some ⟨tg, iter, ifs, a⟩ := by
      have q : ((clausesOf e).drop d)[0]? = some ⟨tg, iter, ifs, a⟩ := by rw [hd]; rfl
      rw [List.getElem?_drop] at q
      exact q
    simp only [cNest] at h
    split at h
    · cases h
    · rename_i ha
      have ha : a = 0 := by simpa using ha
      subst ha
      split at h
      · rename_i t it dd ht hit hif
        split at h
        · rename_i hall
          obtain ⟨n', h1, rfl⟩ := map_some' h
          have hd' : (clausesOf e).drop (d + 1) = gs := by rw [← List.drop_drop, hd]; rfl
          obtain ⟨ha', vs', hv, hn⟩ := ih _ n' (d + 1) h1 hd'
          have hI := cIter_ok (tg := tg) hY hs hf hit
          have hin : ∀ i ∈ t.ixs, i ∈ vs := fun i hi => by
            have q := List.all_eq_true.mp hall i hi
            simpa using q
          refine ⟨fun g hg => (by rw [e0] at hg; cases hg; rfl), vs, fun _ z => z, fun cd => ?_⟩
          unfold aftOf
          rw [e0]
          refine (nest_cl (aft := fun it => aftOf ck e elt (d + 1) (.ref D) Y.env (.compLoop e d it (.ref D) Y.env)) hx hY.calm hk.k e0 (fun u => hk.t d tg iter ifs _ u _ e0 ha') hI.1 (hg _ _ ht) (ifs_ok hft hif) (fun u => hn _) (fun i hi => (List.mem_filter.mp (hv i hi)).1) (fold_set hI.2 _)).imp fun σ H Nx q => ?_
          refine cl_read hin ?_
          simpa only [evN] using q
        · cases h
      · cases h
/-- a whole one -/
theorem comp_pe {X : Cx} {ck : CKd} {e elt : Expr} {sc scope : Scope} {f g : Expr → Option E} {gs : List Comprehension} {n : Nest} {pos' : Pos} {o0 : Obj} {newAcc : Sem Value} (hk : CKn ck e elt) (hcl : clausesOf e = gs)
    (heq : ∀ tg it0 ifs rest, gs = ⟨tg, it0, ifs, 0⟩ :: rest → eval e X.env = comprehension e scope X.env pos' newAcc false (eval it0 X.env) none)
    (hnew : ∀ {s : Shared} {Q : Value → Shared → Prop} {E : Value → Shared → Prop}, Q (.ref s.heap.objs.size) { s with heap := s.heap.push o0 } → wpAny (model X.prog X.w) X.A newAcc Q E s)
    (hobj : ∀ (h : Heap) (H : Hp), ObjOk X.prog X.w H (h.push o0) h.objs.size (obj0 X.prog X.w ck h.objs.size))
    (hX : XOk G N c kw k X) (hs : X.env.scope = sc) (hf : ∀ e e', f e = some e' → PE X e (TV X.K (ev c kw e'))) (hg : ∀ Y : Cx, XOk G N c kw k Y → Y.env.scope = relS scope sc → ∀ e e', g e = some e' → PE Y e (TV Y.K (ev c kw e')) ∧ PT Y e (TB Y.K (ev c kw e')))
    (h : cComp G N sc f g scope elt gs = some n) : PE X e (TCm X.prog X.w X.K ck (evN c kw ck n)) := by
  cases gs with
  | nil => cases h
  | cons g0 gs =>
    obtain ⟨tg, iter, ifs, a⟩ := g0
    simp only [cComp] at h
    split at h
    · cases h
    · rename_i ha
      have ha : a = 0 := by simpa using ha
      subst ha
      split at h
      · cases h
      · rename_i own hown
        split at h
        · cases h
        · rename_i hb
          have hb : blkC N sc scope own = true := by simpa using hb
          split at h
          · rename_i t it dd n' ht hit hif hn
            cases h
            rw [ht] at hn
            have hI := cIter_ok (tg := tg) hX hs hf hit
            have hin := ixs_in hown ht
            have hd1 : (clausesOf e).drop 1 = gs := by rw [hcl]; rfl
            subst hs
            have tgt : ∀ (s : Shared) (H : Hp) (C : Addr) (cl : List (Str × Addr)) (fp : List Addr) {tg : Expr} {t : Tg}, cT N scope tg = some t → PG (X.blk s H scope (compEnvC scope cl C X.env) fp) tg (gOf X.K t) := fun s H C cl fp tg t ht => by
              refine tg_in (k := k) (sc := X.env.scope) (own := own) (hX.blk s H scope (compEnvC scope cl C X.env) fp) rfl (fun x hx => ?_) ht
              rcases hx with hx | hx
              · exact .inl (by show (scope.names.lookup x == some .cell) = true; rw [hx]; rfl)
              · exact .inr (lookup_relS_keep (sc := X.env.scope) (k := .local) (by decide) hx)
            have inner : ∀ (s : Shared) (H : Hp) (C : Addr) (cl : List (Str × Addr)) (fp : List Addr) (D : Addr), (∀ g, (clausesOf e)[1]? = some g → g.is_async = 0) ∧ ∃ vs', (∀ i ∈ vs', i ∈ ((own.map (·.2)).filter fun i => !t.ixs.contains i)) ∧
                ∀ cd, NestOk (X.blk s H scope (compEnvC scope cl C X.env) fp) cd (aftOf ck e elt 1 (.ref D) (compEnvC scope cl C X.env) cd) vs' (TN X.prog X.w X.K ck (evN c kw ck n') D) := fun s H C cl fp D =>
              nest_ok (Y := X.blk s H scope (compEnvC scope cl C X.env) fp) (sc := X.env.scope) (D := D) hk (hX.blk _ _ _ _ _) rfl rfl (fun tg t ht => tgt s H C cl fp ht) (fun a b q => (hg _ (hX.blk _ _ _ _ _) rfl a b q).1) (fun a b q => (hg _ (hX.blk _ _ _ _ _) rfl a b q).2) gs _ n' 1 hn hd1
            refine ⟨fun pins s σ H Q I q => ?_⟩
            have has : ∀ g, (clausesOf e)[1]? = some g → g.is_async = 0 := (inner s (fun _ => none) 0 [] [] 0).1
            rw [heq tg iter ifs gs rfl]
            have e0 : (clausesOf e)[0]? = some ⟨tg, iter, ifs, 0⟩ := by rw [hcl]; rfl
            refine comp_core (elt := elt) (wn := fun D => TN X.prog X.w X.K ck (evN c kw ck n') D) (vs' := (own.map (·.2)).filter fun i => !t.ixs.contains i) (h0 := obj0 X.prog X.w ck) (aft := fun D u env => aftOf ck e elt 1 (.ref D) env (.compLoop e 0 u (.ref D) env)) hk.k hcl (fun D u env => hk.t 0 tg iter ifs _ u env e0 has) hnew hobj
              hX.calm (by rw [hX.eN]; exact hX.nd) I hI.1 (by rw [hX.eN]; exact blkOk_by hb) (fun i hi => (List.mem_filter.mp hi).1) (fun s H C cl fp => tgt s H C cl fp ht) (fun s H C cl fp => ifs_ok (fun a b q => (hg _ (hX.blk _ _ _ _ _) rfl a b q).2) hif)
              (fun s H C cl fp D u => ?_) (fold_set hI.2 _) (comp_read hin (by simpa only [evN] using q)) fun D C s' m H' I' q hn f => ⟨m, hn, fun h2 sb => ?_⟩
            · obtain ⟨_, vs', hv, hn⟩ := inner s H C cl fp D
              intro pins s1 σ1 H1 Nx I1 w1
              refine wpAny_mono (hn _ pins s1 σ1 H1 Nx I1 w1) (fun f s2 q2 => ?_) fun _ _ z => z
              obtain ⟨q3, H2, I2, nx⟩ := q2
              exact ⟨q3, H2, weak_wipe hv rfl I2, nx⟩
            · exact ⟨.ref D, H', I'.turned (t' := s'.toks) (fun b o hb q => (sb.2 b hb).trans q) f.1 f.2.1 f.2.2.2.1 f.2.2.2.2.1 f.2.2.2.2.2, rfl, q⟩
          · cases h
theorem compL_pe {X : Cx} {elt : Expr} {sc scope : Scope} {pos : Pos} {f g : Expr → Option E} {gs : List Comprehension} {n : Nest} (hX : XOk G N c kw k X) (hs : X.env.scope = sc) (hf : ∀ e e', f e = some e' → PE X e (TV X.K (ev c kw e')))
    (hg : ∀ Y : Cx, XOk G N c kw k Y → Y.env.scope = relS scope sc → ∀ e e', g e = some e' → PE Y e (TV Y.K (ev c kw e')) ∧ PT Y e (TB Y.K (ev c kw e'))) (h : cComp G N sc f g scope elt gs = some n) :
    PE X (.ListComp elt gs scope pos) (TV X.K (ev c kw (.lcN n))) := by
  refine peImp (comp_pe (o0 := { cls := .type "list", data := .seq ([] : List Value).toArray }) (newAcc := newList []) (pos' := firstIterPos gs pos) (cknL elt gs scope pos) rfl (fun tg it0 ifs rest e => ?_) (fun q => wpAny_newObj_type q (by show 0 ≤ sizeLine; decide)) (fun h H => ⟨Nat.zero_le _, [], 0, .nil, Heap.get?_push_size _ rfl⟩) hX hs hf hg h) fun σ H Q q => ?_
  · subst e
    rfl
  · obtain ⟨ι, ρ, μ, d, μ', he, S, hf, ha⟩ := q
    simp only [ev] at hf
    obtain ⟨acc, μ1, h1, hf⟩ := Res.bind_ok hf
    cases hf
    exact ⟨ι, ρ, μ, acc, _, he, S, h1, fun ι' H' D g S' n1 n2 c0 => let ⟨xs, q1, q2⟩ := c0; ha ι' H' _ g S' (.rol ⟨n1, n2, q1⟩ q2)⟩
theorem compS_pe {X : Cx} {elt : Expr} {sc scope : Scope} {pos : Pos} {f g : Expr → Option E} {gs : List Comprehension} {n : Nest} (hX : XOk G N c kw k X) (hs : X.env.scope = sc) (hf : ∀ e e', f e = some e' → PE X e (TV X.K (ev c kw e')))
    (hg : ∀ Y : Cx, XOk G N c kw k Y → Y.env.scope = relS scope sc → ∀ e e', g e = some e' → PE Y e (TV Y.K (ev c kw e')) ∧ PT Y e (TB Y.K (ev c kw e'))) (h : cComp G N sc f g scope elt gs = some n) :
    PE X (.SetComp elt gs scope pos) (TCm X.prog X.w X.K .set (evN c kw .set n)) := by
  refine comp_pe (o0 := newSetObj X.w) (newAcc := newSet (.type "set")) (pos' := firstIterPos gs pos) (cknS elt gs scope pos) rfl (fun tg it0 ifs rest e => ?_) (fun q => PpSet.newSet_ok q) (fun h H => setX_obj (setX_fresh h)) hX hs hf hg h
  subst e
  rfl
end
end Ev

namespace Ev
open PySem PySem.Spec L2 PyProof.Rows
section
variable {G : Cfg} {N : List Str} {c : Call} {kw : Kwp} {k : Nat}
theorem compL_ps {X : Cx} {elt : Expr} {sc scope : Scope} {f g : Expr → Option E} {gs : List Comprehension} {n : Nest} {pos spos py : Pos} {i : Nat} {y : Str} (hN : X.N.Nodup) (hy : X.N[i]? = some y) (hyl : X.env.scope.names.lookup y = some .local)
    (hsw : swapsWith (.ListComp elt gs scope pos) (some (.Name y py)) spos.line X.env = pure true)
    (hX : XOk G N c kw k X) (hs : X.env.scope = sc) (hf : ∀ e e', f e = some e' → PE X e (TV X.K (ev c kw e'))) (hg : ∀ Y : Cx, XOk G N c kw k Y → Y.env.scope = relS scope sc → ∀ e e', g e = some e' → PE Y e (TV Y.K (ev c kw e')) ∧ PT Y e (TB Y.K (ev c kw e')))
    (h : cComp G N sc f g scope elt gs = some n) : PS X (.Assign [.Name y py] (.ListComp elt gs scope pos) spos) (tAsg (TV X.K (ev c kw (.lcN n))) (gName i)) := by
  have hk : CKn .lst (.ListComp elt gs scope pos) elt := cknL elt gs scope pos
  have hcl : clausesOf (.ListComp elt gs scope pos) = gs := rfl
  have toCm : ∀ {σ H Q}, TV X.K (ev c kw (.lcN n)) σ H Q → TCm X.prog X.w X.K .lst (evN c kw .lst n) σ H Q := fun {σ H Q} q => by
    obtain ⟨ι, ρ, μ, d, μ', he, S, hf, ha⟩ := q
    simp only [ev] at hf
    obtain ⟨acc, μ1, h1, hf⟩ := Res.bind_ok hf
    cases hf
    exact ⟨ι, ρ, μ, acc, _, he, S, h1, fun ι' H' D g S' n1 n2 c0 => let ⟨xs, q1, q2⟩ := c0; ha ι' H' _ g S' (.rol ⟨n1, n2, q1⟩ q2)⟩
  cases gs with
  | nil => cases h
  | cons g0 gs =>
    obtain ⟨tg, iter, ifs, a⟩ := g0
    simp only [cComp] at h
    split at h
    · cases h
    · rename_i ha
      have ha : a = 0 := by simpa using ha
      subst ha
      split at h
      · cases h
      · rename_i own hown
        split at h
        · cases h
        · rename_i hb
          have hb : blkC N sc scope own = true := by simpa using hb
          split at h
          · rename_i t it dd n' ht hit hif hn
            cases h
            rw [ht] at hn
            have hI := cIter_ok (tg := tg) hX hs hf hit
            have hin := ixs_in hown ht
            have hd1 : (clausesOf (Expr.ListComp elt (⟨tg, iter, ifs, 0⟩ :: gs) scope pos)).drop 1 = gs := by rw [hcl]; rfl
            subst hs
            have tgt : ∀ (s : Shared) (H : Hp) (C : Addr) (cl : List (Str × Addr)) (fp : List Addr) {tg : Expr} {t : Tg}, cT N scope tg = some t → PG (X.blk s H scope (compEnvC scope cl C X.env) fp) tg (gOf X.K t) := fun s H C cl fp tg t ht => by
              refine tg_in (k := k) (sc := X.env.scope) (own := own) (hX.blk s H scope (compEnvC scope cl C X.env) fp) rfl (fun x hx => ?_) ht
              rcases hx with hx | hx
              · exact .inl (by show (scope.names.lookup x == some .cell) = true; rw [hx]; rfl)
              · exact .inr (lookup_relS_keep (sc := X.env.scope) (k := .local) (by decide) hx)
            have inner : ∀ (s : Shared) (H : Hp) (C : Addr) (cl : List (Str × Addr)) (fp : List Addr) (D : Addr), (∀ g, (clausesOf (Expr.ListComp elt (⟨tg, iter, ifs, 0⟩ :: gs) scope pos))[1]? = some g → g.is_async = 0) ∧ ∃ vs', (∀ i ∈ vs', i ∈ ((own.map (·.2)).filter fun i => !t.ixs.contains i)) ∧
                ∀ cd, NestOk (X.blk s H scope (compEnvC scope cl C X.env) fp) cd (aftOf .lst (Expr.ListComp elt (⟨tg, iter, ifs, 0⟩ :: gs) scope pos) elt 1 (.ref D) (compEnvC scope cl C X.env) cd) vs' (TN X.prog X.w X.K .lst (evN c kw .lst n') D) := fun s H C cl fp D =>
              nest_ok (Y := X.blk s H scope (compEnvC scope cl C X.env) fp) (sc := X.env.scope) (D := D) hk (hX.blk _ _ _ _ _) rfl rfl (fun tg t ht => tgt s H C cl fp ht) (fun a b q => (hg _ (hX.blk _ _ _ _ _) rfl a b q).1) (fun a b q => (hg _ (hX.blk _ _ _ _ _) rfl a b q).2) gs _ n' 1 hn hd1
            refine ⟨fun pins s σ H D0 I q0 => ?_⟩
            have q := toCm (show TV X.K (ev c kw (.lcN (.cl (own.map (·.2)) t it dd n'))) σ H (fun x H1 => gName i x σ H1 D0.nx) from q0)
            have has : ∀ g, (clausesOf (Expr.ListComp elt (⟨tg, iter, ifs, 0⟩ :: gs) scope pos))[1]? = some g → g.is_async = 0 := (inner s (fun _ => none) 0 [] [] 0).1
            rw [exec_Assign_Name_used _ _ _ _ hsw]
            refine wpAny_bind (wpAny_standAt (wpAny_bind ?_))
            show wpAny _ X.A (do let _ ← comprehension (.ListComp elt (⟨tg, iter, ifs, 0⟩ :: gs) scope pos) scope X.env (firstIterPos (⟨tg, iter, ifs, 0⟩ :: gs) pos) (newList []) false (eval iter X.env) (some (assign (.Name y py) X.env))) _ _ s
            have e0 : (clausesOf (Expr.ListComp elt (⟨tg, iter, ifs, 0⟩ :: gs) scope pos))[0]? = some ⟨tg, iter, ifs, 0⟩ := by rw [hcl]; rfl
            refine wpAny_bind (thn (comp_core (Qf := fun _ s' => SP X pins D0 .next s') (o0 := { cls := .type "list", data := .seq ([] : List Value).toArray }) (elt := elt) (wn := fun D => TN X.prog X.w X.K .lst (evN c kw .lst n') D) (vs' := (own.map (·.2)).filter fun i => !t.ixs.contains i) (h0 := obj0 X.prog X.w .lst) (aft := fun D u env => aftOf .lst (Expr.ListComp elt (⟨tg, iter, ifs, 0⟩ :: gs) scope pos) elt 1 (.ref D) env (.compLoop (Expr.ListComp elt (⟨tg, iter, ifs, 0⟩ :: gs) scope pos) 0 u (.ref D) env)) hk.k hcl (fun D u env => hk.t 0 tg iter ifs _ u env e0 has) (fun q => wpAny_newObj_type q (by show 0 ≤ sizeLine; decide)) (fun h H => ⟨Nat.zero_le _, [], 0, .nil, Heap.get?_push_size _ rfl⟩)
              hX.calm (by rw [hX.eN]; exact hX.nd) I hI.1 (by rw [hX.eN]; exact blkOk_by hb) (fun i hi => (List.mem_filter.mp hi).1) (fun s H C cl fp => tgt s H C cl fp ht) (fun s H C cl fp => ifs_ok (fun a b q => (hg _ (hX.blk _ _ _ _ _) rfl a b q).2) hif)
              (fun s H C cl fp D u => ?_) (fold_set hI.2 _) (comp_read hin (by simpa only [evN] using q)) fun L C s' m H' I' q hn f => ?_) fun _ s' hq => wpAny_pure (wpAny_pure hq))
            · obtain ⟨_, vs', hv, hn⟩ := inner s H C cl fp D
              intro pins s1 σ1 H1 Nx I1 w1
              refine wpAny_mono (hn _ pins s1 σ1 H1 Nx I1 w1) (fun f s2 q2 => ?_) fun _ _ z => z
              obtain ⟨q3, H2, I2, nx⟩ := q2
              exact ⟨q3, H2, weak_wipe hv rfl I2, nx⟩
            · show wpAny _ _ (assign (.Name y py) X.env (.ref L)) _ _ _
              refine wpAny_assign_Name (store_ok2 (v := V.ref L) I' hN hy (.inl hyl) rfl (fun s2 I2 ⟨a, sb, ha⟩ => ?_) (.inr hyl))
              obtain ⟨f0, f1, f2, f3, f4, f5⟩ := f
              have haC : C ≠ a := by
                rcases ha with z | z
                · rw [z]; exact f1
                · exact fun e => f4 y a z e.symm
              refine ⟨m, hn.sameBut sb haC, fun h3 sb3 => ?_⟩
              exact ⟨_, H', I2.turned (t' := s2.toks) (fun b o hb e => (sb3.2 b hb).trans e) f0 f1 f3 f4 f5, q⟩
          · cases h
end
end Ev

namespace Ev
open PySem PySem.Spec L2

/-! ### errors as values: made, asked for their class and field -/
section
variable {X : Cx} {G : Cfg} {N : List Str} {c : Call} {kw : Kwp} {k : Nat}
theorem pmkE {cn fld : Str} {C fI : Addr} {fd : FuncData} {a : Expr} {y : E} {p pos : Pos} (hX : XOk G N c kw k X) (Er : ErrOk X.K X.mg cn fld C fI fd) (hg : Gl X cn) (hst : isStar a = false) (h : PE X a (TV X.K (ev c kw y))) :
    PMk X (.Call (.Name cn p) [a] [] pos) (fun σ H Q => ∃ ι ρ μ d μ', EnvOk X.K H ι ρ σ ∧ StOk X.K H ι μ ∧ ev c kw y ρ μ = .ok d μ' ∧
      ∀ ι' H' v dx, Grow X.K ι H ι' H' → StOk X.K H' ι' μ' → Rel X.K H' ι' d v → H' dx = some (.xd [(fld, v)]) → Q (.ref C) (some dx) H') := by
  have hPA : PA X [a] (TL X.K (evs c kw [y])) := pa_ev (by simp [hst]) (.cons h .nil)
  have q := pmk_oex (x := cn) (e := a) (es := []) (p := p) (pos := pos) (dvs := []) (ds := []) Er.T Er.iC Er.tI (Er.init _ _ _) (hX.room.mono hX.lev) Er.bnd .nil pass0 hg Er.mC hPA Er.dbg (star1 hst) rfl
  intro pins s σ H Q I h
  refine q pins s σ H Q I ?_
  obtain ⟨ι, ρ, μ, d, μ', he, hs, hf, ha⟩ := h
  refine ⟨ι, ρ, μ, [d], μ', he, hs, by simp only [evs, hf, Res.bind], fun ι1 H1 us g1 s1 r1 => ?_⟩
  cases r1 with
  | cons r0 rn =>
    cases rn
    rename_i v
    refine ⟨by simp, fun a na => ⟨a, v, rfl, upd_same, fun dx n ne => ?_⟩⟩
    have n1 : H1 dx = none := by rw [upd_ne ne] at n; exact n
    refine ⟨rfl, dx, [(fld, v)], upd_same, by rw [upd_ne ne, upd_same], n1, ?_⟩
    have e : upd (L2.del (upd (upd (upd H1 a (exo a C none)) dx (exd dx [(fld, v)])) a (exo a C (some dx))) a) dx (.xd [(fld, v)]) = upd H1 dx (.xd [(fld, v)]) := by
      funext b
      by_cases hb : b = dx
      · subst hb; rw [upd_same, upd_same]
      · rw [upd_ne hb, upd_ne hb]
        by_cases hba : b = a
        · subst hba; rw [L2.del_same, na]
        · rw [L2.del_ne hba, upd_ne hba, upd_ne hb, upd_ne hba]
    rw [e]
    exact ha ι1 _ v dx (g1.trans (Grow.fresh n1)) (s1.fresh n1) (r0.grow (Grow.fresh n1)) upd_same
/-- what a maker of an error leaves, as a value that is tracked -/
theorem mk_value {pins : List (Addr × Obj)} {σ : L2.St} {Q : VK} {Q' : XK} {u : Value} {s' : Shared} (h : MkP X pins σ Q' u s') (hq : ∀ cls d H' a, H' a = none → Q' cls d H' → Q (.ref a) (upd H' a (ExH cls d a))) : EP X pins σ Q u s' := by
  obtain ⟨a, oe, vs, sI, H', cls, d, rfl, I, kp, hp, he, hz, hd, _, na, os, ag, _, q⟩ := h
  have J := I.laidN (t' := sI.toks) kp hp na (exH_ok he hz hd)
  refine ⟨.ref a, _, ?_, rfl, hq cls d H' a na q⟩
  exact ⟨J.ok, os.trans J.os, ag, J.base, J.loc, J.cell, J.free, J.freeC, J.pin, J.hok, J.len⟩
theorem pe_mkE {cn : Str} {cl : Nat} {C fI : Addr} {fd : FuncData} {a : Expr} {y : E} {p pos : Pos} (hX : XOk G N c kw k X) (Er : ErrOk X.K X.mg cn (errF cl) C fI fd) (hc : ClsAt X.K cl C) (hg : Gl X cn) (hst : isStar a = false) (h : PE X a (TV X.K (ev c kw y))) :
    PE X (.Call (.Name cn p) [a] [] pos) (TV X.K fun ρ μ => (evs c kw [y] ρ μ).bind fun xs μ => xopD (.mk cl) xs μ) := by
  refine ⟨fun pins s σ H Q I h0 => ?_⟩
  obtain ⟨ι, ρ, μ, r, μ', he, hs, hf, ha⟩ := h0
  obtain ⟨xs, μ1, h1, h2⟩ := Res.bind_ok hf
  simp only [evs] at h1
  obtain ⟨d, μ2, h3, h4⟩ := Res.bind_ok h1
  cases h4
  cases h2
  refine thn (pmkE (p := p) (pos := pos) hX Er hg hst h pins s σ H (fun cls dd H' => ∃ ι' v dx, cls = .ref C ∧ dd = some dx ∧ Grow X.K ι H ι' H' ∧ StOk X.K H' ι' μ' ∧ Rel X.K H' ι' d v ∧ H' dx = some (.xd [(errF cl, v)])) I ⟨ι, ρ, μ, d, μ', he, hs, h3, fun ι' H' v dx g s r z => ⟨ι', v, dx, rfl, rfl, g, s, r, z⟩⟩) fun u s' hm => ?_
  refine mk_value hm fun cls dd H' a na hq => ?_
  obtain ⟨ι', v, dx, rfl, rfl, g, s, r, z⟩ := hq
  have hda : dx ≠ a := fun e => by rw [e, na] at z; cases z
  have g2 : Grow X.K ι' H' ι' (upd H' a (ExH (.ref C) (some dx) a)) := Grow.fresh na
  exact ha ι' _ _ (g.trans g2) (s.fresh na) (.exo1 hc ⟨s.not_mem na, s.not_hid na, upd_same⟩ (by rw [upd_ne hda]; exact z) (r.grow g2))
/-- cn(), a class without an __init__ of its own -/
theorem pmk_own0 {bmB : List Value} {B newId initId : String} {cn : Str} {C : Addr} {p pos : Pos} (F : ExcBaseFacts B newId initId bmB) (q : PySem.W.excIn X.K C bmB newId = true) (gC : X.mg cn = some (.ref C)) (kC : PySem.W.keepIn X.K (.ref C) = true) (r : Raises X (.ref C)) (hg : Gl X cn)
    (hdb : (cn == ("__debug__" : Str)) = false) : PMk X (.Call (.Name cn p) [] [] pos) (fun _ H Q => Q (.ref C) none H) := by
  intro pins s σ H Q I h
  refine wpAny_Call_Name_kw (ld_glob I hg gC ?_ hdb)
  refine PySem.W.callWith_K0 I.kIn kC ?_
  show wpAny _ _ (call (.ref C) []) _ _ _
  obtain ⟨bm, N, nm, qn, bs, hdct, sn, sub, ab, col, dd, k0, k1, k2, k3, k5, mN, hC, hN, hni, T⟩ := exc_obj I.kIn q
  obtain ⟨hp, g, d, t, os⟩ := s
  exact wpAny_call_exc_subT F T hC hN hni (fun h' e hm => mk_of I hm r h (I.hok.gone hm.new)) (Nat.zero_le _)
theorem pe_mkE0 {bmB : List Value} {B newId initId : String} {cn : Str} {cl : Nat} {C : Addr} {p pos : Pos} (F : ExcBaseFacts B newId initId bmB) (q : PySem.W.excIn X.K C bmB newId = true) (gC : X.mg cn = some (.ref C)) (kC : PySem.W.keepIn X.K (.ref C) = true) (r : Raises X (.ref C)) (hg : Gl X cn)
    (hdb : (cn == ("__debug__" : Str)) = false) (hc : ClsAt X.K cl C) : PE X (.Call (.Name cn p) [] [] pos) (TV X.K fun ρ μ => (evs c kw [] ρ μ).bind fun xs μ => xopD (.mk cl) xs μ) := by
  refine ⟨fun pins s σ H Q I h0 => ?_⟩
  obtain ⟨ι, ρ, μ, r0, μ', he, hs, hf, ha⟩ := h0
  simp only [evs, Res.bind, xopD] at hf
  cases hf
  refine thn (pmk_own0 (p := p) (pos := pos) F q gC kC r hg hdb pins s σ H (fun cls dd H' => cls = .ref C ∧ dd = none ∧ H' = H) I ⟨rfl, rfl, rfl⟩) fun u s' hm => ?_
  refine mk_value hm fun cls dd H' a na hq => ?_
  obtain ⟨rfl, rfl, rfl⟩ := hq
  exact ha ι _ _ (Grow.fresh na) (hs.fresh na) (.exo hc ⟨hs.not_mem na, hs.not_hid na, upd_same⟩)
/-- e.f -/
theorem pe_fldE {f : Str} {e : Expr} {y : E} {pos : Pos} (he : PE X e (TV X.K (ev c kw y))) (hb : attributeBase e f X.env (eval e X.env) = eval e X.env)
    (hE : ∀ cl C, ClsAt X.K cl C → cl < 17 → ExcC X.K C ∧ PySem.W.findIn X.K (.ref C) (errF cl) = some none) :
    PE X (.Attribute e f pos) (TV X.K fun ρ μ => (ev c kw y ρ μ).bind fun d μ => xopD (.fld f) [d] μ) := by
  have rule : PE X (.Attribute e f pos) (fun σ H Q => TV X.K (ev c kw y) σ H fun x H1 => ∃ (D : Addr) (a dd : Addr) (fs : List (Str × V)) (v : V), ExcC X.K D ∧ PySem.W.findIn X.K (.ref D) f = some none ∧ x = .ref a ∧ H1 a = some (ExH (.ref D) (some dd) a) ∧ H1 dd = some (.xd fs) ∧ fs.lookup f = some v ∧ Q v H1) := by
    refine ⟨fun pins s σ H Q I h => ?_⟩
    refine attr_of hb (thn (he.run pins s σ H _ I h) fun u s1 hh => ?_)
    obtain ⟨x, H1, I1, rx, D, a, dd, fs, v, C, hno, ex, ea, ed, l, q⟩ := hh
    subst ex
    obtain rfl : u = Value.ref a := rx
    obtain ⟨oe, od, mA, J, hl, hr⟩ := inst_of I1.hok ea ed
    obtain ⟨u, hu, ru⟩ := RelO.some_of (v := v) (o := mA f) (by rw [← l]; exact hr f)
    exact HandSPX.exc_get I1.kIn J C.hg C.hk C.hs (PySem.W.findObj_own C.hd hno rfl (by rw [hl, hu])) (handed_of ru) ⟨v, H1, I1.tok _, ru, q⟩
  refine peImp rule fun σ H Q h => ?_
  refine TV.one (f := ev c kw y) h fun ι H μ d r μ' u S rx hk hq => ?_
  cases d with
  | exo cl l =>
    match l, hk, rx with
    | [], hk, _ => cases hk
    | _ :: _ :: _, hk, _ => cases hk
    | [z], hk, rx =>
      simp only [xopD] at hk
      split at hk
      · rename_i hf
        cases hk
        obtain ⟨h17, hf⟩ := hf
        cases rx with
        | exo1 hc hR hd rz =>
          obtain ⟨hC, hno⟩ := hE _ _ hc h17
          rw [hf] at hno
          refine ⟨_, _, _, _, _, hC, hno, rfl, hR.2.2, hd, ?_, hq ι H _ Grow.refl S rz⟩
          rw [hf]
          simp [List.lookup]
      · cases hk
  | _ => cases hk
end
/-! by keyword -/
section
variable {M : Model} {A : Around} {Z : Value → Shared → Prop} {s : Shared}
variable {nm q : Str} {C N : Addr} {bs bm bB : List Value} {hdct : Bool} {sn : List Str} {sub : List Value} {ab : Bool} {col : Option Bool} {dd : Option Addr} {k0 k1 k2 k3 k5 : Option Value} {B ni ii : String}
theorem kwChk (F : ExcBaseFacts B ni ii bB) (e : ∀ Y : String, bm.contains (.type Y) = bB.contains (.type Y)) {xs : List Value} {kws : List (Str × Value)} {Q : Unit → Shared → Prop}
    (hC : s.heap.get? C = some (excClassObj nm q C N bs bm hdct sn sub ab col dd k0 k1 k2 k3 k5 ni)) (z : Q () s) : wpAny M A (checkBuiltinCall ni ⟨.ref C :: xs, kws⟩) Q Z s := by
  obtain ⟨h, g, d, t, os⟩ := s
  have m : (Value.ref C :: bm).contains (.type B) = true := by simp only [List.contains_cons, e, F.hasB, Bool.or_true]
  have f := F.noStar
  simp only [checkBuiltinCall, F.newKind, F.newSplit, F.newRow]
  repeat (first | (refine wpAny_isSubtype_exc hC ?_; rw [m]) | refine wpAny_staticBase_exc hC ?_ | refine wpAny_loadPart_at hC ?_ | refine wpAny_madeBy_exc hC ?_ | simp only [bne_self_eq_false, Bool.false_eq_true, if_false] | wp_step)
  exact z
/-- the call of type's __call__ itself is let through, whatever the keywords -/
theorem kwTyp {xs : List Value} {kws : List (Str × Value)} {Q : Unit → Shared → Prop}
    (hC : s.heap.get? C = some (excClassObj nm q C N bs bm hdct sn sub ab col dd k0 k1 k2 k3 k5 ni)) (z : Q () s) : wpAny M A (checkBuiltinCall "type.__call__" ⟨.ref C :: xs, kws⟩) Q Z s := by
  obtain ⟨h, g, d, t, os⟩ := s
  have fs := tc_sub
  have ty : (⟨h, g, d, t, os⟩ : Shared).TypeIs (.ref C) "type" := ⟨_, hC, rfl⟩
  simp only [checkBuiltinCall, tc_kind, tc_split]
  repeat (any_goals (first | assumption | with_reducible refine wpAny_map ?_ | with_reducible refine wpAny_onRaise ?_ | with_reducible refine wpAny_loadPart_at hC ?_ | wp_step))
end
section
variable {prog : Program} {w : World} {A : Around} {Z : Value → Shared → Prop} {R : Result → Shared → Prop} {s : Shared}
variable {nm q : Str} {C N : Addr} {bs bm bB : List Value} {hdct : Bool} {sn : List Str} {sub : List Value} {ab : Bool} {col : Option Bool} {dd : Option Addr} {k0 k1 k2 k3 k5 : Option Value} {B ni ii : String}
/-- the heap behind C(*xs, **kws), before its __init__ -/
abbrev kwBorn (h : Heap) (C : Addr) (xs : List Value) : Heap := (h.push (W.kdv_tup xs)).push (HandSPX.excO C h.objs.size)
theorem kwNew (F : ExcBaseFacts B ni ii bB) (e : ∀ Y : String, bm.contains (.type Y) = bB.contains (.type Y)) {xs : List Value} {kws : List (Str × Value)} (lx : xs.length ≤ sizeLine)
    (hC : s.heap.get? C = some (excClassObj nm q C N bs bm hdct sn sub ab col dd k0 k1 k2 k3 k5 ni)) (z : R (.ok (.ret (.ref (s.heap.objs.size + 1)))) { s with heap := kwBorn s.heap C xs }) :
    codeAny (model prog w) A (.builtin ni ⟨.ref C :: xs, kws⟩) R s := by
  obtain ⟨h, g, d, t, os⟩ := s
  have sees : ∀ Y : String, (Value.ref C :: bm).contains (.type Y) = bB.contains (.type Y) := fun Y => by rw [List.contains_cons, e]; rfl
  have mB := (sees B).trans F.hasB
  have mA := (sees "AttributeError").trans F.noAttr
  have mN := (sees "NameError").trans F.noName
  have fe := F.ends
  refine codeAny_builtinAt F.entry (wpAt_bind ?_)
  show wpAt _ _ _ (stack >>= _) _ _ _
  refine wpAt_bind (wpAt_stack fun a b => wpAt_of_wpAny ?_)
  wp_walk
  refine wpAt_of_wpAny ?_
  rw [F.owner]
  repeat (first | with_reducible refine wpAny_loadPart_at hC ?_ | with_reducible refine wpAny_madeHere_exc F.canon hC ?_ | (with_reducible refine wpAny_isSubtype_exc hC ?_; rw [mB]) | (with_reducible refine wpAny_isSubtype_exc hC ?_; rw [mA]) | (with_reducible refine wpAny_isSubtype_exc hC ?_; rw [mN]) | wp_step)
  show R _ _
  rw [Heap.size_push]
  exact z
theorem kwMake (F : ExcBaseFacts B ni ii bB) (e : ∀ Y : String, bm.contains (.type Y) = bB.contains (.type Y)) {xs : List Value} {kws : List (Str × Value)} {fI : Addr} {Q : Fin → Shared → Prop} (lx : xs.length ≤ sizeLine)
    (hC : s.heap.get? C = some (excClassObj nm q C N bs bm hdct sn sub ab col dd k0 k1 k2 k3 k5 ni))
    (li : W.Looks (model prog w) s.heap (typeLookup (.ref C) "__init__") (some (.ref fI))) (lb : ∀ self, W.Looks (model prog w) s.heap (bindSpecial (.ref fI) self) (.ref fI, [self]))
    (z : codeAny (model prog w) A (.call (.ref fI) ⟨.ref (s.heap.objs.size + 1) :: xs, kws⟩)
      (fun r s' => match r with | .ok (.ret v) => v = .none ∧ Q (.done (.ret (.ref (s.heap.objs.size + 1)))) s' | .ok _ => False | .error x => Z x s') { s with heap := kwBorn s.heap C xs }) :
    wpAny (model prog w) A (Builtin.«type.__call__» ⟨.ref C :: xs, kws⟩) Q Z s := by
  obtain ⟨h, g, d, t, os⟩ := s
  repeat (first | with_reducible refine wpAny_madeBy_exc hC ?_ | with_reducible refine wpAny_loadPart_at hC ?_ | wp_step)
  refine codeAny_call_builtin_code (Code.quiet_builtin _ F.quiet) (kwChk F e hC (kwNew F e lx hC ?_))
  show wpAny _ _ _ _ _ _
  have up : ∀ b o, h.get? b = some o → (kwBorn h C xs).get? b = some o := fun b o x => Heap.get?_push_of_some _ (Heap.get?_push_of_some _ x)
  have hC' := up _ _ hC
  have hx : (kwBorn h C xs).get? (h.objs.size + 1) = some (HandSPX.excO C h.objs.size) := by heap_get
  have own : (Value.ref C :: bm).contains (.ref C) = true := by simp
  have li' := li.keeps up
  have lb' := (lb (.ref (h.objs.size + 1))).keeps up
  unfold isInstance
  repeat (first | with_reducible refine wpAny_loadPart_at hx ?_ | (with_reducible refine wpAny_isSubtype_exc hC' ?_; rw [own]) | wp_step)
  show wpAny _ _ (typeLookup (.ref C) _) _ _ _
  refine li'.at (wpAny_holding (wpAny_bind (lb'.at (wpAny_bind (wpAny_call (codeAny_mono z fun r s' y => ?_))))))
  rcases r with er | (v | _ | _ | _) <;> first | exact y | exact y.elim | skip
  obtain ⟨rfl, y⟩ := y
  first | exact wpAny_pure (wpAny_pure y) | (wp_walk; exact y)
theorem kwCall (F : ExcBaseFacts B ni ii bB) (e : ∀ Y : String, bm.contains (.type Y) = bB.contains (.type Y)) {xs : List Value} {kws : List (Str × Value)} {fI : Addr} (lx : xs.length ≤ sizeLine)
    (hC : s.heap.get? C = some (excClassObj nm q C N bs bm hdct sn sub ab col dd k0 k1 k2 k3 k5 ni))
    (li : W.Looks (model prog w) s.heap (typeLookup (.ref C) "__init__") (some (.ref fI))) (lb : ∀ self, W.Looks (model prog w) s.heap (bindSpecial (.ref fI) self) (.ref fI, [self]))
    (z : codeAny (model prog w) (A.under (.builtin "type.__call__" ⟨.ref C :: xs, kws⟩)) (.call (.ref fI) ⟨.ref (s.heap.objs.size + 1) :: xs, kws⟩) (W.InitBack (s.heap.objs.size + 1) R) { s with heap := kwBorn s.heap C xs }) :
    codeAny (model prog w) A (.call (.ref C) ⟨xs, kws⟩) R s := by
  have fl := tc_lookup
  have fb := tc_bind (.ref C)
  obtain ⟨h, g, d, t, os⟩ := s
  have ty : (⟨h, g, d, t, os⟩ : Shared).TypeIs (.ref C) "type" := ⟨_, hC, rfl⟩
  refine codeAny_of_tree ?_
  show wpAny _ _ (callAny (.ref C) _) _ _ _
  repeat (any_goals (first | assumption | with_reducible refine wpAny_loadPart_at hC ?_ | wp_step))
  refine ⟨rfl, codeAny_call_builtin_at (Code.quiet_builtin _ (by decide +kernel)) entry_typeCall (kwTyp hC (kwMake F e lx hC li lb (codeAny_mono z fun r s' y => ?_)))⟩
  rcases r with er | (v | _ | _ | _) <;> exact y
end
section
variable {X : Cx} {G : Cfg} {N : List Str} {c : Call} {kw : Kwp} {k : Nat}
theorem pmkE_kw {cn fld : Str} {C fI : Addr} {fd : FuncData} {a : Expr} {y : E} {p kp pos : Pos} (hX : XOk G N c kw k X) (Er : ErrOk X.K X.mg cn fld C fI fd) (hkw : KwField X.K fd fld) (hg : Gl X cn) (h : PE X a (TV X.K (ev c kw y))) :
    PMk X (.Call (.Name cn p) [] [⟨some fld, a, kp⟩] pos) (fun σ H Q => ∃ ι ρ μ d μ', EnvOk X.K H ι ρ σ ∧ StOk X.K H ι μ ∧ ev c kw y ρ μ = .ok d μ' ∧
      ∀ ι' H' v dx, Grow X.K ι H ι' H' → StOk X.K H' ι' μ' → Rel X.K H' ι' d v → H' dx = some (.xd [(fld, v)]) → Q (.ref C) (some dx) H') := by
  intro pins s σ H Q I h0
  obtain ⟨ι, ρ, μ, d, μ', he, hs, hf, ha⟩ := h0
  obtain ⟨nm, q, N, bs, bm, sn, sub, ab, col, dd, k0, k1, k2, k3, k5, hC, hbm⟩ := Er.T.cls
  have one : PK X [⟨some fld, a, kp⟩] (tCons (TV X.K (ev c kw y)) tNil) := pk_cons h pk_nil
  refine wpAny_Call_Name_kw (ld_glob I hg Er.mC ?_ Er.dbg)
  refine PySem.W.callWith_KW0 (h₀ := X.base) I.ok.mod.kin Er.T.kC rfl (thn (one.run pos pins s σ H (fun xs H1 => ∃ ι1 v, xs = [v] ∧ Grow X.K ι H ι1 H1 ∧ StOk X.K H1 ι1 μ' ∧ Rel X.K H1 ι1 d v) I ?_) fun us s1 hu => ?_) rfl
  · exact ⟨ι, ρ, μ, d, μ', he, hs, hf, fun ι1 H1 v g1 s1 r1 => ⟨ι1, v, rfl, g1, s1, r1⟩⟩
  · obtain ⟨vs, H1, I1, r1, ι1, v, rfl, g1, st1, rv⟩ := hu
    refine ⟨I1.kIn, ?_⟩
    cases r1 with
    | cons r0 rn =>
    cases rn
    rename_i u
    show wpAny _ _ (call (.ref C) [] [(fld, u)]) _ _ _
    obtain ⟨hp, g, dr, tk, os⟩ := s1
    have sz : hp.objs.size ≤ hp.objs.size + 1 := Nat.le_succ _
    have up : ∀ b o, hp.get? b = some o → (kwBorn hp C []).get? b = some o := fun b o x => Heap.get?_push_of_some _ (Heap.get?_push_of_some _ x)
    have nw : H1 (hp.objs.size + 1) = none := I1.hok.fresh sz
    have hx : (kwBorn hp C []).get? (hp.objs.size + 1) = some (PySem.HandSPX.excO C hp.objs.size) := by heap_get
    have I2 : Inv X pins σ (upd H1 (hp.objs.size + 1) (exo (hp.objs.size + 1) C none)) ⟨kwBorn hp C [], g, dr, tk, os⟩ :=
      I1.laid (t' := tk) (a := hp.objs.size + 1) (o := exo (hp.objs.size + 1) C none) (h' := kwBorn hp C []) up sz (exo_ok hx)
    have rr : Vals [V.ref (hp.objs.size + 1), v] [Value.ref (hp.objs.size + 1), u] := .cons rfl (.cons r0 .nil)
    let post : VK := fun v2 H2 => v2 = .non ∧ ∃ (b : Addr) (fs : List (Str × V)), H2 (hp.objs.size + 1) = some (exo (hp.objs.size + 1) C (some b)) ∧ H2 b = some (exd b fs) ∧ H1 b = none ∧ Q (.ref C) (some b) (upd (L2.del H2 (hp.objs.size + 1)) b (.xd fs))
    have sp : spInit C fld [V.ref (hp.objs.size + 1), v] (upd H1 (hp.objs.size + 1) (exo (hp.objs.size + 1) C none)) post (fun _ _ _ => False) := by
      refine ⟨_, v, rfl, upd_same, fun dx n ne => ?_⟩
      have n1 : H1 dx = none := by rw [upd_ne ne] at n; exact n
      refine ⟨rfl, dx, [(fld, v)], upd_same, by rw [upd_ne ne, upd_same], n1, ?_⟩
      have e : upd (L2.del (upd (upd (upd H1 (hp.objs.size + 1) (exo (hp.objs.size + 1) C none)) dx (exd dx [(fld, v)])) (hp.objs.size + 1) (exo (hp.objs.size + 1) C (some dx))) (hp.objs.size + 1)) dx (.xd [(fld, v)]) = upd H1 dx (.xd [(fld, v)]) := by
        funext b
        by_cases hb : b = dx
        · subst hb; rw [upd_same, upd_same]
        · rw [upd_ne hb, upd_ne hb]
          by_cases hba : b = hp.objs.size + 1
          · subst hba; rw [L2.del_same, nw]
          · rw [L2.del_ne hba, upd_ne hba, upd_ne hb, upd_ne hba]
      rw [e]
      exact ha ι1 _ v dx (g1.trans (Grow.fresh n1)) (st1.fresh n1) (rv.grow (Grow.fresh n1)) upd_same
    have run := (Er.init X.prog X.w X.base).run (X.A.under (.builtin "type.__call__" ⟨[Value.ref C], [(fld, u)]⟩)) X.stack ⟨kwBorn hp C [], g, dr, tk, os⟩ _ ⟨[Value.ref (hp.objs.size + 1)], [(fld, u)]⟩ [Value.ref (hp.objs.size + 1), u] _ post (fun _ _ _ => False)
      ((hX.room.mono hX.lev).make C [] [(fld, u)]) (I2.env0.make C [] [(fld, u)]) (hkw _ _ u I2.kIn) rr sp
    refine wpAny_call (kwCall F.excBase_ValueError (fun Y => PySem.HandSPX.refsVE_contains Y bm hbm) (Nat.zero_le _) (I1.kIn _ _ hC) (PySem.W.looks_findIn I1.kIn Er.iC) (fun self => PySem.W.bind_fn I1.kIn self Er.tI)
      (codeAny_mono run fun r s' hq' => ?_))
    cases r with
    | error er => exact pass0 pins σ _ _ er s' I2 hq'
    | ok fl =>
      cases fl with
      | ret z =>
        obtain ⟨v2, H2, os2, bare2, un2, hok2, rv2, ev2, b, fs, ea, eb, hb1, q2⟩ := hq'
        subst ev2
        exact ⟨rv2, mk_end (raises_own Er.T.exC Er.T.tyC) I1 sz up un2 hok2 os2 bare2 ea eb hb1 q2⟩
      | next => exact hq'.elim
      | brk => exact hq'.elim
      | cont => exact hq'.elim
/-- the same as a value that is tracked -/
theorem pe_mkE_kw {cn : Str} {cl : Nat} {C fI : Addr} {fd : FuncData} {a : Expr} {y : E} {p kp pos : Pos} (hX : XOk G N c kw k X) (Er : ErrOk X.K X.mg cn (errF cl) C fI fd) (hkw : KwField X.K fd (errF cl)) (hc : ClsAt X.K cl C) (hg : Gl X cn) (h : PE X a (TV X.K (ev c kw y))) :
    PE X (.Call (.Name cn p) [] [⟨some (errF cl), a, kp⟩] pos) (TV X.K fun ρ μ => (evs c kw [y] ρ μ).bind fun xs μ => xopD (.mk cl) xs μ) := by
  refine ⟨fun pins s σ H Q I h0 => ?_⟩
  obtain ⟨ι, ρ, μ, r, μ', he, hs, hf, ha⟩ := h0
  obtain ⟨xs, μ1, h1, h2⟩ := Res.bind_ok hf
  simp only [evs] at h1
  obtain ⟨d, μ2, h3, h4⟩ := Res.bind_ok h1
  cases h4
  cases h2
  refine thn (pmkE_kw (p := p) (kp := kp) (pos := pos) hX Er hkw hg h pins s σ H (fun cls dd H' => ∃ ι' v dx, cls = .ref C ∧ dd = some dx ∧ Grow X.K ι H ι' H' ∧ StOk X.K H' ι' μ' ∧ Rel X.K H' ι' d v ∧ H' dx = some (.xd [(errF cl, v)])) I ⟨ι, ρ, μ, d, μ', he, hs, h3, fun ι' H' v dx g s r z => ⟨ι', v, dx, rfl, rfl, g, s, r, z⟩⟩) fun u s' hm => ?_
  refine mk_value hm fun cls dd H' a na hq => ?_
  obtain ⟨ι', v, dx, rfl, rfl, g, s, r, z⟩ := hq
  have hda : dx ≠ a := fun e => by rw [e, na] at z; cases z
  have g2 : Grow X.K ι' H' ι' (upd H' a (ExH (.ref C) (some dx) a)) := Grow.fresh na
  exact ha ι' _ _ (g.trans g2) (s.fresh na) (.exo1 hc ⟨s.not_mem na, s.not_hid na, upd_same⟩ (by rw [upd_ne hda]; exact z) (r.grow g2))
end
/-! ### isinstance of an error, with a field or without -/
/-- what isinstance asks: the error's class, whether it has a dict or not -/
def rIsA (K : PySem.W.Frag) (D : Addr) : List V → Hp → VK → Prop := fun xs H Q => ∃ (a : Addr) (dd : Option Addr) (c : V) (cv : Value) (b : Bool), xs = [.ref a, c] ∧ H a = some (ExH (.ref D) dd a) ∧ (∀ b2, dd = some b2 → ∃ fs, H b2 = some (.xd fs)) ∧ (∀ u, RelV c u → u = cv) ∧ PySem.W.kitOne K (.ref D) cv = some b ∧ Q (.bl b) H
theorem call_isA {X : Cx} {D : Addr} (C : ExcC X.K D) : CallR X (.builtin "isinstance") (rIsA X.K D) := by
  intro pins s σ H xs us Q I r h
  obtain ⟨a, dd, c, cv, b, rfl, ea, ed, hcv, e, q⟩ := h
  cases dd with
  | some d2 =>
    obtain ⟨fs, ed⟩ := ed d2 rfl
    exact call_isH C pins s σ H _ us Q I r ⟨a, d2, fs, c, cv, b, rfl, ea, ed, hcv, e, q⟩
  | none =>
    cases r with
    | cons rx rr =>
    cases rr with
    | cons rt rr =>
    cases rr
    cases rx
    obtain rfl := hcv _ rt
    obtain ⟨oe, vs, hget, hz, hd⟩ := exH_at I.hok ea
    have J : PySem.W.InstAt s.heap a oe D none := ⟨hget, hz.1, by unfold PySem.W.notCls; rw [hd] <;> rfl, by rw [hz.2]; trivial⟩
    exact PySem.W.kia_one (PySem.W.handS_kitx_excH C.hg C.hk C.hs C.hd C.ha C.hn C.ht C.hm) I.kIn J e (fun z => nomatch z) fun tk => ⟨.bl b, H, I.kept (t' := tk) fun _ _ z => z, rfl, q⟩
section
variable {X : Cx} {G : Cfg} {N : List Str} {c : Call} {kw : Kwp} {k : Nat}
theorem pe_isxA {x : Str} {c2 : Nat} {V0 : V} {u0 : Value} {e : Expr} {y : E} {p q pos : Pos} (hX : XOk G N c kw k X) (hg : Gl X "isinstance") (hst : isStar e = false) (he : PE X e (TV X.K (ev c kw y))) (hx : PE X (.Name x q) (tC V0)) (hr : ∀ u, RelV V0 u → u = u0)
    (hE : ∀ cl C, ClsAt X.K cl C → cl < 21 → ExcC X.K C ∧ PySem.W.kitOne X.K (.ref C) u0 = some (subX cl c2)) :
    PE X (.Call (.Name "isinstance" p) [e, .Name x q] [] pos) (TV X.K fun ρ μ => (ev c kw y ρ μ).bind fun d μ => xopD (.isx c2) [d] μ) := by
  have s2 : starEach [Expr.Name x q] X.env = (false, eval (.Name x q) X.env) :: starEach [] X.env := rfl
  have call : CallR X (.builtin "isinstance") (fun xs H Q => ∃ C, ExcC X.K C ∧ rIsA X.K C xs H Q) := fun pins s σ H xs us Q I r h => by
    obtain ⟨C, hC, h⟩ := h
    exact call_isA hC pins s σ H xs us Q I r h
  refine peImp (pe_callB call hg (hX.blt _ (by decide +kernel)) (by decide +kernel) (pa_cons he (pa_cons hx pa_nil s2) (star1 hst)) (by decide) (by decide) (star1 hst) (by rw [s2]; rfl)) fun σ H Q h => ?_
  refine TV.one (f := ev c kw y) h fun ι H μ d r μ' u S rx hk hq => ?_
  cases d with
  | exo cl l =>
    have hk' : (if cl < 21 then Res.ok (D.bl (subX cl c2)) μ else .bad) = .ok r μ' := hk
    split at hk'
    · rename_i hlt
      cases hk'
      cases rx with
      | exo1 hc hR hd rz =>
        obtain ⟨hC, hK⟩ := hE _ _ hc hlt
        exact ⟨_, hC, _, _, V0, u0, _, rfl, hR.2.2, (fun b2 e2 => by cases e2; exact ⟨_, hd⟩), hr, hK, hq ι H _ Grow.refl S (.bl _)⟩
      | exo hc hR =>
        obtain ⟨hC, hK⟩ := hE _ _ hc hlt
        exact ⟨_, hC, _, _, V0, u0, _, rfl, hR.2.2, (fun b2 e2 => nomatch e2), hr, hK, hq ι H _ Grow.refl S (.bl _)⟩
    · cases hk'
  | _ => cases hk
end
/-! ### cErr -/
theorem cErr_xop {G : Cfg} {r : Expr → Option E} {sc : Scope} {f : Expr} {args : List Expr} {kws : List Keyword} {e' : E} (h : cErr G r sc f args kws = some e') : ∃ o es, e' = .xop o es := by
  unfold cErr at h
  split at h
  · split at h
    · cases h
    · split at h
      · split at h
        · cases h; exact ⟨_, _, rfl⟩
        · cases h
      · cases h
  · split at h
    · cases h
    · split at h
      · split at h
        · obtain ⟨_, _, rfl⟩ := map_some' h; exact ⟨_, _, rfl⟩
        · cases h
      · cases h
  · split at h
    · cases h
    · split at h
      · split at h
        · obtain ⟨_, _, rfl⟩ := map_some' h; exact ⟨_, _, rfl⟩
        · cases h
      · cases h
  · split at h
    · split at h
      · cases h
      · split at h
        · obtain ⟨_, _, rfl⟩ := map_some' h; exact ⟨_, _, rfl⟩
        · cases h
    · cases h
  · cases h
section
variable {X : Cx} {G : Cfg} {N : List Str} {c : Call} {kw : Kwp} {k : Nat}
theorem fid_ne {x : Str} {l : List (Str × Nat)} {i : Nat} (h : fidOf x l = some i) : l ≠ [] := fun z => by rw [z] at h; cases h
theorem err_ok {r : Expr → Option E} {sc : Scope} {f : Expr} {args : List Expr} {kws : List Keyword} {pos : Pos} {e' : E} (hX : XOk G N c kw k X) (hs : X.env.scope = sc)
    (hr : ∀ e e', r e = some e' → PE X e (TV X.K (ev c kw e'))) (h : cErr G r sc f args kws = some e') : PE X (.Call f args kws pos) (TV X.K (ev c kw e')) := by
  have E := hX.exc
  unfold cErr at h
  split at h
  · rename_i x p
    split at h
    · cases h
    · rename_i hc
      rw [Bool.or_eq_true, not_or] at hc
      have ho : oddName x = false := by simpa using hc.1
      have hg : Gl X x := glo_ok (by simpa using hc.2) hs
      split at h
      · rename_i cl hcl
        split at h
        · rename_i hl
          cases h
          obtain ⟨C, e0, ha⟩ := E.non x cl hcl hl.1 hl.2
          refine peImp (pe_mkE0 (c := c) (kw := kw) (p := p) (pos := pos) PySem.F.excBase_ValueError e0.q e0.mC e0.kC (raises_own e0.exC e0.tyC) hg (oddName_ok ho).1 ha) fun σ H Q w => ?_
          simp only [ev] at w
          exact w
        · cases h
      · cases h
  · rename_i x p a
    split at h
    · cases h
    · rename_i hc
      rw [Bool.or_eq_true, Bool.or_eq_true, not_or, not_or] at hc
      have hg : Gl X x := glo_ok (by simpa using hc.1.2) hs
      split at h
      · rename_i cl hcl
        split at h
        · rename_i hl
          obtain ⟨y, hy, rfl⟩ := map_some' h
          obtain ⟨C, fI, fd, e0, _, ha⟩ := E.one x cl hcl hl
          refine peImp (pe_mkE (p := p) (pos := pos) hX e0 ha hg (by simpa using hc.2) (hr _ _ hy)) fun σ H Q w => ?_
          simp only [ev] at w
          exact w
        · cases h
      · cases h
  · rename_i x p f a kp
    split at h
    · cases h
    · rename_i hc
      rw [Bool.or_eq_true, not_or] at hc
      have hg : Gl X x := glo_ok (by simpa using hc.2) hs
      split at h
      · rename_i cl hcl
        split at h
        · rename_i hl
          obtain ⟨y, hy, rfl⟩ := map_some' h
          obtain ⟨C, fI, fd, e0, hk, ha⟩ := E.one x cl hcl hl.1
          obtain ⟨_, rfl⟩ := hl
          refine peImp (pe_mkE_kw (p := p) (kp := kp) (pos := pos) hX e0 hk ha hg (hr _ _ hy)) fun σ H Q w => ?_
          simp only [ev] at w
          exact w
        · cases h
      · cases h
  · rename_i x p e t q
    split at h
    · rename_i hx
      subst hx
      split at h
      · cases h
      · rename_i hc
        simp only [Bool.or_eq_true, not_or] at hc
        obtain ⟨⟨⟨⟨c1, c2⟩, c3⟩, c4⟩, _⟩ := hc
        have ho : oddName t = false := by simpa using c1
        have hg : Gl X "isinstance" := glo_ok (by simpa using c2) hs
        have hgt : Gl X t := glo_ok (by simpa using c4) hs
        have hst : isStar e = false := by simpa using c3
        split at h
        · rename_i c2 hc2
          obtain ⟨y, hy, rfl⟩ := map_some' h
          have fin : ∀ {V0 : V} {u0 : Value}, PE X (.Name t q) (tC V0) → (∀ u, RelV V0 u → u = u0) → (∀ cl C, ClsAt X.K cl C → cl < 21 → ExcC X.K C ∧ PySem.W.kitOne X.K (.ref C) u0 = some (subX cl c2)) →
              PE X (.Call (.Name "isinstance" p) [e, .Name t q] [] pos) (TV X.K (ev c kw (.xop (.isx c2) [y]))) := fun hx hr2 hE => by
            refine peImp (pe_isxA (p := p) (pos := pos) hX hg hst (hr _ _ hy) hx hr2 hE) fun σ H Q w => ?_
            obtain ⟨ι, ρ, μ, d, μ', he, S, hf, ha⟩ := w
            refine ⟨ι, ρ, μ, d, μ', he, S, ?_, ha⟩
            simp only [ev, evs] at hf
            obtain ⟨xs, μ1, k1, k2⟩ := Res.bind_ok hf
            obtain ⟨z, μ2, k3, k4⟩ := Res.bind_ok k1
            cases k4
            show (ev c kw y ρ μ).bind (fun d μ => xopD (.isx c2) [d] μ) = _
            rw [k3]
            exact k2
          unfold exIx at hc2
          split at hc2
          · rename_i ht
            subst ht
            split at hc2
            · cases hc2
            · rename_i hne
              cases hc2
              have hne : G.exs ≠ [] := fun z => hne (by rw [z]; rfl)
              obtain ⟨mV, hV⟩ := E.val hne
              exact fin (pe_bltn (v := .ty "ValueError") (x := "ValueError") (pos := q) hgt mV (by decide +kernel) rfl) (fun u h => h) fun cl C h hl => ⟨(E.cls hne cl C h hl).1, by rw [hV cl C h hl]; simp [subX]⟩
          · obtain ⟨c0, k1, k2⟩ := Option.bind_eq_some_iff.mp hc2
            split at k2
            · rename_i hl
              cases k2
              obtain ⟨C2, m2, h2⟩ := E.isx t _ k1 hl
              exact fin (pe_glob (v := .ref C2) (pos := q) hgt m2 rfl (oddName_ok ho).1) (fun u h => h) fun cl C h hl => ⟨(E.cls (fid_ne k1) cl C h hl).1, h2 cl C h hl⟩
            · cases k2
        · cases h
    · cases h
  · cases h
theorem fld_ok {f : Str} {o : Expr} {y : E} {pos : Pos} (hX : XOk G N c kw k X) (hne : G.exs ≠ []) (hc : isCallE o = false) (h : PE X o (TV X.K (ev c kw y))) : PE X (.Attribute o f pos) (TV X.K (ev c kw (.xop (.fld f) [y]))) := by
  refine peImp (pe_fldE (pos := pos) h (base_attr hc) fun cl C h hl => ⟨(hX.exc.cls hne cl C h (by omega)).1, (hX.exc.cls hne cl C h (by omega)).2 hl⟩) fun σ H Q w => ?_
  obtain ⟨ι, ρ, μ, d, μ', he, S, hf, ha⟩ := w
  refine ⟨ι, ρ, μ, d, μ', he, S, ?_, ha⟩
  simp only [ev, evs] at hf
  obtain ⟨xs, μ1, k1, k2⟩ := Res.bind_ok hf
  obtain ⟨z, μ2, k3, k4⟩ := Res.bind_ok k1
  cases k4
  show (ev c kw y ρ μ).bind (fun d μ => xopD (.fld f) [d] μ) = _
  rw [k3]
  exact k2
end
end Ev

namespace Ev
open PySem PySem.Spec L2

theorem notStar {es : List Expr} (h : ¬ (es.any isStar = true)) : es.any isStar = false := by simpa using h
/-- a comprehension, from its parts -/
theorem lc_ok {X : Cx} {G : Cfg} {N : List Str} {c : Call} {kw : Kwp} {k : Nat} {sc scope : Scope} {own : List (Str × Nat)} {tg iter elt : Expr} {ifs : List Expr} {t : Tg} {it : It} {test eltf : Loc → Sto → Res D} {f : Expr → Option E}
    (hX : XOk G N c kw k X) (hs : X.env.scope = sc) (hf : ∀ e e', f e = some e' → PE X e (TV X.K (ev c kw e'))) (ho : ownOf N scope.names = some own) (hb : blkC N sc scope own = true) (ht : cT N scope tg = some t) (hi : cIter G sc f (isTupE tg) iter = some it)
    (he : ∀ Y : Cx, XOk G N c kw k Y → Y.K = X.K → Y.env.scope = relS scope sc → PE Y elt (TV X.K eltf)) (hc : ∀ Y : Cx, XOk G N c kw k Y → Y.K = X.K → Y.env.scope = relS scope sc → PTs Y ifs (TB X.K test)) :
    LcOk X N scope own tg iter ifs elt t (evIt c kw it) test eltf := by
  have hI := cIter_ok (tg := tg) hX hs hf hi
  subst hs
  refine ⟨hX.calm, by rw [hX.eN]; exact hX.nd, by rw [hX.eN]; exact blkOk_by hb, hI.1, fun s H C cl fp => ?_, fun s H C cl fp => hc _ (hX.blk _ _ _ _ _) rfl rfl, fun s H C cl fp => he _ (hX.blk _ _ _ _ _) rfl rfl, fold_set hI.2, ixs_in ho ht⟩
  have hB := hX.blk s H scope (compEnvC scope cl C X.env) fp
  refine pg_ev (sc := scope) hB.calm hB.eN hB.nd (fun x i h => ?_) ht
  obtain ⟨h1, _⟩ := nameIx_kind h
  rcases h1 with h1 | h1
  · have := lookup_relS_keep (sc := X.env.scope) (k := .local) (by decide) h1
    exact ⟨.inl this, .inr this⟩
  · have := lookup_relS_keep (sc := X.env.scope) (k := .cell) (by decide) h1
    exact ⟨.inr this, .inl (by show (scope.names.lookup x == some .cell) = true; rw [h1]; rfl)⟩

/-! sorted({..}), sorted(set(e)), len(set(e)) -/
section
variable {K : PySem.W.Frag} {ι : Ix} {H : Hp}
theorem omap_text : ∀ ts : List (List Nat), omap textD (ts.map .str) = some ts
  | [] => rfl
  | t :: ts => by simp [omap, textD, omap_text ts]
theorem addTs_nil (ts : List (List Nat)) : addTs [] (ts.map mkS) = (addNs [] ts).map mkS := addTs_mk ts []
theorem relL_texts : ∀ l : List (List Nat), RelL K H ι (l.map .str) ((l.map mkS).map V.str)
  | [] => .nil
  | t :: l => .cons (.str t) (relL_texts l)
theorem texts_rel : ∀ {l : List D} {ts : List (List Nat)} {xs : List V}, omap textD l = some ts → RelL K H ι l xs → xs = (ts.map mkS).map V.str
  | [], ts, xs, h, r => by
    cases h
    cases r
    rfl
  | d :: l, ts, xs, h, r => by
    obtain ⟨t, ts', h1, h2, rfl⟩ := omap_cons h
    cases r with
    | cons r1 r2 =>
      cases d with
      | str z =>
        cases h1
        cases r1
        rw [texts_rel h2 r2]
        rfl
      | _ => cases h1
theorem ls_rel {μ : Sto} {x : D} {l : List D} {v : V} (S : StOk K H ι μ) (h : lsD μ x = some l) (r : Rel K H ι x v) : ∃ a xs, v = V.ref a ∧ SqL K H a xs ∧ RelL K H ι l xs := by
  cases x with
  | rol k =>
    cases h
    cases r with
    | rol h1 h2 => exact ⟨_, _, rfl, h1.sq, h2⟩
  | loc n =>
    cases r with
    | loc hk =>
      simp only [lsD] at h
      split at h
      · rename_i hl
        cases h
        obtain ⟨xs, e, h3⟩ := S.lst hl hk
        exact ⟨_, xs, rfl, SqL.of e, h3⟩
      · cases h
  | _ => cases h
end
theorem okBlt_ok {G : Cfg} {sc : Scope} {x : Str} {X : Cx} (h : okBlt G sc x = true) (hs : X.env.scope = sc) : oddName x = false ∧ Gl X x := by
  unfold okBlt at h
  rw [Bool.and_eq_true, Bool.and_eq_true] at h
  exact ⟨by simpa using h.1.1, glo_ok h.1.2 hs⟩
/-- sorted(set(e)) of tuples -/
theorem sorted_flat {X : Cx} {G : Cfg} {N : List Str} {c : Call} {kw : Kwp} {k : Nat} {e : Expr} {e1 : E} {p p2 q pos : Pos} (hX : XOk G N c kw k X) (hst : isStar e = false) (os : oddName "sorted" = false ∧ Gl X "sorted") (ot : oddName "set" = false ∧ Gl X "set") (h : PE X e (TV X.K (ev c kw e1))) :
    PE X (.Call (.Name "sorted" p) [.Call (.Name "set" p2) [e] [] q] [] pos) (TV X.K (ev c kw (.srtF e1))) := by
  have hu : X.A.units + 100 < cLine := by have := hX.units; omega
  obtain ⟨i1, _, i3⟩ := oddName_ok os.1
  obtain ⟨j1, _, j3⟩ := oddName_ok ot.1
  have PI : PE X (.Call (.Name "set" p2) [e] [] q) (tCB (rSetF X.K X.prog X.w) (tCons (TV X.K (ev c kw e1)) tNil)) :=
    pe_callTy (call_setF hX.calm hu) ot.2 (hX.blt _ (by decide +kernel)) (by decide +kernel) (pa_cons h pa_nil (star1 hst)) j3 j1 (star1 hst) rfl
  refine peImp (pe_callB (call_sortF hX.calm hu) os.2 (hX.blt _ (by decide +kernel)) (by decide +kernel) (pa_cons PI pa_nil (star1 rfl)) i3 i1 (star1 rfl) rfl) fun σ H Q w => ?_
  obtain ⟨ι, ρ, μ, d, μ', he, S, hf, ha⟩ := w
  simp only [ev] at hf
  obtain ⟨xv, μ1, k1, hf⟩ := Res.bind_ok hf
  obtain ⟨hf, rfl⟩ := ofO_ok hf
  unfold srtFD at hf
  obtain ⟨ks, k2, rfl⟩ := map_some' hf
  obtain ⟨l, k3, k4⟩ := Option.bind_eq_some_iff.mp k2
  refine ⟨ι, ρ, μ, xv, _, he, S, k1, fun ι1 H1 v g1 S1 r1 => ?_⟩
  have hseq : ∃ a xs, v = .ref a ∧ (SqL X.K H1 a xs ∨ SqT X.K H1 a xs) ∧ RelL X.K H1 ι1 l xs := by
    split at k3
    · cases k3
      cases r1 with
      | tup h1 h2 => exact ⟨_, _, rfl, .inr h1, h2⟩
    · obtain ⟨a, xs, e1, e2, e3⟩ := ls_rel S1 k3 r1
      exact ⟨a, xs, e1, .inl e2, e3⟩
  obtain ⟨a, xs, rfl, sq, rl⟩ := hseq
  unfold flatsD at k4
  split at k4
  · rename_i ks' hks
    split at k4
    · rename_i hc
      cases k4
      obtain ⟨c1, c2, c3⟩ := hc
      obtain ⟨ms, rfl, e2, e3, e4⟩ := rel_keys hks rl
      have hml : ms.length < 64 := by
        have := congrArg List.length e2
        rw [List.length_map] at this
        rw [this, omap_length hks]; exact c1
      refine ⟨a, ms, rfl, sq, e3, hml, fun p R hp in1 in2 nd => ?_⟩
      have hin : ∀ m ∈ R, kd m.2 ∈ ks := fun m hm => by rw [← e2]; exact List.mem_map.mpr ⟨m, in1 m hm, rfl⟩
      have gf := Grow.fresh (K := X.K) (ι := ι1) (o := FSetO X.prog X.w p R) hp
      have hst' : ∀ m ∈ R, SqT X.K (upd H1 p (FSetO X.prog X.w p R)) m.1 (m.2.map L2.kV) := fun m hm => gf.ext.tup _ _ (e3 m (in1 m hm))
      refine ⟨p, R, rfl, upd_same, hst', fun x hx y hy => ?_, .inl fun x hx => ?_, fun p2 out hp2 pm up => ?_⟩
      · obtain ⟨m, hm, rfl⟩ := List.mem_map.mp hx
        obtain ⟨m2, hm2, rfl⟩ := List.mem_map.mp hy
        exact (by simpa [encFM, PySem.W.alike] using List.all_eq_true.mp (List.all_eq_true.mp c2 _ (hin m hm)) _ (hin m2 hm2))
      · obtain ⟨m, hm, rfl⟩ := List.mem_map.mp hx
        have z := List.all_eq_true.mp c3 _ (hin m hm)
        unfold encFM
        cases q : kd m.2 with
        | nil => rw [q] at z; cases z
        | cons y r => exact ⟨_, _, rfl⟩
      · have eo : out.map (fun m => kd m.2) = sortF (addFs [] ks) := by
          refine upF_unique ((pm.map fun m => kd m.2).trans (List.Perm.trans ?_ (sortF_perm _).symm)) (List.pairwise_map.mpr up) (sortF_up _)
          refine (List.perm_ext_iff_of_nodup ?_ (addFs_nodup List.nodup_nil)).mpr fun x => ?_
          · have := nd
            rw [show (R.map fun m => kd m.2) = (R.map (·.2)).map kd by rw [List.map_map]; rfl]
            exact List.Pairwise.map kd (fun a b hne e => hne (kd_inj e)) nd
          · rw [addFs_mem]
            refine ⟨fun hx => ?_, fun hx => ?_⟩
            · obtain ⟨m, hm, rfl⟩ := List.mem_map.mp hx
              exact .inr (hin m hm)
            · rcases hx with hx | hx
              · cases hx
              · rw [← e2] at hx
                obtain ⟨m, hm, rfl⟩ := List.mem_map.mp hx
                obtain ⟨m2, hm2, e5⟩ := List.mem_map.mp (in2 m hm)
                exact List.mem_map.mpr ⟨m2, hm2, by rw [e5]⟩
        have S2 := S1.fresh (o := FSetO X.prog X.w p R) hp
        refine ha ι1 _ _ (g1.trans (gf.trans (Grow.fresh hp2))) (S2.fresh hp2) (rol_new S2 hp2 ?_)
        rw [← eo, List.map_map]
        have : ∀ o : List (Addr × FK), (∀ m ∈ o, m ∈ R) → RelL X.K (upd H1 p (FSetO X.prog X.w p R)) ι1 (o.map (tupF ∘ fun m => kd m.2)) (o.map fun m => V.ref m.1) := by
          intro o
          induction o with
          | nil => exact fun _ => .nil
          | cons m o ih => exact fun hm => .cons ((e4 m (in1 m (hm m List.mem_cons_self))).grow gf) (ih fun x hx => hm x (List.mem_cons_of_mem _ hx))
        exact this out fun m hm => pm.mem_iff.mp hm
    · cases k4
  · cases k4
theorem spec_ok {X : Cx} {G : Cfg} {N : List Str} {c : Call} {kw : Kwp} {k : Nat} {sc : Scope} {r : Scope → Expr → Option E} {f : Expr} {args : List Expr} {kws : List Keyword} {pos : Pos} {e' : E} (hX : XOk G N c kw k X) (hs : X.env.scope = sc)
    (hr : ∀ (Y : Cx) (sc : Scope), XOk G N c kw k Y → Y.env.scope = sc → ∀ e e', r sc e = some e' → Snd Y c kw e e') (h : cSpec G N r sc pos f args kws = some e') : Snd X c kw (.Call f args kws pos) e' := by
  unfold cSpec at h
  split at h
  · rename_i x p elt gs scope q
    split at h
    · rename_i hx
      subst hx
      split at h
      · rename_i hb
        obtain ⟨n, h1, rfl⟩ := map_some' h
        obtain ⟨o1, o2⟩ := okBlt_ok hb hs
        obtain ⟨i1, _, i3⟩ := oddName_ok o1
        have PS := compS_pe (pos := q) hX hs (fun a b z => (hr X sc hX hs a b z).pe) (fun Y hY hS a b z => ⟨(hr Y _ hY hS a b z).pe, (hr Y _ hY hS a b z).pt⟩) h1
        refine .of (peImp (pe_callB (call_sortX hX.calm) o2 (hX.blt _ (by decide +kernel)) (by decide +kernel) (pa_cons PS pa_nil (star1 rfl)) i3 i1 (star1 rfl) rfl) fun σ H Q q => ?_) (fun _ => rfl) (fun _ _ _ z => by cases z)
        obtain ⟨ι, ρ, μ, d, μ', he, S, hf, ha⟩ := q
        simp only [ev] at hf
        obtain ⟨acc, μ1, k1, hf⟩ := Res.bind_ok hf
        obtain ⟨hf, rfl⟩ := ofO_ok hf
        refine ⟨ι, ρ, μ, acc, _, he, S, k1, fun ι' H' D g S' n1 n2 c0 => ?_⟩
        obtain ⟨ts, rfl, q1, q2⟩ := c0
        rw [omap_text] at hf
        cases hf
        refine ⟨D, _, rfl, q1, fun p ss hp pm so => ha ι' _ _ (g.trans (Grow.fresh hp)) (S'.fresh hp) (rol_new S' hp ?_)⟩
        rw [addTs_nil] at pm
        rw [sorted_is pm so]
        exact relL_texts _
      · cases h
    · cases h
  · rename_i x p y p2 e q
    split at h
    · rename_i hy
      subst hy
      have inner : okBlt G sc "set" = true → isStar e = false → ∀ e1, r sc e = some e1 → PE X (.Call (.Name "set" p2) [e] [] q) (tCB (rSetX X.K X.prog X.w) (tCons (TV X.K (ev c kw e1)) tNil)) := fun hb hst e1 h1 => by
        obtain ⟨o1, o2⟩ := okBlt_ok hb hs
        obtain ⟨i1, _, i3⟩ := oddName_ok o1
        exact pe_callTy (call_setX hX.calm) o2 (hX.blt _ (by decide +kernel)) (by decide +kernel) (pa_cons (hr X sc hX hs e e1 h1).pe pa_nil (star1 hst)) i3 i1 (star1 hst) rfl
      have read : ∀ {e1 : E} {σ : L2.St} {H : Hp} {F : List (List Nat) → D} {Q : VK} {R : V → Hp → Prop}, TV X.K (fun ρ μ => (ev c kw e1 ρ μ).bind fun x μ => ofO (((lsD μ x).bind (textsD ·)).map F) μ) σ H Q →
          (∀ ι H p μ ts, StOk X.K H ι μ → H p = some (SetXO X.prog X.w p (addTs [] (ts.map mkS))) → Aft X.K ι H Q (F ts) μ → R (.ref p) H) → tCB (rSetX X.K X.prog X.w) (tCons (TV X.K (ev c kw e1)) tNil) σ H R := fun {e1 σ H F Q R} q hR => by
        obtain ⟨ι, ρ, μ, d, μ', he, S, hf, ha⟩ := q
        obtain ⟨xv, μ1, k1, hf⟩ := Res.bind_ok hf
        obtain ⟨hf, rfl⟩ := ofO_ok hf
        obtain ⟨ts, k2, rfl⟩ := map_some' hf
        obtain ⟨l, k3, k4⟩ := Option.bind_eq_some_iff.mp k2
        refine ⟨ι, ρ, μ, xv, _, he, S, k1, fun ι1 H1 v g1 S1 r1 => ?_⟩
        obtain ⟨a, xs, rfl, sq, rl⟩ := ls_rel S1 k3 r1
        unfold textsD at k4
        split at k4
        · rename_i hz
          have ex := texts_rel k4 rl
          have hlen : (ts.map mkS).length < 4000 := by
            have q1 := rl.length
            rw [ex] at q1
            simp only [List.length_map] at q1 ⊢
            omega
          subst ex
          refine ⟨a, ts.map mkS, rfl, sq, hlen, fun p hp => ?_⟩
          exact hR ι1 _ p _ ts (S1.fresh hp) upd_same fun ι3 H3 w g3 s3 r3 => ha ι3 H3 w (g1.trans ((Grow.fresh hp).trans g3)) s3 r3
        · cases k4
      split at h
      · rename_i hx
        subst hx
        split at h
        · rename_i hb
          rw [Bool.and_eq_true, Bool.and_eq_true] at hb
          obtain ⟨e1, h1, rfl⟩ := map_some' h
          have hst : isStar e = false := by simpa using hb.2
          have PI := inner hb.1.2 hst e1 h1
          obtain ⟨o1, o2⟩ := okBlt_ok hb.1.1 hs
          obtain ⟨i1, _, i3⟩ := oddName_ok o1
          split
          · exact .of (sorted_flat hX hst (okBlt_ok hb.1.1 hs) (okBlt_ok hb.1.2 hs) (hr X sc hX hs e e1 h1).pe) (fun _ => rfl) (fun _ _ _ z => by cases z)
          · refine .of (peImp (pe_callB (call_sortX hX.calm) o2 (hX.blt _ (by decide +kernel)) (by decide +kernel) (pa_cons PI pa_nil (star1 rfl)) i3 i1 (star1 rfl) rfl) fun σ H Q q => ?_) (fun _ => rfl) (fun _ _ _ z => by cases z)
            refine read (by simpa only [ev] using q) fun ι1 H1 p μ1 ts S1 hp ha => ?_
            refine ⟨p, _, rfl, hp, fun p2 ss hp2 pm so => ha ι1 _ _ (Grow.fresh hp2) (S1.fresh hp2) (rol_new S1 hp2 ?_)⟩
            rw [addTs_nil] at pm
            rw [sorted_is pm so]
            exact relL_texts _
        · cases h
      · split at h
        · rename_i hx
          subst hx
          split at h
          · rename_i hb
            rw [Bool.and_eq_true, Bool.and_eq_true] at hb
            obtain ⟨e1, h1, rfl⟩ := map_some' h
            have hst : isStar e = false := by simpa using hb.2
            have PI := inner hb.1.2 hst e1 h1
            obtain ⟨o1, o2⟩ := okBlt_ok hb.1.1 hs
            obtain ⟨i1, _, i3⟩ := oddName_ok o1
            refine .of (peImp (pe_callB (call_lenX) o2 (hX.blt _ (by decide +kernel)) (by decide +kernel) (pa_cons PI pa_nil (star1 rfl)) i3 i1 (star1 rfl) rfl) fun σ H Q q => ?_) (fun _ => rfl) (fun _ _ _ z => by cases z)
            refine read (by simpa only [ev] using q) fun ι1 H1 p μ1 ts S1 hp ha => ?_
            refine ⟨p, _, rfl, hp, ?_⟩
            rw [addTs_nil, List.length_map]
            exact ha ι1 _ _ Grow.refl S1 (.int _)
          · cases h
        · cases h
    · cases h
  · rename_i x p y p2 e e2 q
    split at h
    · rename_i hy
      subst hy
      split at h
      · rename_i hx
        subst hx
        split at h
        · rename_i hb
          simp only [Bool.and_eq_true, Bool.not_eq_true'] at hb
          obtain ⟨⟨⟨b1, b2⟩, s1⟩, s2⟩ := hb
          split at h
          · rename_i a b h1 h2
            cases h
            obtain ⟨o1, g1⟩ := okBlt_ok b1 hs
            obtain ⟨o2, g2⟩ := okBlt_ok b2 hs
            have PAe : PA X [e, e2] (TL X.K (evs c kw [a, b])) := pa_ev (by simp [s1, s2]) (.cons (hr X sc hX hs e a h1).pe (.cons (hr X sc hX hs e2 b h2).pe .nil))
            refine .of (peImp (LZ.pe_lzip hX.calm g1 (hX.blt _ (by decide +kernel)) g2 (hX.blt _ (by decide +kernel)) PAe (star1 s1) (star_none (by simp [s2]))) fun σ H Q w => ?_) (fun _ => rfl) (fun _ _ _ z => by cases z)
            simp only [ev] at w
            refine TL.one (R := fun vs H1 => ∃ a b xs ys, vs = [.ref a, .ref b] ∧ SqL X.K H1 a xs ∧ SqL X.K H1 b ys ∧ min xs.length ys.length ≤ 1000000 ∧ ∀ (S : Addr) (as : List Addr), as.length = min xs.length ys.length → (S :: as).Nodup → (∀ c ∈ S :: as, H1 c = none) → Q (.ref S) (upd (LZ.trk H1 as (LZ.pairs xs ys)) S (.lst (as.map V.ref)))) w fun ι H1 μ xs d μ' us S0 r hk hq => ?_
            obtain ⟨h3, rfl⟩ := ofO_ok hk
            unfold lzipD at h3
            split at h3
            · rename_i x y
              split at h3
              · rename_i l k hl hk2
                split at h3
                · rename_i hc
                  cases h3
                  cases r with
                  | cons r1 rr =>
                    cases rr with
                    | cons r2 rr =>
                      cases rr
                      obtain ⟨a1, xs1, rfl, sq1, rl1⟩ := ls_rel' S0 hl r1
                      obtain ⟨a2, ys1, rfl, sq2, rl2⟩ := ls_rel' S0 hk2 r2
                      refine ⟨a1, a2, xs1, ys1, rfl, sq1, sq2, by rw [← rl1.length, ← rl2.length]; exact hc, fun Sd as hlen hnd hn => ?_⟩
                      have hd' := List.nodup_cons.mp hnd
                      have hns : LZ.trk H1 as (LZ.pairs xs1 ys1) Sd = none := by rw [LZ.trk_ne hd'.1]; exact hn Sd List.mem_cons_self
                      have g1 : Grow X.K ι H1 ι (LZ.trk H1 as (LZ.pairs xs1 ys1)) := LZ.grow_trk as _ hd'.2 fun a ha => hn a (List.mem_cons_of_mem _ ha)
                      have s1 : StOk X.K (LZ.trk H1 as (LZ.pairs xs1 ys1)) ι _ := LZ.stok_trk as _ hd'.2 (fun a ha => hn a (List.mem_cons_of_mem _ ha)) S0
                      exact hq ι _ _ (g1.trans (Grow.fresh hns)) (s1.fresh hns) (rol_new s1 hns (LZ.relL_zip as (rl1.grow g1) (rl2.grow g1) hlen fun j a p q1 q2 => LZ.trk_at hd'.2 q1 q2))
                · cases h3
              · cases h3
            · cases h3
          · cases h
        · cases h
      · cases h
    · cases h
  · rename_i x p us q m apos vs
    split at h
    · cases h
    · rename_i hc
      simp only [Bool.or_eq_true, not_or] at hc
      obtain ⟨⟨⟨⟨⟨c1, c2⟩, c3⟩, c4⟩, c6⟩, c7⟩ := hc
      split at h
      · rename_i fid mt us' vs' hf hm hus hvs
        split at h
        · rename_i hc2
          rw [Bool.and_eq_true] at hc2
          cases h
          obtain ⟨rfl, hn⟩ := mtOfS_ok hm
          exact .of (pe_mtcE hX hc2.2 (by simpa using c1) (glo_ok (by simpa using c2) hs) (by simpa [bne] using c4) (notStar c3) (notStar c6) (by simpa using c7) hn.symm hf hc2.1 (omap_mem hus fun a b z => (hr X sc hX hs a b z).pe) (omap_mem hvs fun a b z => (hr X sc hX hs a b z).pe)) (fun _ => rfl) (fun _ _ _ z => by cases z)
        · cases h
      · cases h
  · cases h

theorem sound {G : Cfg} {N : List Str} {c : Call} {kw : Kwp} {k : Nat} : ∀ (n : Nat) {X : Cx} {sc : Scope} {e : Expr} {e' : E}, XOk G N c kw k X → X.env.scope = sc → cE G N n sc e = some e' → Snd X c kw e e' := by
  intro n
  induction n with
  | zero => intro X sc e e' hX hs h; cases h
  | succ n ih =>
    intro X sc e e' hX hs h
    have ihp : ∀ {e : Expr} {e' : E}, cE G N n sc e = some e' → PE X e (TV X.K (ev c kw e')) := fun h => (ih hX hs h).pe
    have iht : ∀ {e : Expr} {e' : E}, cE G N n sc e = some e' → PT X e (TB X.K (ev c kw e')) := fun h => (ih hX hs h).pt
    have ihl : ∀ {es : List Expr} {es' : List E}, omap (cE G N n sc) es = some es' → Paired (fun e e' => PE X e (TV X.K (ev c kw e'))) es es' := fun h => omap_mem h fun a b h => ihp h
    have no : ∀ {P : Prop}, none = some e' → P := fun h => by cases h
    cases e with
    | Name x pos =>
      simp only [cE] at h
      split at h
      · exact no h
      · rename_i ho
        have ho : oddName x = false := by simpa using ho
        split at h
        · rename_i hv
          obtain ⟨i, hi, rfl⟩ := map_some' h
          exact .of (pe_nameE hX ho (by rw [hs]; exact hv) hi) (fun _ => rfl) (fun _ _ _ z => by cases z)
        · split at h
          · rename_i hg
            split at h
            · rename_i i hc
              cases h
              exact .of (pe_cnsE (dv := .int i) hX ho (glo_ok hg hs) hc (fun _ _ => by simp only [ev]) fun _ _ _ => .int _) (fun _ => rfl) (fun _ _ _ z => by cases z)
            · rename_i s hc
              cases h
              exact .of (pe_cnsE (dv := .str s) hX ho (glo_ok hg hs) hc (fun _ _ => by simp only [ev]) fun _ _ _ => .str _) (fun _ => rfl) (fun _ _ _ z => by cases z)
            · exact no h
          · exact no h
    | Constant v kd pos =>
      cases v with
      | none => cases h; exact .of (pe_cstE pe_non (fun _ _ => by simp only [ev]) fun _ _ _ => .non) (fun _ => rfl) (fun _ _ _ z => by cases z)
      | bool b => cases h; exact .of (pe_cstE pe_bl (fun _ _ => by simp only [ev]) fun _ _ _ => .bl _) (fun _ => rfl) (fun _ _ _ z => by cases z)
      | int i => cases h; exact .of (pe_cstE pe_int (fun _ _ => by simp only [ev]) fun _ _ _ => .int _) (fun _ => rfl) (fun _ _ _ z => by cases z)
      | str s => cases h; exact .of (pe_cstE pe_str (fun _ _ => by simp only [ev]) fun _ _ _ => .str _) (fun _ => rfl) (fun _ _ _ z => by cases z)
      | _ => cases h
    | BinOp a op b pos =>
      simp only [cE] at h
      split at h
      · rename_i o x y ho ha hb
        cases h
        rw [bopOf_ok ho]
        refine .ofM (pe_binE (ihp ha) (ihp hb)) ?_ (fun _ => rfl) (fun _ _ _ z => by cases z)
        cases o with
        | add => exact pe_binE (o := .addM) (ihp ha) (ihp hb)
        | _ => exact pe_binE (ihp ha) (ihp hb)
      · exact no h
    | UnaryOp op a pos =>
      cases op with
      | USub =>
        obtain ⟨x, ha, rfl⟩ := map_some' (show (cE G N n sc a).map E.neg = some e' from h)
        exact .of (pe_negE (ihp ha)) (fun _ => rfl) (fun _ _ _ z => by cases z)
      | Not =>
        have h : (if isNmE a then (cE G N n sc a).map fun x => E.not (.blt .tru [x]) else (cE G N n sc a).map E.not) = some e' := h
        split at h
        · rename_i hnm
          obtain ⟨x, ha, rfl⟩ := map_some' h
          have hpl : ∀ whole, isTrue a X.env whole = (do let v ← whole; standAt a.pos; holding [v] (truthy v)) := by
            cases a <;> first | (intro _; rfl) | cases hnm
          exact ⟨pe_notT (ihp ha), pt_notE (pt_truE (ihp ha) hpl), (fun _ _ _ z => by cases z), pe_notT (ihp ha)⟩
        · obtain ⟨x, ha, rfl⟩ := map_some' h
          exact ⟨pe_notE (ihp ha), pt_notE (iht ha), (fun _ _ _ z => by cases z), pe_notE (ihp ha)⟩
      | _ => cases h
    | BoolOp op vs pos =>
      cases vs with
      | nil => cases h
      | cons a vs =>
        cases vs with
        | nil =>
          have h' : cE G N n sc a = some e' := h
          have hw : PW X (.BoolOp op [a] pos) (TB X.K (ev c kw e')) := by
            cases op with
            | And => exact pw_and1 (iht h')
            | Or => exact pw_or1 (iht h')
          have hpm : PE X (.BoolOp op [a] pos) (TV X.K (ev c kw (toM e'))) := pe_one (ih hX hs h').pm
          exact ⟨pe_one (ihp h'), hw.pt, fun _ _ _ _ => hw, hpm⟩
        | cons b rest =>
          simp only [cE] at h
          split at h
          · rename_i x y ha hb
            cases h
            have hS := ih hX hs hb
            have hwb := hS.pw _ _ _ rfl
            cases op with
            | And => exact ⟨pe_andE (ihp ha) hS.pe, (pw_andE (iht ha) hwb).pt, fun _ _ _ _ => pw_andE (iht ha) hwb, pe_andE (ihp ha) hS.pe⟩
            | Or => exact ⟨pe_orE (ihp ha) hS.pe, (pw_orE (iht ha) hwb).pt, fun _ _ _ _ => pw_orE (iht ha) hwb, pe_orE (ihp ha) hS.pe⟩
          · exact no h
    | IfExp t a b pos =>
      simp only [cE] at h
      split at h
      · rename_i z x y ht ha hb
        cases h
        exact ⟨pe_iteE (iht ht) (ihp ha) (ihp hb), pt_iteE (iht ht) (iht ha) (iht hb), (fun _ _ _ z => by cases z), pe_iteE (iht ht) (ihp ha) (ihp hb)⟩
      · exact no h
    | Compare a ops bs pos =>
      simp only [cE] at h
      split at h
      · rename_i op b
        split at h
        · exact no h
        · rename_i hst
          split at h
          · rename_i x y ha hb
            cases h
            have q := pe_cmpE (op := op) (pos := pos) hX (by simpa using hst) (ihp ha) (ihp hb)
            exact ⟨q.1, q.2, (fun _ _ _ z => by cases z), q.1⟩
          · exact no h
      · rename_i op op' b d
        split at h
        · exact no h
        · rename_i hst
          split at h
          · rename_i x y z ha hb hd
            cases h
            rw [Bool.or_eq_true, not_or] at hst
            have q := pe_chnE (op := op) (op' := op') (pos := pos) hX (by simpa using hst.2) (ihp ha) (ihp hb) (ihp hd)
            exact ⟨q.1, q.2, (fun _ _ _ z => by cases z), q.1⟩
          · exact no h
      · exact no h
    | Tuple es j pos =>
      simp only [cE] at h
      split at h
      · exact no h
      · rename_i hst
        obtain ⟨es', h1, rfl⟩ := map_some' h
        exact .of (pe_tupE (pa_ev (notStar hst) (ihl h1))) (fun _ => rfl) (fun _ _ _ z => by cases z)
    | List es pos =>
      simp only [cE] at h
      split at h
      · exact no h
      · rename_i hst
        obtain ⟨es', h1, rfl⟩ := map_some' h
        exact .ofM (pe_lstE (pa_ev (notStar hst) (ihl h1))) (pe_lstME (pa_ev (notStar hst) (ihl h1))) (fun _ => rfl) (fun _ _ _ z => by cases z)
    | Dict ks vs pos =>
      simp only [cE] at h
      split at h
      · cases h
        exact .ofM pe_dct0E pe_dct0ME (fun _ => rfl) (fun _ _ _ z => by cases z)
      · split at h
        · rename_i x y ha hb
          cases h
          exact .of (pe_dct1E (ihp ha) (ihp hb)) (fun _ => rfl) (fun _ _ _ z => by cases z)
        · exact no h
      · exact no h
    | Subscript a i pos =>
      simp only [cE] at h
      split at h
      · exact no h
      · rename_i x ha
        split at h
        · rename_i hi p
          obtain ⟨y, h1, rfl⟩ := map_some' h
          exact .of (pe_slUE (ihp ha) (ihp h1)) (fun _ => rfl) (fun _ _ _ z => by cases z)
        · rename_i lo p
          obtain ⟨y, h1, rfl⟩ := map_some' h
          exact .of (pe_slLE (ihp ha) (ihp h1)) (fun _ => rfl) (fun _ _ _ z => by cases z)
        · split at h
          · rename_i y z h1 h2
            cases h
            exact .of (pe_slLUE (ihp ha) (ihp h1) (ihp h2)) (fun _ => rfl) (fun _ _ _ z => by cases z)
          · exact no h
        · cases h
          exact .of (pe_revE (ihp ha)) (fun _ => rfl) (fun _ _ _ z => by cases z)
        · split at h
          · exact no h
          · rename_i hsl
            obtain ⟨y, h1, rfl⟩ := map_some' h
            exact .of (pe_ixE (by simpa using hsl) (ihp ha) (ihp h1)) (fun _ => rfl) (fun _ _ _ z => by cases z)
    | Attribute o f pos =>
      simp only [cE] at h
      split at h
      · exact no h
      · rename_i hc
        rw [Bool.or_eq_true, not_or] at hc
        obtain ⟨y, hy, rfl⟩ := map_some' h
        exact .of (fld_ok hX (fun z => hc.2 (by rw [z]; rfl)) (by simpa using hc.1) (ihp hy)) (fun _ => rfl) (fun _ _ _ z => by cases z)
    | Call f args kws pos =>
      simp only [cE] at h
      split at h
      · rename_i e1 her
        cases h
        obtain ⟨o, es, rfl⟩ := cErr_xop her
        exact .of (err_ok hX hs (fun a b z => ihp z) her) (fun _ => rfl) (fun _ _ _ z => by cases z)
      split at h
      · rename_i e1 hsp
        cases h
        exact spec_ok hX hs (fun Y sc' hY hS a b z => ih hY hS z) hsp
      cases f with
      | Name x p =>
        simp only at h
        split at h
        · exact no h
        · rename_i hodd
          rw [Bool.or_eq_true, Bool.or_eq_true, not_or, not_or] at hodd
          have ho : oddName x = false := by simpa using hodd.1.1
          have hg : Gl X x := glo_ok (by simpa using hodd.1.2) hs
          have hst := notStar hodd.2
          split at h
          · rename_i fid hfid
            have hf := hfid
            cases kws with
            | nil =>
              obtain ⟨es', h1, rfl⟩ := map_some' h
              exact .of (pe_callE hX ho hg hst hf (ihl h1)) (fun _ => rfl) (fun _ _ _ z => by cases z)
            | cons kw0 kws =>
              simp only at h
              split at h
              · rename_i ks as bs hks has hbs
                obtain ⟨w, hw, rfl⟩ := map_some' h
                have hpm := kwPat_get hw
                exact .of (pe_callkE hX ho hg hst hf hpm hks (ihl has) (omap_mem hbs fun a b h => ihp h)) (fun _ => rfl) (fun _ _ _ z => by cases z)
              · exact no h
          · split at h
            · exact no h
            · rename_i hkw
              have hkw : kws = [] := by cases kws with | nil => rfl | cons _ _ => simp at hkw
              subst hkw
              have blt : ∀ {args : List Expr} {e' : E}, args.any isStar = false → (match biOf x args.length, omap (cE G N n sc) args with | some b, some as => some (E.blt b as) | _, _ => none) = some e' → Snd X c kw (.Call (.Name x p) args [] pos) e' := by
                intro args e' hst h
                split at h
                · rename_i b as hb has
                  cases h
                  obtain ⟨rfl, hn, hnt⟩ := biOf_ok hb
                  have q := pe_bltE (pos := pos) (p := p) hX ho hg hst hnt hn.symm (ihl has)
                  refine .ofM q ?_ (fun _ => rfl) (fun _ _ _ z => by cases z)
                  cases b with
                  | list => exact pe_bltE (b := .listM) hX ho hg hst (by decide) hn.symm (ihl has)
                  | _ => exact q
                · cases h
              split at h
              · rename_i e t q
                split at h
                · rename_i hx
                  subst hx
                  split at h
                  · exact no h
                  · rename_i hodd2
                    rw [Bool.or_eq_true, Bool.or_eq_true, not_or, not_or] at hodd2
                    split at h
                    · rename_i ty y hty hy
                      cases h
                      have hts := tyOfS_ok hty
                      subst hts
                      rw [List.any_cons, Bool.or_eq_false_iff] at hst
                      exact .of (pe_isiE hX (by simpa using hodd2.1.1) hg (glo_ok (by simpa using hodd2.1.2) hs) hst.1 (ihp hy)) (fun _ => rfl) (fun _ _ _ z => by cases z)
                    · exact no h
                · exact blt hst h
              · exact blt hst h
      | Attribute o m apos =>
        simp only at h
        split at h
        · exact no h
        · rename_i hc
          rw [Bool.or_eq_true, Bool.or_eq_true, Bool.or_eq_true, not_or, not_or, not_or] at hc
          have hkw : kws = [] := by
            have := hc.1.1.2
            cases kws with | nil => rfl | cons _ _ => simp at this
          subst hkw
          split at h
          · rename_i mt x as hm ho has
            cases h
            obtain ⟨rfl, hn⟩ := mtOfS_ok hm
            exact .of (pe_mthE (by have := hX.units; omega) (by simpa using hc.1.1.1) (notStar hc.1.2) (by simpa using hc.2) hn.symm (ihp ho) (ihl has)) (fun _ => rfl) (fun _ _ _ z => by cases z)
          · exact no h
      | _ => cases h
    | ListComp elt gs scope pos =>
      simp only [cE] at h
      split at h
      · rename_i tg iter ifs a
        split at h
        · exact no h
        · rename_i ha
          have ha : a = 0 := by simpa using ha
          subst ha
          split at h
          · exact no h
          · rename_i own hown
            split at h
            · exact no h
            · rename_i hb
              have hb : blkC N sc scope own = true := by simpa using hb
              split at h
              · rename_i t it y ht hit hy
                split at h
                · cases h
                  have L := lc_ok (elt := elt) (ifs := []) (test := fun _ μ => .ok (.bl true) μ) (eltf := ev c kw y) hX hs (fun a b h => ihp h) hown hb ht hit (fun Y hY hK hS => by rw [← hK]; exact (ih hY hS hy).pe) (fun Y hY hK hS => by rw [← hK]; exact pts_nilE)
                  have L2 := lc_ok (elt := elt) (ifs := []) (test := fun _ μ => .ok (.bl true) μ) (eltf := ev c kw (toM y)) hX hs (fun a b h => ihp h) hown hb ht hit (fun Y hY hK hS => by rw [← hK]; exact (ih hY hS hy).pm) (fun Y hY hK hS => by rw [← hK]; exact pts_nilE)
                  refine .ofM (peImp L.pe fun σ H Q h => ?_) (peImp L2.pe fun σ H Q h => ?_) (fun _ => rfl) (fun _ _ _ z => by cases z)
                  · simp only [ev] at h
                    exact h
                  · simp only [toM, ev] at h
                    exact h
                · rename_i cnd
                  obtain ⟨z, hz, rfl⟩ := map_some' h
                  have L := lc_ok (elt := elt) (ifs := [cnd]) (test := ev c kw z) (eltf := ev c kw y) hX hs (fun a b h => ihp h) hown hb ht hit (fun Y hY hK hS => by rw [← hK]; exact (ih hY hS hy).pe) (fun Y hY hK hS => by rw [← hK]; exact pts_one (ih hY hS hz).pt)
                  refine .of (peImp L.pe fun σ H Q h => ?_) (fun _ => rfl) (fun _ _ _ z => by cases z)
                  simp only [ev] at h
                  exact h
                · exact no h
              · exact no h
      · obtain ⟨n', h1, rfl⟩ := map_some' h
        exact .of (compL_pe hX hs (fun a b z => ihp z) (fun Y hY hS a b z => ⟨(ih hY hS z).pe, (ih hY hS z).pt⟩) h1) (fun _ => rfl) (fun _ _ _ z => by cases z)
    | _ => cases h
end Ev

namespace Ev
open PySem PySem.Spec L2

/-! ### statements: from the text -/
/-- is what this name is given to be changed -/
def asM (mv : List Str) (x : Str) (e : E) : E := if mv.contains x then toM e else e
def isLcE : Expr → Bool
  | .ListComp _ _ _ _ => true
  | .SetComp _ _ _ _ => true
  | .DictComp _ _ _ _ _ => true
  | _ => false
/-- are these two names stored from the right, without the pair -/
def par2 (sc : Scope) (x y : Str) (px py : Pos) (a b : Expr) : Bool :=
  decide (sc.names.lookup x = some .local) && decide (sc.names.lookup y = some .local) && (py.line == px.line) && !(x == y) && !isStar a && !isStar b && !(foldedForSure 8 a && foldedForSure 8 b) && !(constantsAlone 8 a && constantsAlone 8 b)
/-- three of them -/
def par3 (sc : Scope) (x y z : Str) (px py pz : Pos) (a b d : Expr) : Bool :=
  decide (sc.names.lookup x = some .local) && decide (sc.names.lookup y = some .local) && decide (sc.names.lookup z = some .local) && (py.line == px.line) && (pz.line == px.line) && !(x == y) && !(x == z) && !(y == z) && !isStar a && !isStar b && !isStar d && !([a, b, d].all (foldedForSure 8)) && !([a, b, d].all (constantsAlone 8))
def fold2 (a b : Expr) : Bool := foldedForSure 8 a && foldedForSure 8 b && !isStar a && !isStar b
def cTst (G : Cfg) (N : List Str) (sc : Scope) (d : Expr) : Option E := if isNmE d then (cE G N 40 sc d).map fun x => .blt .tru [x] else cE G N 40 sc d
def cSs (G : Cfg) (N : List Str) (mv : List Str) (sc : Scope) : Nat → List Stmt → Option (List S)
  | 0, _ => none
  | _ + 1, [] => some []
  | n + 1, st :: rest => match (match st with
      | .Assign [.Name x p] e pos => match nameIx N sc (.Name x p), cE G N 40 sc e with
        | some i, some y => if isLcE e then (match e with
            | .ListComp _ [_] sc' pos' => if decide (sc.names.lookup x = some .local) && (p.line == pos'.line) && !(sc'.names.any fun (n, k) => n == x && (k == .local || k == .cell)) then some (if mv.contains ("+" ++ x) then .setL i (asM mv x y) else .set i (asM mv x y)) else none
            | .ListComp _ (_ :: _ :: _) sc' pos' => if decide (sc.names.lookup x = some .local) && (p.line == pos'.line) && !(sc'.names.any fun (n, k) => n == x && (k == .local || k == .cell)) then some (.set i (asM mv x y)) else none
            | _ => none) else some (.set i (asM mv x y))
        | _, _ => none
      | .Assign [.Tuple es kt pt] (.Tuple vs k2 pt2) _ => match es, vs with
        | [.Name x px, .Name y py], [a, b] => match nameIx N sc (.Name x px), nameIx N sc (.Name y py), cE G N 40 sc a, cE G N 40 sc b with
          | some i, some j, some u, some v => if par2 sc x y px py a b then some (.par i j (asM mv x u) (asM mv y v)) else if fold2 a b then some (.unp [i, j] (.tup [asM mv x u, asM mv y v])) else none
          | _, _, _, _ => none
        | [.Name x px, .Name y py, .Name z pz], [a, b, d] => match nameIx N sc (.Name x px), nameIx N sc (.Name y py), nameIx N sc (.Name z pz), cE G N 40 sc a, cE G N 40 sc b, cE G N 40 sc d with
          | some i, some j, some l, some u, some v, some r => if par3 sc x y z px py pz a b d then some (.par3 i j l (asM mv x u) (asM mv y v) (asM mv z r)) else none
          | _, _, _, _, _, _ => none
        | _, _ => none
      | .Assign [.Tuple es kt pt] e _ => if isTupE e || isLcE e then none else match cT N sc (.Tuple es kt pt), cE G N 40 sc e with
        | some (.tp is), some y => some (.unp is y)
        | _, _ => none
      | .Assign [.Subscript o i _] e _ => if isSliceE i then none else match cE G N 40 sc o, cE G N 40 sc i, cE G N 40 sc e with
        | some x, some y, some z => some (.sset x y z)
        | _, _, _ => none
      | .Expr e _ => match e with
        | .Constant (.str _) _ _ => some .pass
        | e => if isLcE e then none else (cE G N 40 sc e).map .expr
      | .Return (some e) _ => (cE G N 40 sc e).map fun y => .ret (asM mv "return" y)
      | .Return none _ => some (.ret .non)
      | .Pass _ => some .pass
      | .Break _ => some .brk
      | .Continue _ => some .cnt
      | .Raise _ _ _ => some .stuck
      | .If d a b _ => match cTst G N sc d, cSs G N mv sc n a, cSs G N mv sc n b with
        | some x, some y, some z => some (.iff x y z)
        | _, _, _ => none
      | .While d body [] _ => match cTst G N sc d, cSs G N mv sc n body with
        | some x, some y => some (.while x y)
        | _, _ => none
      | .For tg iter body [] _ => match cT N sc tg, cIter G sc (cE G N 40 sc) (isTupE tg) iter, cSs G N mv sc n body with
        | some t, some it, some y => some (.for t it y)
        | _, _, _ => none
      | _ => none), cSs G N mv sc n rest with
    | some s, some ss => some (s :: ss)
    | _, _ => none

/-! ### what they do -/
theorem AftO.grow {K : PySem.W.Frag} {ι ι' : Ix} {H H' : Hp} {D : Ends} {o : Out} {μ : Sto} (a : AftO K ι H D o μ) (g : Grow K ι H ι' H') : AftO K ι' H' D o μ := by
  cases o with
  | nx ρ => exact fun ι2 σ2 H2 g2 s2 e2 => a ι2 σ2 H2 (g.trans g2) s2 e2
  | rt d => exact Aft.grow a g
  | bk ρ => exact fun ι2 σ2 H2 g2 s2 e2 => a ι2 σ2 H2 (g.trans g2) s2 e2
  | ct ρ => exact fun ι2 σ2 H2 g2 s2 e2 => a ι2 σ2 H2 (g.trans g2) s2 e2
section
variable {K : PySem.W.Frag} {D : Ends} {σ : L2.St} {H : Hp}
theorem TO.of {f : Loc → Sto → Res Out} (h : ∃ ι ρ μ o μ', EnvOk K H ι ρ σ ∧ StOk K H ι μ ∧ f ρ μ = .ok o μ' ∧ AftO K ι H D o μ') : TO K f D σ H := h
theorem TO.to {f : Loc → Sto → Res Out} (h : TO K f D σ H) : ∃ ι ρ μ o μ', EnvOk K H ι ρ σ ∧ StOk K H ι μ ∧ f ρ μ = .ok o μ' ∧ AftO K ι H D o μ' := h
theorem TO.one {f : Loc → Sto → Res Ev.D} {g : Ev.D → Loc → Sto → Res Out} {R : VK} (h : TO K (fun ρ μ => (f ρ μ).bind fun x μ => g x ρ μ) D σ H)
    (hR : ∀ ι H ρ μ x u o μ', EnvOk K H ι ρ σ → StOk K H ι μ → Rel K H ι x u → g x ρ μ = .ok o μ' → AftO K ι H D o μ' → R u H) : TV K f σ H R := by
  obtain ⟨ι, ρ, μ, o, μ', he, hs, hf, ha⟩ := h.to
  obtain ⟨x, μ1, h1, hk⟩ := Res.bind_ok hf
  exact ⟨ι, ρ, μ, x, μ1, he, hs, h1, fun ι1 H1 u g1 s1 r1 => hR ι1 H1 ρ μ1 x u o μ' (he.grow g1) s1 r1 hk (ha.grow g1)⟩
theorem AftO.nx {ι : Ix} {ρ' : Loc} {μ : Sto} {σ' : L2.St} (a : AftO K ι H D (.nx ρ') μ) (s : StOk K H ι μ) (e : EnvOk K H ι ρ' σ') : D.nx σ' H := a ι σ' H Grow.refl s e
end
section
variable {X : Cx} {G : Cfg} {N : List Str} {c : Call} {kw : Kwp} {k : Nat} {pos : Pos}
/-- the place of a def's own statements -/
structure SOk (X : Cx) : Prop where
  fn : ∀ x, X.fn x = true
  kind : X.env.scope.kind = .function
  pass : PassesOwn (model X.prog X.w) X.A X.env X.xe
theorem name_at {sc : Scope} {x : Str} {p : Pos} {i : Nat} (hX : XOk G N c kw k X) (hs : X.env.scope = sc) (h : nameIx N sc (.Name x p) = some i) : X.N[i]? = some x ∧ L2.Loc X.env.scope x := by
  obtain ⟨h1, h2⟩ := nameIx_kind h
  subst hs
  exact ⟨by rw [hX.eN]; exact idxOf_get h2, h1⟩
theorem swaps_no {e : Expr} (h : isLcE e = false) (t : Option Expr) (l : Nat) (env : Env) : swapsWith e t l env = pure false := by
  cases e <;> first | rfl | cases h
theorem set_read {i : Nat} {y : E} {D : Ends} {σ : L2.St} {H : Hp} (h : TO X.K (fun ρ μ => ex c kw (.set i y) ρ μ) D σ H) : tAsg (TV X.K (ev c kw y)) (gName i) D σ H := by
  simp only [ex] at h
  refine TO.one (f := fun ρ μ => ev c kw y ρ μ) (g := fun x ρ μ => .ok (.nx (ρ.set i (some x))) μ) h fun ι H ρ μ x u o μ' e s r hk ha => ?_
  cases hk
  exact ha.nx s (e.set r)
theorem setL_read {i : Nat} {y : E} {D : Ends} {σ : L2.St} {H : Hp} (h : TO X.K (fun ρ μ => ex c kw (.setL i y) ρ μ) D σ H) : tAsg (TV X.K (pushF (ev c kw y))) (gName i) D σ H := by
  simp only [ex] at h
  refine TO.one (f := pushF (ev c kw y)) (g := fun x ρ μ => .ok (.nx (ρ.set i (some x))) μ) h fun ι H ρ μ x u o μ' e s r hk ha => ?_
  cases hk
  exact ha.nx s (e.set r)
theorem ps_exprE {e : Expr} {y : E} (hl : isLcE e = false) (h : PE X e (TV X.K (ev c kw y))) : PS X (.Expr e pos) (TO X.K fun ρ μ => ex c kw (.expr y) ρ μ) := by
  refine psImp (ps_expr h (swaps_no hl _ _ _)) fun D σ H h => ?_
  simp only [ex] at h
  refine TO.one (f := fun ρ μ => ev c kw y ρ μ) (g := fun x ρ μ => .ok (.nx ρ) μ) h fun ι H ρ μ x u o μ' e s r hk ha => ?_
  cases hk
  exact ha.nx s e
theorem ps_retE {e : Expr} {y : E} (h : PE X e (TV X.K (ev c kw y))) : PS X (.Return (some e) pos) (TO X.K fun ρ μ => ex c kw (.ret y) ρ μ) := by
  refine psImp (ps_ret h) fun D σ H h => ?_
  simp only [ex] at h
  refine TO.one (f := fun ρ μ => ev c kw y ρ μ) (g := fun x ρ μ => .ok (.rt x) μ) h fun ι H ρ μ x u o μ' e s r hk ha => ?_
  cases hk
  exact ha ι H u Grow.refl s r
theorem ps_retNE : PS X (.Return none pos) (TO X.K fun ρ μ => ex c kw (.ret .non) ρ μ) := by
  refine psImp ps_retN fun D σ H h => ?_
  obtain ⟨ι, ρ, μ, o, μ', he, hs, hf, ha⟩ := h.to
  simp only [ex, ev, Res.bind] at hf
  cases hf
  exact ha ι H .non Grow.refl hs .non
theorem pass_read {D : Ends} {σ : L2.St} {H : Hp} (h : TO X.K (fun ρ μ => ex c kw .pass ρ μ) D σ H) : D.nx σ H := by
  obtain ⟨ι, ρ, μ, o, μ', he, hs, hf, ha⟩ := h.to
  simp only [ex] at hf
  cases hf
  exact ha.nx hs he
theorem ps_unpE {es : List Expr} {kt pt} {e : Expr} {is : List Nat} {y : E} (hw : swappedStores [.Tuple es kt pt] e X.env = pure none) (hl : isLcE e = false) (hg : PG X (.Tuple es kt pt) (gOf X.K (.tp is))) (h : PE X e (TV X.K (ev c kw y))) :
    PS X (.Assign [.Tuple es kt pt] e pos) (TO X.K fun ρ μ => ex c kw (.unp is y) ρ μ) := by
  refine psImp (ps_asg h hg (show swapsWith e (some (.Tuple es kt pt)) pos.line X.env = pure false from swaps_no hl _ _ _) hw) fun D σ H h => ?_
  simp only [ex] at h
  refine TO.one (f := fun ρ μ => ev c kw y ρ μ) (g := fun x ρ μ => match bindT (.tp is) x μ ρ with
    | some ρ' => .ok (.nx ρ') μ
    | none => .bad) h fun ι H ρ μ x u o μ' e s r hk ha => ?_
  split at hk
  · rename_i ρ' hb
    cases hk
    exact gOf_run (t := .tp is) hb e r fun σ1 e1 _ => ha.nx s e1
  · cases hk
theorem ps_ssetE {o i e : Expr} {p : Pos} {x y z : E} (hs : isSliceE i = false) (ho : PE X o (TV X.K (ev c kw x))) (hi : PE X i (TV X.K (ev c kw y))) (h : PE X e (TV X.K (ev c kw z))) : PS X (.Assign [.Subscript o i p] e pos) (TO X.K fun ρ μ => ex c kw (.sset x y z) ρ μ) := by
  refine psImp (ps_asg h (pg_sub ho hi set_list (by cases i <;> first | (intro _; rfl) | cases hs)) (by cases e <;> rfl) (by rfl)) fun D σ H h => ?_
  obtain ⟨ι, ρ, μ, o, μ', he, hst, hf, ha⟩ := h.to
  simp only [ex] at hf
  obtain ⟨zv, μ1, h1, hf1⟩ := Res.bind_ok hf
  obtain ⟨xv, μ2, h2, hf2⟩ := Res.bind_ok hf1
  obtain ⟨yv, μ3, h3, hf3⟩ := Res.bind_ok hf2
  clear hf hf1 hf2
  refine ⟨ι, ρ, μ, zv, μ1, he, hst, h1, fun ι1 H1 u g1 s1 r1 => ⟨ι1, ρ, μ1, xv, μ2, he.grow g1, s1, h2, fun ι2 H2 v g2 s2 r2 => ⟨ι2, ρ, μ2, yv, μ3, (he.grow g1).grow g2, s2, h3, fun ι3 H3 w g3 s3 r3 => ?_⟩⟩⟩
  cases xv with
  | loc a =>
    cases yv with
    | int j =>
      simp only [ssetop] at hf3
      cases hl : μ3[a]? with
      | none => rw [hl] at hf3; cases hf3
      | some m =>
        rw [hl] at hf3
        cases m with
        | dic l => cases hf3
        | lst l =>
          simp only at hf3
          cases hj : ixn l.length j with
          | none => rw [hj] at hf3; cases hf3
          | some q =>
            rw [hj] at hf3
            cases hf3
            have r2' := r2.grow g3
            cases r2' with
            | loc hp =>
              cases r3
              obtain ⟨xs, e1, e2⟩ := s3.lst hl hp
              have r1' := (r1.grow g2).grow g3
              have gu : Grow X.K ι3 H3 ι3 (upd H3 _ (.lst (xs.set q u))) := Grow.up s3 hp e1 trivial
              refine ⟨_, xs, j, q, rfl, rfl, e1, by rw [← e2.length, ← ixn_eq]; exact hj, ?_⟩
              exact ha ι3 σ _ (((g1.trans g2).trans g3).trans gu) (s3.put (m' := .lst (l.set q zv)) hl hp ⟨_, upd_same, (e2.set q r1').grow gu⟩) ((((he.grow g1).grow g2).grow g3).grow gu)
    | _ => simp [ssetop] at hf3
  | _ => cases yv <;> simp [ssetop] at hf3
theorem ps_ifE {d : Expr} {a b : List Stmt} {x : E} {y z : List S} (hd : PT X d (TB X.K (ev c kw x))) (ha : PSs X a (TO X.K fun ρ μ => exs c kw y ρ μ)) (hb : PSs X b (TO X.K fun ρ μ => exs c kw z ρ μ)) : PS X (.If d a b pos) (TO X.K fun ρ μ => ex c kw (.iff x y z) ρ μ) := by
  refine psImp (ps_if hd ha hb) fun D σ H h => ?_
  obtain ⟨ι, ρ, μ, o, μ', he, hst, hf, hq⟩ := h.to
  simp only [ex] at hf
  obtain ⟨v, μ1, h1, hf1⟩ := Res.bind_ok hf
  cases v with
  | bl v =>
    refine ⟨ι, ρ, μ, v, μ1, he, hst, h1, fun ι1 H1 g1 s1 => ?_⟩
    cases v with
    | true => exact TO.of ⟨ι1, ρ, μ1, o, μ', he.grow g1, s1, hf1, hq.grow g1⟩
    | false => exact TO.of ⟨ι1, ρ, μ1, o, μ', he.grow g1, s1, hf1, hq.grow g1⟩
  | _ => cases hf1
theorem ps_whileE {d : Expr} {body : List Stmt} {x : E} {y : List S} (hp : PassesOwn (model X.prog X.w) X.A X.env X.xe) (hd : PT X d (TB X.K (ev c kw x))) (hb : PSs X body (TO X.K fun ρ μ => exs c kw y ρ μ)) : PS X (.While d body [] pos) (TO X.K fun ρ μ => ex c kw (.while x y) ρ μ) := by
  refine psImp (ps_while hp hd hb) fun D σ H h => ?_
  obtain ⟨ι, ρ, μ, o, μ', he, hst, hf, hq⟩ := h.to
  simp only [ex] at hf
  refine ⟨fun m σ H => ∃ ι ρ μ, EnvOk X.K H ι ρ σ ∧ StOk X.K H ι μ ∧ whN (fun ρ μ => ev c kw x ρ μ) (fun ρ μ => exs c kw y ρ μ) m ρ μ = .ok o μ' ∧ AftO X.K ι H D o μ', ⟨1000000, ι, ρ, μ, he, hst, hf, hq⟩, ?_⟩
  rintro m σ1 H1 ⟨ι1, ρ1, μ1, e1, s1, f1, q1⟩
  cases m with
  | zero => cases f1
  | succ m =>
    simp only [whN] at f1
    obtain ⟨v, μ2, h2, f2⟩ := Res.bind_ok f1
    cases v with
    | bl v =>
      refine ⟨ι1, ρ1, μ1, v, μ2, e1, s1, h2, fun ι2 H2 g2 s2 => ?_⟩
      cases v with
      | false =>
        rw [if_neg Bool.false_ne_true]
        cases f2
        exact (q1.grow g2).nx s2 (e1.grow g2)
      | true =>
        rw [if_pos rfl]
        simp only at f2
        obtain ⟨w, μ3, h3, f3⟩ := Res.bind_ok f2
        refine ⟨_, fun σ' H' hn => ⟨m, Nat.lt_succ_self m, hn⟩, TO.of ⟨ι2, ρ1, μ2, w, μ3, e1.grow g2, s2, h3, ?_⟩⟩
        cases w with
        | nx ρ3 => exact fun ι4 σ4 H4 g4 s4 e4 => ⟨ι4, ρ3, μ3, e4, s4, f3, (q1.grow g2).grow g4⟩
        | rt dv => cases f3; exact q1.grow g2
        | bk ρ3 => cases f3; exact fun ι4 σ4 H4 g4 s4 e4 => ((q1.grow g2).grow g4).nx s4 e4
        | ct ρ3 => exact fun ι4 σ4 H4 g4 s4 e4 => ⟨ι4, ρ3, μ3, e4, s4, f3, (q1.grow g2).grow g4⟩
    | _ => cases f2
theorem ps_forE {tg iter : Expr} {body : List Stmt} {t : Tg} {it : It} {y : List S} (hp : PassesOwn (model X.prog X.w) X.A X.env X.xe) (hc : X.calm = true) (hi : PI X tg iter (TSrc X.K (evIt c kw it))) (hg : PG X tg (gOf X.K t)) (hfold : ∀ x, foldedSetIterable iter X.env x = pure x)
    (hb : PSs X body (TO X.K fun ρ μ => exs c kw y ρ μ)) : PS X (.For tg iter body [] pos) (TO X.K fun ρ μ => ex c kw (.for t it y) ρ μ) := by
  refine psImp (ps_for hp hc hi hg hb hfold) fun D σ H h => ?_
  obtain ⟨ι, ρ, μ, o, μ', he, hst, hf, hq⟩ := h.to
  simp only [ex] at hf
  obtain ⟨src, μ1, h1, hf1⟩ := Res.bind_ok hf
  refine ⟨ι, ρ, μ, src, μ1, he, hst, h1, fun ι0 H0 J g0 s0 so => ?_⟩
  refine ⟨fun i m σ H => ∃ ι ρ μ, Grow X.K ι0 H0 ι H ∧ EnvOk X.K H ι ρ σ ∧ StOk X.K H ι μ ∧ forN src t (fun ρ μ => exs c kw y ρ μ) m i ρ μ = .ok o μ' ∧ AftO X.K ι H D o μ', ⟨src.fuel, ι0, ρ, μ1, Grow.refl, he.grow g0, s0, hf1, hq.grow g0⟩, ?_⟩
  rintro i m σ1 H1 ⟨ι1, ρ1, μ2, gg, e1, s1, f1, q1⟩
  cases m with
  | zero => cases f1
  | succ m =>
    simp only [forN] at f1
    split at f1
    · cases f1
    · rename_i hat
      cases f1
      exact .inl ⟨so.stops ι1 H1 _ i gg.ext s1 hat, q1.nx s1 e1⟩
    · rename_i xv hat
      obtain ⟨go, yl⟩ := so.goes ι1 H1 μ2 i xv gg.ext s1 hat
      refine .inr ⟨go, _, fun σ' H' hn => ⟨m, Nat.lt_succ_self m, hn⟩, fun yv H3 hy => ?_⟩
      obtain ⟨g3, s3, r3⟩ := yl yv H3 hy
      split at f1
      · cases f1
      · rename_i ρ3 hbd
        refine gOf_run hbd (e1.grow g3) r3 fun σ4 e4 _ => ?_
        obtain ⟨w, μ5, h5, f5⟩ := Res.bind_ok f1
        refine TO.of ⟨ι1, ρ3, μ2, w, μ5, e4, s3, h5, ?_⟩
        cases w with
        | nx ρ6 => exact fun ι7 σ7 H7 g7 s7 e7 => ⟨ι7, ρ6, μ5, (gg.trans g3).trans g7, e7, s7, f5, (q1.grow g3).grow g7⟩
        | rt dv => cases f5; exact q1.grow g3
        | bk ρ6 => cases f5; exact fun ι7 σ7 H7 g7 s7 e7 => ((q1.grow g3).grow g7).nx s7 e7
        | ct ρ6 => exact fun ι7 σ7 H7 g7 s7 e7 => ⟨ι7, ρ6, μ5, (gg.trans g3).trans g7, e7, s7, f5, (q1.grow g3).grow g7⟩
theorem pss_nilE : PSs X [] (TO X.K fun ρ μ => exs c kw [] ρ μ) := pssImp pss_nil fun D σ H h => by
  obtain ⟨ι, ρ, μ, o, μ', he, hst, hf, hq⟩ := h.to
  simp only [exs] at hf
  cases hf
  exact hq.nx hst he
theorem pss_consE {st : Stmt} {rest : List Stmt} {s : S} {ss : List S} (h1 : PS X st (TO X.K fun ρ μ => ex c kw s ρ μ)) (h2 : PSs X rest (TO X.K fun ρ μ => exs c kw ss ρ μ)) : PSs X (st :: rest) (TO X.K fun ρ μ => exs c kw (s :: ss) ρ μ) := by
  refine pssImp (pss_cons h1 h2) fun D σ H h => ?_
  obtain ⟨ι, ρ, μ, o, μ', he, hst, hf, hq⟩ := h.to
  simp only [exs] at hf
  obtain ⟨w, μ1, h1', hf1⟩ := Res.bind_ok hf
  refine TO.of ⟨ι, ρ, μ, w, μ1, he, hst, h1', ?_⟩
  cases w with
  | nx ρ1 => exact fun ι2 σ2 H2 g2 s2 e2 => TO.of ⟨ι2, ρ1, μ1, o, μ', e2, s2, hf1, hq.grow g2⟩
  | rt d => cases hf1; exact hq
  | bk ρ => cases hf1; exact hq
  | ct ρ => cases hf1; exact hq
end
end Ev

namespace Ev
open PySem PySem.Spec L2
section
variable {X : Cx} {G : Cfg} {N : List Str} {c : Call} {kw : Kwp} {k : Nat}
theorem tg_own {sc : Scope} (hX : XOk G N c kw k X) (hS : SOk X) (hs : X.env.scope = sc) {tg : Expr} {t : Tg} (h : cT N sc tg = some t) : PG X tg (gOf X.K t) := by
  refine pg_ev (sc := sc) hX.calm hX.eN hX.nd (fun x i hx => ?_) h
  subst hs
  exact ⟨(nameIx_kind hx).1, .inl (hS.fn x)⟩
theorem par2_ok {sc : Scope} {x y : Str} {px py pt pt2 : Pos} {kt k2} {a b : Expr} (hS : SOk X) (hs : X.env.scope = sc) (h : par2 sc x y px py a b = true) :
    X.env.scope.names.lookup x = some .local ∧ X.env.scope.names.lookup y = some .local ∧ x ≠ y ∧ isStar a = false ∧ isStar b = false ∧
      swappedStores [.Tuple [.Name x px, .Name y py] kt pt] (.Tuple [a, b] k2 pt2) X.env = pure (some [x, y]) := by
  subst hs
  unfold par2 at h
  simp only [Bool.and_eq_true, decide_eq_true_eq, Bool.not_eq_true', beq_eq_false_iff_ne] at h
  obtain ⟨⟨⟨⟨⟨⟨⟨hx, hy⟩, hl⟩, hne⟩, sa⟩, sb⟩, hf⟩, hca⟩ := h
  refine ⟨hx, hy, hne, sa, sb, ?_⟩
  have kx : X.env.kindOf x = some .local := hx
  have ky : X.env.kindOf y = some .local := hy
  have hb : X.env.blockKind = .function := by unfold Env.blockKind; rw [hS.kind]; rfl
  have st : ∀ f : Expr → Bool, (∀ e, isStar e = false → f e = false) → [a, b].any f = false := fun f hf' => by simp [hf' a sa, hf' b sb]
  unfold swappedStores
  have hff : [a, b].all (foldedForSure 8) = false := by simp only [List.all_cons, List.all_nil, Bool.and_true]; exact hf
  have hcc : [a, b].all (constantsAlone 8) = false := by simp only [List.all_cons, List.all_nil, Bool.and_true]; exact hca
  have hde : ([x, y] : List Str).eraseDups.length = 2 := by
    have : (y == x) = false := beq_eq_false_iff_ne.mpr (Ne.symm hne)
    simp [List.eraseDups_cons, this]
  have hde2 : (([x, y] : List Str).eraseDups.length != ([x, y] : List Str).length) = false := by rw [hde]; rfl
  simp only [List.filterMap_cons, List.filterMap_nil, kx, ky, List.head?_cons, Option.map_some, Option.getD_some, Expr.pos, hl, beq_self_eq_true, Bool.and_self, if_true, hff, hcc, hde2, hb]
  rw [st]
  · rfl
  · intro e h; cases e <;> first | rfl | cases h
theorem par3_ok {sc : Scope} {x y z : Str} {px py pz pt pt2 : Pos} {kt k2} {a b d : Expr} (hS : SOk X) (hs : X.env.scope = sc) (h : par3 sc x y z px py pz a b d = true) :
    X.env.scope.names.lookup x = some .local ∧ X.env.scope.names.lookup y = some .local ∧ X.env.scope.names.lookup z = some .local ∧ x ≠ y ∧ x ≠ z ∧ y ≠ z ∧ isStar a = false ∧ isStar b = false ∧ isStar d = false ∧
      swappedStores [.Tuple [.Name x px, .Name y py, .Name z pz] kt pt] (.Tuple [a, b, d] k2 pt2) X.env = pure (some [x, y, z]) := by
  subst hs
  unfold par3 at h
  simp only [Bool.and_eq_true, decide_eq_true_eq, Bool.not_eq_true', beq_eq_false_iff_ne] at h
  obtain ⟨⟨⟨⟨⟨⟨⟨⟨⟨⟨⟨⟨hx, hy⟩, hz⟩, hl⟩, hl2⟩, n1⟩, n2⟩, n3⟩, sa⟩, sb⟩, sd⟩, hf⟩, hca⟩ := h
  refine ⟨hx, hy, hz, n1, n2, n3, sa, sb, sd, ?_⟩
  have kx : X.env.kindOf x = some .local := hx
  have ky : X.env.kindOf y = some .local := hy
  have kz : X.env.kindOf z = some .local := hz
  have hb : X.env.blockKind = .function := by unfold Env.blockKind; rw [hS.kind]; rfl
  have st : ∀ f : Expr → Bool, (∀ e, isStar e = false → f e = false) → [a, b, d].any f = false := fun f hf' => by simp [hf' a sa, hf' b sb, hf' d sd]
  unfold swappedStores
  have hde : ([x, y, z] : List Str).eraseDups.length = 3 := by
    have e1 : (y == x) = false := beq_eq_false_iff_ne.mpr (Ne.symm n1)
    have e2 : (z == x) = false := beq_eq_false_iff_ne.mpr (Ne.symm n2)
    have e3 : (z == y) = false := beq_eq_false_iff_ne.mpr (Ne.symm n3)
    simp [List.eraseDups_cons, e1, e2, e3]
  have hde2 : (([x, y, z] : List Str).eraseDups.length != ([x, y, z] : List Str).length) = false := by rw [hde]; rfl
  simp only [List.filterMap_cons, List.filterMap_nil, kx, ky, kz, List.head?_cons, Option.map_some, Option.getD_some, Expr.pos, hl, hl2, beq_self_eq_true, Bool.and_self, if_true, hf, hca, hde2, hb]
  rw [st]
  · rfl
  · intro e h; cases e <;> first | rfl | cases h
theorem fold2_ok {x y : Str} {px py pt pt2 : Pos} {kt k2} {a b : Expr} {env : Env} (h : fold2 a b = true) : swappedStores [.Tuple [.Name x px, .Name y py] kt pt] (.Tuple [a, b] k2 pt2) env = pure none := by
  unfold fold2 at h
  simp only [Bool.and_eq_true, Bool.not_eq_true'] at h
  obtain ⟨⟨⟨fa, fb⟩, sa⟩, sb⟩ := h
  have hff : [a, b].all (foldedForSure 8) = true := by simp only [List.all_cons, List.all_nil, Bool.and_true, fa, fb, Bool.and_self]
  unfold swappedStores
  simp only [hff, if_true]
  split
  · rfl
  · split
    · rfl
    · split
      · rfl
      · rfl
theorem lc_parts {n : Nat} {sc scope : Scope} {elt : Expr} {g0 : Comprehension} {pos : Pos} {e' : E} {mv : List Str} {x : Str} (hX : XOk G N c kw k X) (hs : X.env.scope = sc) (h : cE G N (n + 1) sc (.ListComp elt [g0] scope pos) = some e') :
    ∃ tg iter ifs own t sf test eltf, g0 = ⟨tg, iter, ifs, 0⟩ ∧ LcOk X N scope own tg iter ifs elt t sf test eltf ∧ ev c kw (asM mv x e') = lcF sf t (own.map (·.2)) test eltf := by
  have no : ∀ {P : Prop}, none = some e' → P := fun h => by cases h
  have ihp : ∀ {e : Expr} {e' : E}, cE G N n sc e = some e' → PE X e (TV X.K (ev c kw e')) := fun h => (sound n hX hs h).pe
  obtain ⟨tg, iter, ifs, a⟩ := g0
  simp only [cE] at h
  split at h
  · exact no h
  · rename_i ha
    have ha : a = 0 := by simpa using ha
    subst ha
    split at h
    · exact no h
    · rename_i own hown
      split at h
      · exact no h
      · rename_i hb
        have hb : blkC N sc scope own = true := by simpa using hb
        split at h
        · rename_i t it y ht hit hy
          split at h
          · cases h
            by_cases hm : mv.contains x = true
            · have L := lc_ok (elt := elt) (ifs := []) (test := fun _ μ => .ok (.bl true) μ) (eltf := ev c kw (toM y)) hX hs (fun a b h => ihp h) hown hb ht hit (fun Y hY hK hS => by rw [← hK]; exact (sound n hY hS hy).pm) (fun Y hY hK hS => by rw [← hK]; exact pts_nilE)
              refine ⟨_, _, _, _, _, _, _, _, rfl, L, ?_⟩
              rw [show asM mv x (.lc (own.map (·.2)) t it y) = .lc (own.map (·.2)) t it (toM y) from if_pos hm]
              funext ρ μ
              simp only [ev]
              rfl
            · have L := lc_ok (elt := elt) (ifs := []) (test := fun _ μ => .ok (.bl true) μ) (eltf := ev c kw y) hX hs (fun a b h => ihp h) hown hb ht hit (fun Y hY hK hS => by rw [← hK]; exact (sound n hY hS hy).pe) (fun Y hY hK hS => by rw [← hK]; exact pts_nilE)
              refine ⟨_, _, _, _, _, _, _, _, rfl, L, ?_⟩
              rw [show asM mv x (.lc (own.map (·.2)) t it y) = .lc (own.map (·.2)) t it y from if_neg hm]
              funext ρ μ
              simp only [ev]
              rfl
          · rename_i cnd
            obtain ⟨z, hz, rfl⟩ := map_some' h
            have L := lc_ok (elt := elt) (ifs := [cnd]) (test := ev c kw z) (eltf := ev c kw y) hX hs (fun a b h => ihp h) hown hb ht hit (fun Y hY hK hS => by rw [← hK]; exact (sound n hY hS hy).pe) (fun Y hY hK hS => by rw [← hK]; exact pts_one (sound n hY hS hz).pt)
            refine ⟨_, _, _, _, _, _, _, _, rfl, L, ?_⟩
            rw [show asM mv x (.lcIf (own.map (·.2)) t it z y) = .lcIf (own.map (·.2)) t it z y by unfold asM; split <;> rfl]
            funext ρ μ
            simp only [ev]
            rfl
          · exact no h
        · exact no h
theorem lcN_parts {n : Nat} {sc scope : Scope} {elt : Expr} {g0 g1 : Comprehension} {gs : List Comprehension} {pos : Pos} {e' : E} (h : cE G N (n + 1) sc (.ListComp elt (g0 :: g1 :: gs) scope pos) = some e') :
    ∃ n', cComp G N sc (cE G N n sc) (cE G N n (relS scope sc)) scope elt (g0 :: g1 :: gs) = some n' ∧ e' = .lcN n' := by
  simp only [cE] at h
  obtain ⟨n', h1, h2⟩ := map_some' h
  exact ⟨n', h1, h2⟩
theorem soundS {mv : List Str} (hX : XOk G N c kw k X) (hS : SOk X) {sc : Scope} (hs : X.env.scope = sc) : ∀ (n : Nat) {sts : List Stmt} {ss : List S}, cSs G N mv sc n sts = some ss → PSs X sts (TO X.K fun ρ μ => exs c kw ss ρ μ) := by
  intro n
  induction n with
  | zero => intro sts ss h; cases h
  | succ n ih =>
    intro sts ss h
    cases sts with
    | nil => cases h; exact pss_nilE
    | cons st rest =>
      have ihp : ∀ {e : Expr} {e' : E}, cE G N 40 sc e = some e' → PE X e (TV X.K (ev c kw e')) := fun h => (sound 40 hX hs h).pe
      have iht : ∀ {e : Expr} {e' : E}, cE G N 40 sc e = some e' → PT X e (TB X.K (ev c kw e')) := fun h => (sound 40 hX hs h).pt
      have itt : ∀ {e : Expr} {e' : E}, cTst G N sc e = some e' → PT X e (TB X.K (ev c kw e')) := fun {e e'} h => by
        unfold cTst at h
        split at h
        · rename_i hnm
          obtain ⟨x, hx, rfl⟩ := map_some' h
          exact pt_truE (sound 40 hX hs hx).pe (by cases e <;> first | (intro _; rfl) | cases hnm)
        · exact iht h
      have ihm : ∀ {e : Expr} {e' : E} (x : Str), cE G N 40 sc e = some e' → PE X e (TV X.K (ev c kw (asM mv x e'))) := fun {e e'} x h => by
        unfold asM
        split
        · exact (sound 40 hX hs h).pm
        · exact (sound 40 hX hs h).pe
      have hN : X.N.Nodup := by rw [hX.eN]; exact hX.nd
      simp only [cSs] at h
      split at h
      · rename_i s ss' h1 h2
        cases h
        refine pssImp (pss_consE (s := s) (ss := ss') ?_ (ih h2)) fun D σ H h => h
        have no : ∀ {P : Prop}, none = some s → P := fun h => by cases h
        clear h2
        split at h1
        · -- x = e
          rename_i x p e pos
          split at h1
          · rename_i i y hi hy
            obtain ⟨q1, q2⟩ := name_at hX hs hi
            split at h1
            · rename_i hlc
              split at h1
              · rename_i elt gs sc' pos'
                split at h1
                · rename_i hc
                  cases h1
                  simp only [Bool.and_eq_true, decide_eq_true_eq, Bool.not_eq_true'] at hc
                  obtain ⟨⟨hx, hl⟩, ha⟩ := hc
                  subst hs
                  obtain ⟨tg, iter, ifs, own, t, sf, test, eltf, rfl, L, hr⟩ := lc_parts hX rfl hy
                  split
                  · refine psImp (ps_setLc L.calm L.nd q1 hx (sw_true hS.kind hx hl ha) L.it L.ok L.tgt L.tst L.elt (L.fold X.env)) fun D σ H h => ?_
                    have h := setL_read h
                    rw [hr] at h
                    exact lc_readM L.ins h
                  · refine psImp (ps_setLc L.calm L.nd q1 hx (sw_true hS.kind hx hl ha) L.it L.ok L.tgt L.tst L.elt (L.fold X.env)) fun D σ H h => ?_
                    have h := set_read h
                    rw [hr] at h
                    exact lc_read L.ins h
                · exact no h1
              · rename_i elt g0 g1 gs sc' pos'
                split at h1
                · rename_i hc
                  cases h1
                  simp only [Bool.and_eq_true, decide_eq_true_eq, Bool.not_eq_true'] at hc
                  obtain ⟨⟨hx, hl⟩, ha⟩ := hc
                  subst hs
                  obtain ⟨n', h2, rfl⟩ := lcN_parts (n := 39) hy
                  rw [show asM mv x (.lcN n') = .lcN n' by unfold asM; split <;> rfl]
                  exact psImp (compL_ps hN q1 hx (sw_true hS.kind hx hl ha) hX rfl (fun a b z => (sound 39 hX rfl z).pe) (fun Y hY hS a b z => ⟨(sound 39 hY hS z).pe, (sound 39 hY hS z).pt⟩) h2) fun D σ H h => set_read h
                · exact no h1
              · exact no h1
            · rename_i hlc
              cases h1
              exact psImp (ps_set hN q1 q2 (ihm x hy) (swaps_no (by simpa using hlc) _ _ _) (.inl (hS.fn x))) fun D σ H h => set_read h
          · exact no h1
        · rename_i es kt pt vs k2 pt2 pos
          split at h1
          · rename_i x px y py a b
            split at h1
            · rename_i i j u v hi hj hu hv
              obtain ⟨q1, q2⟩ := name_at hX hs hi
              obtain ⟨q3, q4⟩ := name_at hX hs hj
              split at h1
              · rename_i hp
                cases h1
                obtain ⟨lx, ly, hne, sa, sb, hw⟩ := par2_ok (pt := pt) (pt2 := pt2) (kt := kt) (k2 := k2) hS hs hp
                have hij : i ≠ j := fun e => by subst e; rw [q1] at q3; exact hne (Option.some.inj q3)
                have hPA : PA X [a, b] (TL X.K (evs c kw [asM mv x u, asM mv y v])) := pa_ev (by simp [sa, sb]) (.cons (ihm x hu) (.cons (ihm y hv) .nil))
                refine psImp (ps_par hX.calm hN q1 q3 hij lx ly hPA hw) fun D σ H h => ?_
                obtain ⟨ι, ρ, μ, o, μ', he, hst, hf, hq⟩ := h.to
                simp only [ex] at hf
                obtain ⟨xv, μ1, h1, hf1⟩ := Res.bind_ok hf
                obtain ⟨yv, μ2, h2, hf2⟩ := Res.bind_ok hf1
                cases hf2
                refine ⟨ι, ρ, μ, [xv, yv], μ', he, hst, by simp only [evs, h1, h2, Res.bind], fun ι1 H1 us g1 s1 r1 => ?_⟩
                cases r1 with
                | cons ra rb =>
                  cases rb with
                  | cons rb rc =>
                    cases rc
                    exact ⟨_, _, rfl, hq ι1 _ H1 g1 s1 (((he.grow g1).set ra).set rb)⟩
              · split at h1
                · rename_i hf
                  cases h1
                  have hg := tg_own hX hS hs (tg := .Tuple [.Name x px, .Name y py] kt pt) (t := .tp [i, j]) (by simp only [cT, omap, hi, hj, Option.map_some])
                  have hsa : [a, b].any isStar = false := by
                    unfold fold2 at hf
                    simp only [Bool.and_eq_true, Bool.not_eq_true'] at hf
                    simp [hf.1.2, hf.2]
                  exact ps_unpE (fold2_ok hf) rfl hg (pe_tupE (pa_ev hsa (.cons (ihm x hu) (.cons (ihm y hv) .nil))))
                · exact no h1
            · exact no h1
          · rename_i x px y py z pz a b d
            split at h1
            · rename_i i j l u v r hi hj hl hu hv hr
              obtain ⟨q1, q2⟩ := name_at hX hs hi
              obtain ⟨q3, q4⟩ := name_at hX hs hj
              obtain ⟨q5, q6⟩ := name_at hX hs hl
              split at h1
              · rename_i hp
                cases h1
                obtain ⟨lx, ly, lz, n1, n2, n3, sa, sb, sd, hw⟩ := par3_ok (pt := pt) (pt2 := pt2) (kt := kt) (k2 := k2) hS hs hp
                have hij : i ≠ j := fun e => by subst e; rw [q1] at q3; exact n1 (Option.some.inj q3)
                have hil : i ≠ l := fun e => by subst e; rw [q1] at q5; exact n2 (Option.some.inj q5)
                have hjl : j ≠ l := fun e => by subst e; rw [q3] at q5; exact n3 (Option.some.inj q5)
                have hPA : PA X [a, b, d] (TL X.K (evs c kw [asM mv x u, asM mv y v, asM mv z r])) := pa_ev (by simp [sa, sb, sd]) (.cons (ihm x hu) (.cons (ihm y hv) (.cons (ihm z hr) .nil)))
                refine psImp (ps_par3 hX.calm hN q1 q3 q5 hij hil hjl lx ly lz hPA hw) fun D σ H h => ?_
                obtain ⟨ι, ρ, μ, o, μ', he, hst, hf, hq⟩ := h.to
                simp only [ex] at hf
                obtain ⟨xv, μ1, h1, hf1⟩ := Res.bind_ok hf
                obtain ⟨yv, μ2, h2, hf2⟩ := Res.bind_ok hf1
                obtain ⟨zv, μ3, h3, hf3⟩ := Res.bind_ok hf2
                cases hf3
                refine ⟨ι, ρ, μ, [xv, yv, zv], μ', he, hst, by simp only [evs, h1, h2, h3, Res.bind], fun ι1 H1 us g1 s1 r1 => ?_⟩
                cases r1 with
                | cons ra r1 =>
                  cases r1 with
                  | cons rb r1 =>
                    cases r1 with
                    | cons rc r1 =>
                      cases r1
                      exact ⟨_, _, _, rfl, hq ι1 _ H1 g1 s1 ((((he.grow g1).set ra).set rb).set rc)⟩
              · exact no h1
            · exact no h1
          · exact no h1
        · rename_i es kt pt e pos _
          split at h1
          · exact no h1
          · rename_i ht
            split at h1
            · rename_i is y hi hy
              cases h1
              have hg := tg_own hX hS hs (tg := .Tuple es kt pt) hi
              rw [Bool.or_eq_true, not_or] at ht
              exact ps_unpE (by cases e <;> first | rfl | exact absurd rfl ht.1) (by simpa using ht.2) hg (ihp hy)
            · exact no h1
        · rename_i o i p e pos
          split at h1
          · exact no h1
          · rename_i hsl
            split at h1
            · rename_i x y z hx hy hz
              cases h1
              exact ps_ssetE (by simpa using hsl) (ihp hx) (ihp hy) (ihp hz)
            · exact no h1
        · rename_i e pos
          split at h1
          · cases h1
            exact psImp ps_doc fun D σ H h => pass_read h
          · split at h1
            · exact no h1
            · rename_i hl
              obtain ⟨y, hy, rfl⟩ := map_some' h1
              exact ps_exprE (by simpa using hl) (ihp hy)
        · rename_i e pos
          obtain ⟨y, hy, rfl⟩ := map_some' h1
          exact ps_retE (ihm "return" hy)
        · cases h1; exact ps_retNE
        · cases h1; exact psImp ps_pass fun D σ H h => pass_read h
        · cases h1
          refine psImp ps_break fun D σ H h => ?_
          obtain ⟨ι, ρ, μ, o, μ', he, hst, hf, hq⟩ := h.to
          simp only [ex] at hf
          cases hf
          exact hq ι σ H Grow.refl hst he
        · cases h1
          refine psImp ps_continue fun D σ H h => ?_
          obtain ⟨ι, ρ, μ, o, μ', he, hst, hf, hq⟩ := h.to
          simp only [ex] at hf
          cases hf
          exact hq ι σ H Grow.refl hst he
        · cases h1
          refine psImp ps_never fun D σ H h => ?_
          obtain ⟨ι, ρ, μ, o, μ', he, hst, hf, hq⟩ := h.to
          simp only [ex] at hf
          cases hf
        · rename_i d a b pos
          split at h1
          · rename_i x y z hx hy hz
            cases h1
            exact ps_ifE (itt hx) (ih hy) (ih hz)
          · exact no h1
        · rename_i d body pos
          split at h1
          · rename_i x y hx hy
            cases h1
            exact ps_whileE hS.pass (itt hx) (ih hy)
          · exact no h1
        · rename_i tg iter body pos
          split at h1
          · rename_i t it y ht hit hy
            cases h1
            have hI := cIter_ok (tg := tg) hX hs (fun a b h => ihp h) hit
            exact ps_forE hS.pass hX.calm hI.1 (tg_own hX hS hs ht) (fold_set hI.2 _) (ih hy)
          · exact no h1
        · exact no h1
      · cases h
end
end Ev

namespace Ev
open PySem PySem.Spec L2

/-! ### a def that hands back a tuple of its own -/
def rTupN (K : PySem.W.Frag) : List V → Hp → VK → Prop := fun xs H Q => ∃ p ys, xs = [.ref p] ∧ SqL K H p ys ∧ ∀ (o : Obj) l, H l = none → o.dict = none → Q (.ref l) (upd H l (.frz o (.tup ys)))
theorem call_tupN {X : Cx} : CallR X (.type "tuple") (rTupN X.K) := by
  intro pins s σ H xs us Q I r h
  obtain ⟨p, ys, rfl, hq, q⟩ := h
  obtain ⟨u, rfl, rx⟩ := vals1 r
  cases rx
  obtain ⟨its, r', pl, hz⟩ := I.list hq
  have hlen := r'.length
  refine call_tuple_list pl.isList (fun h' kp => ?_) (by simp only [List.size_toArray] <;> omega)
  have I1 : Inv X pins σ H { s with heap := h' } := I.kept (t' := s.toks) kp
  have I2 : Inv X pins σ (upd H h'.objs.size (.frz { cls := .type "tuple", data := .seq its.toArray } (.tup ys))) { s with heap := h'.push { cls := .type "tuple", data := .seq its.toArray } } :=
    I1.laid (t' := s.toks) (fun b o e => Heap.get?_push_of_some _ e) (Nat.le_refl _) (show ObjOk X.prog X.w _ _ _ (.frz _ (.tup ys)) from ⟨Heap.get?_push_size _ rfl, hz, its, r', PyProof.Rows.IsTup.new _ _⟩)
  exact ⟨.ref h'.objs.size, _, I2, rfl, q _ _ (I1.hok.fresh (Nat.le_refl _)) rfl⟩
def ndE : Expr → E → Bool
  | .Call (.Name x _) [e] [] _, .blt .tuple [.srtS _] => decide (x = "tuple") && !isStar e
  | _, _ => false
theorem pe_tupN {X : Cx} {G : Cfg} {N : List Str} {c : Call} {kw : Kwp} {k n : Nat} {sc : Scope} {e : Expr} {e' : E} (hX : XOk G N c kw k X) (hs : X.env.scope = sc) (h : cE G N (n + 1) sc e = some e') (hn : ndE e e' = true) : PE X e (TVN X.K (ev c kw e')) := by
  unfold ndE at hn
  split at hn
  · rename_i x p e1 q nst
    rw [Bool.and_eq_true, decide_eq_true_eq] at hn
    obtain ⟨rfl, hst⟩ := hn
    have hst : isStar e1 = false := by simpa using hst
    simp only [cE] at h
    split at h
    · rename_i e2 her
      exfalso
      obtain ⟨_, _, rfl⟩ := cErr_xop her
      cases h
    split at h
    · rename_i e2 hsp
      exfalso
      cases h
      unfold cSpec at hsp
      split at hsp
      · split at hsp
        · split at hsp
          · obtain ⟨_, _, z⟩ := map_some' hsp; cases z
          · cases hsp
        · cases hsp
      · split at hsp
        · split at hsp
          · split at hsp
            · obtain ⟨_, _, z⟩ := map_some' hsp
              split at z <;> cases z
            · cases hsp
          · split at hsp
            · split at hsp
              · obtain ⟨_, _, z⟩ := map_some' hsp; cases z
              · cases hsp
            · cases hsp
        · cases hsp
      · split at hsp
        · split at hsp
          · split at hsp
            · split at hsp
              · cases hsp
              · cases hsp
            · cases hsp
          · cases hsp
        · cases hsp
      · split at hsp
        · cases hsp
        · split at hsp
          · split at hsp
            · cases hsp
            · cases hsp
          · cases hsp
      · cases hsp
    · split at h
      · cases h
      · rename_i hodd
        rw [Bool.or_eq_true, Bool.or_eq_true, not_or, not_or] at hodd
        have ho : oddName "tuple" = false := by simpa using hodd.1.1
        have hg : Gl X "tuple" := glo_ok (by simpa using hodd.1.2) hs
        split at h
        · rename_i fid hf
          obtain ⟨_, _, z⟩ := map_some' h
          cases z
        · simp only [List.isEmpty_nil, Bool.not_true, Bool.false_eq_true, if_false] at h
          split at h
          · rename_i b as hb has
            cases h
            obtain ⟨a1, as2, h1, h2, z⟩ := omap_cons has
            cases z
            have P1 := (sound n hX hs h1).pe
            obtain ⟨i1, _, i3⟩ := oddName_ok ho
            refine peImp (pe_callTy call_tupN hg (hX.blt _ (by decide +kernel)) (by decide +kernel) (pa_cons P1 pa_nil (star1 hst)) i3 i1 (star1 hst) rfl) fun σ H Q w => ?_
            obtain ⟨ι, ρ, μ, d, μ', he, hs', hf, hq⟩ := w
            have hf' : ((evs c kw [E.srtS nst] ρ μ).bind fun xs μ => bltop .tuple xs μ) = .ok d μ' := by simpa only [ev] using hf
            obtain ⟨xs, μ1, k1, k2⟩ := Res.bind_ok hf'
            simp only [evs] at k1
            obtain ⟨xv, μ2, k3, k4⟩ := Res.bind_ok k1
            cases k4
            have k3' := k3
            simp only [ev] at k3'
            obtain ⟨acc, μ3, k5, k6⟩ := Res.bind_ok k3'
            obtain ⟨k6', rfl⟩ := ofO_ok k6
            obtain ⟨ts, k7, rfl⟩ := map_some' k6'
            cases k2
            refine ⟨ι, ρ, μ, _, _, he, hs', k3, fun ι1 H1 v g1 s1 r1 => ?_⟩
            cases r1 with
            | rol z1 z2 =>
              refine ⟨_, _, rfl, z1.sq, fun o l hl ho2 => ?_⟩
              exact hq ι1 _ _ (g1.trans (Grow.fresh hl)) (s1.fresh hl) (.tup (.inl (.inr ⟨o, upd_same⟩)) (z2.grow (Grow.fresh hl))) fun _ => ⟨_, _, _, rfl, upd_same, ho2⟩
          · cases h
  · cases hn
/-! ### the defs of a program, all at once -/
/-- what is known of a def -/
structure DefOk (K : PySem.W.Frag) (mg : Str → Option Value) (G : Cfg) (i : Nat) (fn : Fn) (x : Str) : Prop where
  ex : ∃ (f : Addr) (fd : FuncData) (N ps mv : List Str) (qual : Str) (st : Stmt), mg x = some (.ref f) ∧ PySem.W.keepIn K (.ref f) = true ∧ Fun K x qual st f fd ∧ FnScope N ps (defScope st) ∧ fn.par = ps.length ∧ fn.slots = N.length ∧ N.Nodup ∧
    cSs G N mv (defScope st) 100 (defBody st) = some fn.body ∧ (G.nds.contains i = true → ∃ e e' pos, defBody st = [.Return (some e) pos] ∧ cE G N 40 (defScope st) e = some e' ∧ fn.body = [.ret e'] ∧ fn.tr = false ∧ ndE e e' = true) ∧ Binds K fd ps [] ∧
    ∀ (np : Nat) (ks : List Str) (p : List Nat), (i, np, ks, p) ∈ G.kws → ∀ (s : Shared) (us ws : List Value), us.length = np → ws.length = ks.length → ∃ zs, perm (us ++ ws) p = some zs ∧ BindsTo s fd ⟨us, ks.zip ws⟩ (ps.zip zs)
structure TopOk (K : PySem.W.Frag) (mg : Str → Option Value) (G : Cfg) (fns : List (Nat × Fn)) : Prop where
  blt : ∀ x ∈ bltNames, mg x = none
  cns : ∀ x d, G.cns.lookup x = some d → ∃ u, mg x = some u ∧ RelV (kV (keyK d)) u
  exc : ExsOk K mg G.exs
  fn : ∀ (i : Nat) (x : Str), fidOf x G.fns = some i → ∃ fn, fns.lookup i = some fn ∧ DefOk K mg G i fn x
section
variable {P : Program} {w : World} {K : PySem.W.Frag} {mg : Str → Option Value} {base : Heap} {G : Cfg} {kw : Kwp} {fns : List (Nat × Fn)}
theorem run_zero {i : Nat} : run fns kw 0 i = fun _ _ => .bad := by funext ds μ; rfl
theorem run_succ {k i : Nat} {fn : Fn} (h : fns.lookup i = some fn) : run fns kw (k + 1) i = runFn (run fns kw k) kw fn := by
  funext ds μ
  show (match fns.lookup i with | some fn => runFn (run fns kw k) kw fn ds μ | none => .bad) = _
  rw [h]
theorem all_defs (T : TopOk K mg G fns) : ∀ (k i : Nat) (x : Str), fidOf x G.fns = some i → ∃ (fa : Addr) (fd : FuncData) (ps : List Str), mg x = some (.ref fa) ∧ PySem.W.keepIn K (.ref fa) = true ∧ (∀ base, FnG P w K mg base (k + 2) fa fd ps (G.nds.contains i) (run fns kw k i)) ∧ Binds K fd ps [] ∧
    ∀ (np : Nat) (ks : List Str) (p : List Nat), (i, np, ks, p) ∈ G.kws → ∀ (s : Shared) (us ws : List Value), us.length = np → ws.length = ks.length → ∃ zs, perm (us ++ ws) p = some zs ∧ BindsTo s fd ⟨us, ks.zip ws⟩ (ps.zip zs)
  | 0, i, x, h => by
    obtain ⟨fn, hf, D⟩ := T.fn i x h
    obtain ⟨f, fd, N, ps, mv, qual, st, h1, h2, F, S, h3, h4, h5, h6, hnd, h7, h8⟩ := D.ex
    refine ⟨f, fd, ps, h1, h2, fun base => ⟨fun ds μ d μ' z => ?_, fun A outer s H args us vs Q ι μ ds d μ' _ _ _ _ _ _ _ z _ => ?_⟩, h7, h8⟩
    · rw [run_zero] at z; cases z
    · rw [run_zero] at z; cases z
  | k + 1, i, x, h => by
    obtain ⟨fn, hf, D⟩ := T.fn i x h
    obtain ⟨f, fd, N, ps, mv, qual, st, h1, h2, F, S, h3, h4, h5, h6, hnd, h7, h8⟩ := D.ex
    refine ⟨f, fd, ps, h1, h2, fun base => ?_, h7, h8⟩
    rw [run_succ hf]
    cases hb : G.nds.contains i with
    | true =>
      obtain ⟨e, e', pos, n1, n2, n3, n4, n5⟩ := hnd hb
      refine fn_n F S h3 h4 n1 n3 n4 fun cdv A outer s H hr hg => ?_
      have hX : XOk G N (run fns kw k) kw (k + 2) (cxOf CX0 P w K mg base N qual (defScope st) f cdv A outer s H E0).nox :=
        ⟨rfl, rfl, h5, hg, hr, T.blt, T.cns, T.exc, Nat.le_add_left 2 k, fun i x hi =>
          have ⟨fa', fd', ps', q1, q2, q3, q4⟩ := all_defs T k i x hi
          ⟨fa', fd', ps', q1, q2, q3 base, q4⟩⟩
      exact pe_tupN hX rfl n2 n5
    | false =>
    refine fn_g F S h3 h4 fun cdv A outer s H hr hg => ?_
    have hX : XOk G N (run fns kw k) kw (k + 2) (cxOf CX0 P w K mg base N qual (defScope st) f cdv A outer s H E0).nox :=
      ⟨rfl, rfl, h5, hg, hr, T.blt, T.cns, T.exc, Nat.le_add_left 2 k, fun i x hi =>
        have ⟨fa', fd', ps', q1, q2, q3, q4⟩ := all_defs T k i x hi
        ⟨fa', fd', ps', q1, q2, q3 base, q4⟩⟩
    exact soundS hX ⟨fun _ => rfl, S.kind, PassesOwn.never⟩ rfl 100 h6
end

theorem blt_all {mg : Str → Option Value} (h0 : mg "len" = none) (h1 : mg "repr" = none) (h2 : mg "abs" = none) (h3 : mg "int" = none) (h4 : mg "str" = none) (h5 : mg "list" = none) (h6 : mg "tuple" = none) (h7 : mg "all" = none) (h8 : mg "any" = none) (h9 : mg "max" = none) (h10 : mg "min" = none)
    (h11 : mg "range" = none) (h12 : mg "isinstance" = none) (h13 : mg "bool" = none) (h14 : mg "dict" = none) (h15 : mg "sorted" = none) (h16 : mg "set" = none) (h17 : mg "enumerate" = none) (h18 : mg "zip" = none) (h19 : mg "sum" = none) : ∀ x ∈ bltNames, mg x = none := by
  intro x hx
  unfold bltNames at hx
  simp only [List.mem_cons, List.not_mem_nil, or_false] at hx
  rcases hx with rfl | rfl | rfl | rfl | rfl | rfl | rfl | rfl | rfl | rfl | rfl | rfl | rfl | rfl | rfl | rfl | rfl | rfl | rfl | rfl <;> assumption

/-! ### the law's call -/
/-- the heap behind the top, in which at most the script is tracked -/
def sHp (a : Addr) (o : Obj) (xs : List V) : Bool → Hp
  | true => fun b => if b = a then some (.frz o (.lst xs)) else none
  | false => fun _ => none
theorem sHp_other {a b : Addr} {o : Obj} {xs : List V} {t : Bool} (h : b ≠ a) : sHp a o xs t b = none := by
  cases t
  · rfl
  · exact if_neg h
theorem sHp_some {a b : Addr} {o : Obj} {xs : List V} {t : Bool} {u : HO} (h : sHp a o xs t b = some u) : b = a ∧ t = true ∧ u = .frz o (.lst xs) := by
  by_cases e : b = a
  · cases t with
    | false => cases h
    | true => exact ⟨e, rfl, (Option.some.inj ((if_pos e).symm.trans h)).symm⟩
  · rw [sHp_other e] at h; cases h
theorem law_g {P : Program} {w : World} {K : PySem.W.Frag} {mg mb : Str → Option Value} {k : Nat} {fa a : Addr} {fd : FuncData} {x : Str} {c : List D → Sto → Res D} {s₁ : Shared} {vs : List Value} {ns : List Int} {μ' : Sto}
    (hK : K.In s₁.heap) (hm : s₁.heap.Ns mainGlobals mg) (hb : s₁.heap.Ns builtinsNs mb) (hbb : ∀ x : Str, x ≠ "__name__" → mb x = bootBuiltins x) (hnl : s₁.heap.NoLimit) (hgen : s₁.gens = #[])
    (ha : s₁.heap.get? a = some { cls := .type "list", data := .seq vs.toArray }) (hi : PyProof.Rows.IntsAre vs ns) (hl : ns.length ≤ sizeLine) (hr : Room k callerA)
    {nd : Bool} (F : ∀ base : Heap, K.In base → base.Ns mainGlobals mg → FnG P w K mg base k fa fd [x] nd c) (hbind : BindsTo s₁ fd ⟨[.ref a], []⟩ [(x, .ref a)])
    (hc : c [.frl (ns.map .int)] [] = .ok (.bl true) μ') :
    codeAny (model P w) callerA (.call (.ref fa) ⟨[.ref a], []⟩) (fun r s' => r = .ok (.ret (.bool true)) ∧ PySem.OldK s₁.heap s'.heap ∧ s'.os = s₁.os ∧ PyProof.Rows.AllBare s'.gens) s₁ := by
  have rv := vals_ints hi
  have hvl := hi.length
  obtain ⟨t, ht⟩ : ∃ t : Bool, t = (K.lookup a).isNone := ⟨_, rfl⟩
  generalize hHd : sHp a { cls := .type "list", data := .seq vs.toArray } (ns.map V.int) t = H
  have hsm : ∀ {b : Addr} {u : HO}, H b = some u → b = a ∧ t = true ∧ u = .frz { cls := .type "list", data := .seq vs.toArray } (.lst (ns.map V.int)) := fun h => by subst hHd; exact sHp_some h
  have hS : SqF K H a (ns.map V.int) := by
    cases q : K.lookup a with
    | none =>
      rw [q] at ht
      subst ht; subst hHd
      exact .inl ⟨_, if_pos rfl⟩
    | some o =>
      have e := hK a o q
      rw [ha] at e
      cases e
      exact .inr ⟨_, vs.toArray, _, q, rfl, rfl, rfl, by rw [List.size_toArray, hvl]; exact hl, by simpa using rv⟩
  have hno : ∀ b, b ≠ a → H b = none := fun b h => by subst hHd; exact sHp_other h
  have hHOk : HOk P w H s₁.heap := fun b u h => by
    obtain ⟨rfl, _, rfl⟩ := hsm h
    exact ⟨ha, by rw [List.length_map]; exact hl, vs, _, rv, ha⟩
  -- what is not the script's own object stands in the hidden heap
  have keep : ∀ {b : Addr} {o : Obj}, s₁.heap.get? b = some o → (b = a → t = false) → (hidT s₁.heap H).get? b = some o := fun {b o} e h => hidT_get e (by
    cases q : H b with
    | none => rfl
    | some u =>
      obtain ⟨e1, e2, _⟩ := hsm q
      rw [h e1] at e2; cases e2)
  have nsx : ∀ {b : Addr} {m : Str → Option Value}, s₁.heap.Ns b m → (hidT s₁.heap H).Ns b m := fun {b m} ⟨o, es, ep, e, d, r⟩ => ⟨o, es, ep, keep e (fun z => by
    subst z
    rw [ha] at e; cases e
    have d' : Data.seq vs.toArray _ = Data.dict es ep := d
    cases d'), d, r⟩
  have hKh : K.In (hidT s₁.heap H) := fun b o e => keep (hK b o e) fun z => by subst z; rw [ht, e]; rfl
  have hMod : Mod K mg (hidT s₁.heap H) := ⟨hKh, nsx hm, ⟨mb, nsx hb, hbb⟩, let ⟨mc, h1, h2⟩ := hnl; ⟨mc, nsx h1, h2⟩⟩
  have e0 : Env0 P w K mg (hidT s₁.heap H) callerA [] s₁ H := ⟨rfl, hMod, fun b o e => of_hidT e, Nat.le_of_eq (hidT_size _ _), trivial, fun b hb => absurd hb List.not_mem_nil, hHOk, .of_eq hgen⟩
  have relI : ∀ l : List Int, RelL K H ⟨[], []⟩ (l.map D.int) (l.map V.int) := fun l => by
    induction l with
    | nil => exact .nil
    | cons i l ih => exact .cons (.int i) ih
  have st0 : StOk K H ⟨[], []⟩ [] := ⟨rfl, List.nodup_nil, (fun a h => by cases h), (fun a h => by cases h), fun n m h => by cases h⟩
  refine codeAny_mono ((F _ hKh (nsx hm)).run callerA [] s₁ H ⟨[.ref a], []⟩ [.ref a] [.ref a] (fun v _ => v = .bl true) ⟨[], []⟩ [] [.frl (ns.map .int)] (.bl true) μ' hr rfl e0 hbind (.cons rfl .nil) st0 (.cons (.frl hS (relI ns)) .nil) hc
    fun ι' H' v _ _ r _ => by cases r; rfl) fun r s' h => ?_
  match r, h with
  | .error e, h => exact False.elim h
  | .ok .next, h => exact False.elim h
  | .ok .brk, h => exact False.elim h
  | .ok .cont, h => exact False.elim h
  | .ok (.ret u), ⟨v, H', ho, hba, hun, hok', hrel, hq⟩ =>
    have hq' : v = .bl true := hq
    subst hq'
    have hu : u = Value.bool true := hrel
    subst hu
    refine ⟨rfl, PySem.OldK.of_keep fun b o e => ?_, ho, hba⟩
    cases q : H b with
    | none => exact hun.keep b o e q (fun z => absurd z List.not_mem_nil) List.not_mem_nil
    | some u =>
      obtain ⟨e1, _, e3⟩ := hsm q
      subst e1
      rw [e3] at q
      obtain ⟨z, _⟩ := hok' b _ (hun.frzs b _ _ q)
      rw [ha] at e; cases e
      exact z
/-- from the program's text to the law: it is enough that the evaluation says so -/
theorem walk_g {l : PySem.W.OpenLaw} {q : Program} {loose : List Str} {XP : (Str → Option Value) → Heap → Prop} {YP : World → Heap → Prop} {d : DefRec} {K : Params → PySem.W.Frag} {G : Cfg} {kw : Kwp} {fns : List (Nat × Fn)} {k i : Nat}
    (hn : l.most = some 63) (hdf : d.params.defaults = []) (hr : Room (k + 2) callerA) (hY : ∀ (w : World) (h : Heap), YP w h → (K w.params).In h)
    (hlaw : fidOf d.name G.fns = some i)
    (F : ∀ (w : World) (mg : Str → Option Value) (h : Heap), (K w.params).In h → h.Ns mainGlobals mg → TopOk (K w.params) mg G fns)
    (hc : ∀ ns : List Int, ns.length ≤ 63 → ∃ μ', run fns kw k i [.frl (ns.map .int)] [] = .ok (.bl true) μ') :
    PySem.W.WalkO q loose XP YP l.row.toRowW d [] (fun f vs => PySem.call f vs) := by
  refine Att.attach_call hn hdf fun w s₀ s₁ mg mb fa o pm cd doc a vs ns Gr Y ho hd hcd hmg hobj hints hlen hg => ?_
  have KX := hY w _ Y
  have T := F w mg _ KX Gr.T.g
  obtain ⟨μ', hc'⟩ := hc ns hlen
  obtain ⟨fa1, fd1, ps1, h1, _, F1, hb1, _⟩ := all_defs (P := l.prog) (w := w) (kw := kw) T k i d.name hlaw
  have e1 := h1.symm.trans hmg
  cases e1
  have hps : ∃ y, ps1 = [y] := by
    have hl := (F1 s₁.heap).len _ _ _ _ hc'
    match ps1, hl with
    | [y], _ => exact ⟨y, rfl⟩
  obtain ⟨y, rfl⟩ := hps
  exact law_g (fd := fd1) (x := y) (c := run fns kw k i) KX Gr.T.g Gr.T.b Gr.T.builtins Gr.T.nolimit hg hobj hints (Nat.le_trans hlen (by decide)) hr (fun base _ _ => F1 base) (hb1 s₁ [.ref a] KX rfl) hc'
end Ev

namespace Ev
open PySem

/-! ### what an evaluation comes to -/
@[irreducible] def W {α : Type} (r : Res α) (P : α → Sto → Prop) : Prop := match r with
  | .bad => False
  | .err _ _ _ => False
  | .ok a μ => P a μ
theorem W_ok {α : Type} {a : α} {μ : Sto} {P : α → Sto → Prop} : W (.ok a μ) P = P a μ := by with_unfolding_all exact propext Iff.rfl
theorem W_bad {α : Type} {P : α → Sto → Prop} : W (.bad : Res α) P = False := by with_unfolding_all exact propext Iff.rfl
theorem W_err {α : Type} {P : α → Sto → Prop} {c : Nat} {xs : List D} {μ : Sto} : W (.err c xs μ : Res α) P = False := by with_unfolding_all exact propext Iff.rfl
theorem W_bind {α β : Type} {r : Res α} {f : α → Sto → Res β} {P : β → Sto → Prop} : W (r.bind f) P = W r fun a μ => W (f a μ) P := by cases r <;> with_unfolding_all rfl
theorem W.mono {α : Type} {r : Res α} {P Q : α → Sto → Prop} (h : W r P) (i : ∀ a μ, P a μ → Q a μ) : W r Q := by
  cases r with
  | bad => rw [W_bad] at h; exact h.elim
  | err c xs μ => rw [W_err] at h; exact h.elim
  | ok a μ => rw [W_ok] at h ⊢; exact i a μ h
theorem W.ex {α : Type} {r : Res α} {P : α → Sto → Prop} (h : W r P) : ∃ a μ, r = .ok a μ ∧ P a μ := by
  cases r with
  | bad => rw [W_bad] at h; exact h.elim
  | err c xs μ => rw [W_err] at h; exact h.elim
  | ok a μ => rw [W_ok] at h; exact ⟨a, μ, rfl, h⟩
theorem W_ite {α : Type} {c : Prop} [Decidable c] {x y : Res α} {P : α → Sto → Prop} (hp : c → W x P) (hn : ¬ c → W y P) : W (if c then x else y) P := by
  by_cases h : c
  · rw [if_pos h]; exact hp h
  · rw [if_neg h]; exact hn h
def retP (P : D → Sto → Prop) : Out → Sto → Prop := fun o μ => match o with
  | .nx _ => P .non μ
  | .rt x => P x μ
  | _ => False
theorem retP_rt {P : D → Sto → Prop} {x : D} {μ : Sto} : retP P (.rt x) μ = P x μ := propext Iff.rfl
theorem retP_nx {P : D → Sto → Prop} {ρ : Loc} {μ : Sto} : retP P (.nx ρ) μ = P .non μ := propext Iff.rfl
theorem W_fn {c : Call} {kw : Kwp} {f : Fn} {ds : List D} {μ : Sto} {P : D → Sto → Prop} (ht : f.tr = false) (hl : ds.length = f.par) (h : W (exs c kw f.body (enter f.slots ds) μ) (retP P)) : W (runFn c kw f ds μ) P := by
  unfold runFn
  rw [if_pos hl, W_bind]
  refine h.mono fun o μ' q => ?_
  cases o with
  | nx ρ => rw [ht]; with_unfolding_all exact q
  | rt x => rw [ht]; with_unfolding_all exact q
  | bk ρ => exact q.elim
  | ct ρ => exact q.elim
/-- a def that forgets what it made -/
theorem W_fnT {c : Call} {kw : Kwp} {f : Fn} {ds : List D} {μ : Sto} {P : D → Sto → Prop} (ht : f.tr = true) (hl : ds.length = f.par) (h : W (exs c kw f.body (enter f.slots ds) μ) (retP fun x μ' => W (trim μ x μ') P)) : W (runFn c kw f ds μ) P := by
  unfold runFn
  rw [if_pos hl, W_bind]
  refine h.mono fun o μ' q => ?_
  cases o with
  | nx ρ => rw [ht]; exact q
  | rt x => rw [ht]; exact q
  | bk ρ => exact q.elim
  | ct ρ => exact q.elim
/-- a statement, then the rest -/
def seqP (c : Call) (kw : Kwp) (ss : List S) (P : Out → Sto → Prop) : Out → Sto → Prop := fun o μ => match o with
  | .nx ρ => W (exs c kw ss ρ μ) P
  | .rt x => P (.rt x) μ
  | .bk ρ => P (.bk ρ) μ
  | .ct ρ => P (.ct ρ) μ
theorem seqP_bk {c : Call} {kw : Kwp} {ss : List S} {P : Out → Sto → Prop} {ρ : Loc} {μ : Sto} : seqP c kw ss P (.bk ρ) μ = P (.bk ρ) μ := propext Iff.rfl
theorem seqP_ct {c : Call} {kw : Kwp} {ss : List S} {P : Out → Sto → Prop} {ρ : Loc} {μ : Sto} : seqP c kw ss P (.ct ρ) μ = P (.ct ρ) μ := propext Iff.rfl
theorem seqP_nx {c : Call} {kw : Kwp} {ss : List S} {P : Out → Sto → Prop} {ρ : Loc} {μ : Sto} : seqP c kw ss P (.nx ρ) μ = W (exs c kw ss ρ μ) P := propext Iff.rfl
theorem seqP_rt {c : Call} {kw : Kwp} {ss : List S} {P : Out → Sto → Prop} {x : D} {μ : Sto} : seqP c kw ss P (.rt x) μ = P (.rt x) μ := propext Iff.rfl
theorem W_cons {c : Call} {kw : Kwp} {s : S} {ss : List S} {ρ : Loc} {μ : Sto} {P : Out → Sto → Prop} : W (exs c kw (s :: ss) ρ μ) P = W (ex c kw s ρ μ) (seqP c kw ss P) := by
  simp only [exs, W_bind]
  congr 1
  funext o μ'
  cases o <;> with_unfolding_all rfl
theorem W_nil {c : Call} {kw : Kwp} {ρ : Loc} {μ : Sto} {P : Out → Sto → Prop} : W (exs c kw [] ρ μ) P = P (.nx ρ) μ := by simp only [exs, W_ok]

/-! ### the store -/
theorem set_get {μ : Sto} {u : Nat} {m x : Mo} (h : μ[u]? = some m) : (μ.set u x)[u]? = some x := by
  have := (List.getElem?_eq_some_iff.mp h).1
  simp [this]
theorem set_set {μ : Sto} {u : Nat} {x y : Mo} : (μ.set u x).set u y = μ.set u y := List.set_set ..
theorem push_get {μ : Sto} {m : Mo} : (μ ++ [m])[μ.length]? = some m := by simp
theorem push_old {μ : Sto} {m q : Mo} {u : Nat} (h : μ[u]? = some m) : (μ ++ [q])[u]? = some m := by
  have := (List.getElem?_eq_some_iff.mp h).1
  rw [List.getElem?_append_left this]; exact h
/-! ### operators, by cases -/
section
variable {μ : Sto} {i j : Int} {a k : Nat} {l : List D} {d : D}
theorem ix_st {n : Nat} (h : μ[a]? = some (.lst l)) (hj : ixn l.length i = some n) (hd : l[n]? = some d) : ixop (.loc a) (.int i) μ = .ok d μ := by
  simp only [ixop, h, hj, Option.bind_some, hd]
theorem ix_tu {n : Nat} (hj : ixn l.length i = some n) (hd : l[n]? = some d) : ixop (.tup l) (.int i) μ = .ok d μ := by
  simp only [ixop, hj, Option.bind_some, hd]
theorem ss_st {n : Nat} {x : D} (h : μ[a]? = some (.lst l)) (hj : ixn l.length i = some n) : ssetop (.loc a) (.int i) x μ = some (μ.set a (.lst (l.set n x))) := by
  simp only [ssetop, h, hj]
theorem b_add : binop .add (.int i) (.int j) μ = .ok (.int (i + j)) μ := Eq.trans rfl rfl
theorem b_sub : binop .sub (.int i) (.int j) μ = .ok (.int (i - j)) μ := Eq.trans rfl rfl
theorem b_mul (h : (-big < i ∧ i < big) ∨ (-big < j ∧ j < big)) : binop .mul (.int i) (.int j) μ = .ok (.int (i * j)) μ := if_pos h
theorem b_fdiv (h : 0 < j ∧ j < 1073741824) : binop .fdiv (.int i) (.int j) μ = .ok (.int (i / j)) μ := if_pos h
theorem b_mod (h : 0 < j) : binop .mod (.int i) (.int j) μ = .ok (.int (i % j)) μ := if_pos h
theorem b_pow (h : 0 ≤ j ∧ j ≤ 1000 ∧ i.natAbs < 2 ^ 2000) : binop .pow (.int i) (.int j) μ = .ok (.int (i ^ j.toNat)) μ := if_pos h
theorem o_some {α : Type} {x : α} : ofO (some x) μ = .ok x μ := Eq.trans rfl rfl
theorem c_gt : cmpop .gt (.int i) (.int j) μ = some (decide (j < i)) := Eq.trans rfl rfl
theorem c_lt : cmpop .lt (.int i) (.int j) μ = some (decide (i < j)) := Eq.trans rfl rfl
theorem c_ge : cmpop .ge (.int i) (.int j) μ = some (decide (j ≤ i)) := Eq.trans rfl rfl
theorem c_le : cmpop .le (.int i) (.int j) μ = some (decide (i ≤ j)) := Eq.trans rfl rfl
theorem c_eq : cmpop .eq (.int i) (.int j) μ = some (decide (i = j)) := Eq.trans rfl rfl
theorem c_ne : cmpop .ne (.int i) (.int j) μ = some (!decide (i = j)) := Eq.trans rfl rfl
end
/-! ### each form of the text -/
def onB (t f : Sto → Prop) : D → Sto → Prop := fun x μ => match x with
  | .bl true => t μ
  | .bl false => f μ
  | _ => False
theorem onB_true {t f : Sto → Prop} {μ : Sto} : onB t f (.bl true) μ = t μ := propext Iff.rfl
theorem onB_false {t f : Sto → Prop} {μ : Sto} : onB t f (.bl false) μ = f μ := propext Iff.rfl
theorem onB_by {t f : Sto → Prop} {μ : Sto} {b : Bool} (ht : b = true → t μ) (hf : b = false → f μ) : onB t f (.bl b) μ := by cases b with
  | true => exact ht rfl
  | false => exact hf rfl
theorem onB_dec {t f : Sto → Prop} {μ : Sto} {p : Prop} [Decidable p] (ht : p → t μ) (hf : ¬ p → f μ) : onB t f (.bl (decide p)) μ := onB_by (fun h => ht (of_decide_eq_true h)) fun h => hf (of_decide_eq_false h)
def notB (P : D → Sto → Prop) : D → Sto → Prop := fun x μ => match x with
  | .bl b => P (.bl (!b)) μ
  | _ => False
theorem notB_bl {P : D → Sto → Prop} {b : Bool} {μ : Sto} : notB P (.bl b) μ = P (.bl (!b)) μ := propext Iff.rfl
def onO (o : Option Bool) (t f : Prop) : Prop := match o with
  | some true => t
  | some false => f
  | none => False
theorem onO_by {t f : Prop} {b : Bool} (ht : b = true → t) (hf : b = false → f) : onO (some b) t f := by cases b with
  | true => exact ht rfl
  | false => exact hf rfl
def onS {α : Type} (o : Option α) (k : α → Prop) : Prop := match o with
  | some a => k a
  | none => False
theorem onS_some {α : Type} {a : α} {k : α → Prop} : onS (some a) k = k a := propext Iff.rfl
def getP (o : Option (Option D)) (k : D → Prop) : Prop := match o with
  | some (some d) => k d
  | _ => False
theorem getP_some {d : D} {k : D → Prop} : getP (some (some d)) k = k d := propext Iff.rfl
def intP (k : Int → Sto → Prop) : D → Sto → Prop := fun x μ => match x with
  | .int i => k i μ
  | _ => False
theorem intP_int {k : Int → Sto → Prop} {i : Int} {μ : Sto} : intP k (.int i) μ = k i μ := propext Iff.rfl
section
variable {c : Call} {kw : Kwp} {ρ : Loc} {μ : Sto} {P : D → Sto → Prop} {R : Out → Sto → Prop} {a b d e : E} {es ks : List E} {ss tt : List S} {i j : Nat}
theorem W_var : W (ev c kw (.var i) ρ μ) P = getP ρ[i]? fun d => P d μ := by
  simp only [ev]
  rcases ρ[i]? with _ | (_ | d) <;> with_unfolding_all rfl
theorem W_non : W (ev c kw .non ρ μ) P = P .non μ := by simp only [ev]; with_unfolding_all rfl
theorem W_bl {x : Bool} : W (ev c kw (.bl x) ρ μ) P = P (.bl x) μ := by simp only [ev]; with_unfolding_all rfl
theorem W_int {x : Int} : W (ev c kw (.int x) ρ μ) P = P (.int x) μ := by simp only [ev]; with_unfolding_all rfl
theorem W_str {x : List Nat} : W (ev c kw (.str x) ρ μ) P = P (.str x) μ := by simp only [ev]; with_unfolding_all rfl
theorem W_bin {o : Bop} : W (ev c kw (.bin o a b) ρ μ) P = W (ev c kw a ρ μ) fun x μ => W (ev c kw b ρ μ) fun y μ => W (binop o x y μ) P := by simp only [ev, W_bind]
theorem W_neg : W (ev c kw (.neg a) ρ μ) P = W (ev c kw a ρ μ) (intP fun i μ => P (.int (-i)) μ) := by
  simp only [ev, W_bind]; congr 1; funext x μ; cases x <;> with_unfolding_all rfl
theorem W_cmp {o : Cop} : W (ev c kw (.cmp o a b) ρ μ) P = W (ev c kw a ρ μ) fun x μ => W (ev c kw b ρ μ) fun y μ => onS (cmpop o x y μ) fun b => P (.bl b) μ := by
  simp only [ev, W_bind]; congr 1; funext x μ; congr 1; funext y μ; cases cmpop o x y μ <;> with_unfolding_all rfl
theorem W_chn {o o' : Cop} : W (ev c kw (.chn o o' a b d) ρ μ) P = W (ev c kw a ρ μ) fun x μ => W (ev c kw b ρ μ) fun y μ => onO (cmpop o x y μ) (W (ev c kw d ρ μ) fun z μ => onS (cmpop o' y z μ) fun b => P (.bl b) μ) (P (.bl false) μ) := by
  simp only [ev, W_bind]; congr 1; funext x μ; congr 1; funext y μ
  rcases cmpop o x y μ with _ | (_ | _)
  · with_unfolding_all rfl
  · with_unfolding_all rfl
  · show W (Res.bind _ _) P = W _ _
    rw [W_bind]; congr 1; funext z μ; cases cmpop o' y z μ <;> with_unfolding_all rfl
theorem W_and : W (ev c kw (.and a b) ρ μ) P = W (ev c kw a ρ μ) (onB (fun μ => W (ev c kw b ρ μ) P) fun μ => P (.bl false) μ) := by
  simp only [ev, W_bind]; congr 1; funext x μ; rcases x with _ | (_ | _) | _ | _ | _ | _ | _ | _ | _ <;> with_unfolding_all rfl
theorem W_or : W (ev c kw (.or a b) ρ μ) P = W (ev c kw a ρ μ) (onB (fun μ => P (.bl true) μ) fun μ => W (ev c kw b ρ μ) P) := by
  simp only [ev, W_bind]; congr 1; funext x μ; rcases x with _ | (_ | _) | _ | _ | _ | _ | _ | _ | _ <;> with_unfolding_all rfl
theorem W_not : W (ev c kw (.not a) ρ μ) P = W (ev c kw a ρ μ) (notB P) := by
  simp only [ev, W_bind]; congr 1; funext x μ; cases x <;> with_unfolding_all rfl
theorem W_iteE : W (ev c kw (.ite a b d) ρ μ) P = W (ev c kw a ρ μ) (onB (fun μ => W (ev c kw b ρ μ) P) fun μ => W (ev c kw d ρ μ) P) := by
  simp only [ev, W_bind]; congr 1; funext x μ; rcases x with _ | (_ | _) | _ | _ | _ | _ | _ | _ | _ <;> with_unfolding_all rfl
theorem W_cond {α : Type} {p : Prop} [Decidable p] {r : Res α} {Q : α → Sto → Prop} : W (if p then r else .bad) Q = (p ∧ W r Q) := by
  by_cases h : p
  · rw [if_pos h]; exact propext ⟨fun z => ⟨h, z⟩, fun z => z.2⟩
  · rw [if_neg h, W_bad]; exact propext ⟨fun z => z.elim, fun z => h z.1⟩
theorem W_tup : W (ev c kw (.tup es) ρ μ) P = W (evs c kw es ρ μ) fun xs μ => xs.length ≤ room ∧ P (.tup xs) μ := by simp only [ev, W_bind, W_cond, W_ok]
theorem W_lst : W (ev c kw (.lst es) ρ μ) P = W (evs c kw es ρ μ) fun xs μ => xs.length ≤ room ∧ P (.rol xs) μ := by simp only [ev, W_bind, W_cond, W_ok]
theorem W_lstM : W (ev c kw (.lstM es) ρ μ) P = W (evs c kw es ρ μ) fun xs μ => xs.length ≤ room ∧ P (.loc μ.length) (μ ++ [.lst xs]) := by simp only [ev, W_bind, W_cond, W_ok]
theorem W_dct0 : W (ev c kw .dct0 ρ μ) P = P (.dct []) μ := by simp only [ev, W_ok]
theorem W_dct0M : W (ev c kw .dct0M ρ μ) P = P (.loc μ.length) (μ ++ [.dic []]) := by simp only [ev, W_ok]
def strP (k : List Nat → Sto → Prop) : D → Sto → Prop := fun x μ => match x with
  | .str s => k s μ
  | _ => False
theorem strP_str {k : List Nat → Sto → Prop} {s : List Nat} {μ : Sto} : strP k (.str s) μ = k s μ := propext Iff.rfl
theorem W_dct1 : W (ev c kw (.dct1 a b) ρ μ) P = W (ev c kw a ρ μ) fun x μ1 => W (ev c kw b ρ μ1) fun y μ2 => strP (fun s μ => P (.dct [(.inr s, y)]) μ) x μ2 := by
  simp only [ev, W_bind]; congr 1; funext x μ1; congr 1; funext y μ2
  cases x <;> with_unfolding_all rfl
theorem W_ix : W (ev c kw (.ix a b) ρ μ) P = W (ev c kw a ρ μ) fun x μ => W (ev c kw b ρ μ) fun y μ => W (ixop x y μ) P := by simp only [ev, W_bind]
theorem W_slU : W (ev c kw (.slU a b) ρ μ) P = W (ev c kw a ρ μ) fun x μ => W (ev c kw b ρ μ) (intP fun j μ => W (slop x none (some j) μ) P) := by
  simp only [ev, W_bind]; congr 1; funext x μ; congr 1; funext y μ; cases y <;> with_unfolding_all rfl
theorem W_slL : W (ev c kw (.slL a b) ρ μ) P = W (ev c kw a ρ μ) fun x μ => W (ev c kw b ρ μ) (intP fun j μ => W (slop x (some j) none μ) P) := by
  simp only [ev, W_bind]; congr 1; funext x μ; congr 1; funext y μ; cases y <;> with_unfolding_all rfl
theorem W_slLU : W (ev c kw (.slLU a b d) ρ μ) P = W (ev c kw a ρ μ) fun x μ => W (ev c kw b ρ μ) fun y μ => W (ev c kw d ρ μ) fun z μ => intP (fun i μ => intP (fun j μ => W (slop x (some i) (some j) μ) P) z μ) y μ := by
  simp only [ev, W_bind]; congr 1; funext x μ; congr 1; funext y μ; congr 1; funext z μ; cases y <;> cases z <;> with_unfolding_all rfl
def tupP (k : List D → Sto → Prop) : D → Sto → Prop := fun x μ => match x with
  | .tup l => k l μ
  | _ => False
theorem tupP_tup {k : List D → Sto → Prop} {l : List D} {μ : Sto} : tupP k (.tup l) μ = k l μ := propext Iff.rfl
theorem W_rev : W (ev c kw (.rev a) ρ μ) P = W (ev c kw a ρ μ) (tupP fun l μ => P (.tup l.reverse) μ) := by
  simp only [ev, W_bind]; congr 1; funext x μ; cases x <;> with_unfolding_all rfl
theorem W_call {f : Nat} : W (ev c kw (.call f es) ρ μ) P = W (evs c kw es ρ μ) fun xs μ => W (c f xs μ) P := by simp only [ev, W_bind]
theorem W_callk {f : Nat} {p : List Nat} : W (ev c kw (.callk f p es ks) ρ μ) P = W (evs c kw es ρ μ) fun xs μ => W (evs c kw ks ρ μ) fun ys μ => onS (perm (xs ++ ys) p) fun zs => W (c f zs μ) P := by
  simp only [ev, W_bind]; congr 1; funext x μ; congr 1; funext y μ; cases perm (x ++ y) p <;> with_unfolding_all rfl
theorem W_blt {o : Bi} : W (ev c kw (.blt o es) ρ μ) P = W (evs c kw es ρ μ) fun xs μ => W (bltop o xs μ) P := by simp only [ev, W_bind]
theorem W_isi {t : Ty} : W (ev c kw (.isi a t) ρ μ) P = W (ev c kw a ρ μ) fun x μ => noRng x = true ∧ P (.bl (isTy μ x t)) μ := by simp only [ev, W_bind, W_cond, W_ok]
theorem W_mtc {m : Mt} {f : Nat} {as : List E} : W (ev c kw (.mtc m f as es) ρ μ) P = W (evs c kw as ρ μ) fun xs μ => W (c f xs μ) (tupP fun l μ => W (evs c kw es ρ μ) fun ys μ => W (mthop m (.rol l) ys μ) P) := by
  simp only [ev, W_bind]; congr 1; funext xs μ; congr 1; funext x μ; cases x <;> first | exact W_bind | with_unfolding_all rfl
theorem W_mth {m : Mt} : W (ev c kw (.mth m a es) ρ μ) P = W (ev c kw a ρ μ) fun x μ => recv m x μ = true ∧ W (evs c kw es ρ μ) fun xs μ => W (mthop m x xs μ) P := by simp only [ev, W_bind, W_cond]
theorem W_evnil {Q : List D → Sto → Prop} : W (evs c kw [] ρ μ) Q = Q [] μ := by simp only [evs, W_ok]
theorem W_evcons {Q : List D → Sto → Prop} : W (evs c kw (e :: es) ρ μ) Q = W (ev c kw e ρ μ) fun x μ => W (evs c kw es ρ μ) fun xs μ => Q (x :: xs) μ := by simp only [evs, W_bind, W_ok]
theorem W_set : W (ex c kw (.set i e) ρ μ) R = W (ev c kw e ρ μ) fun x μ => R (.nx (ρ.set i (some x))) μ := by simp only [ex, W_bind, W_ok]
def rolP (k : List D → Sto → Prop) : D → Sto → Prop := fun x μ => match x with
  | .rol l => k l μ
  | _ => False
theorem rolP_rol {k : List D → Sto → Prop} {l : List D} {μ : Sto} : rolP k (.rol l) μ = k l μ := propext Iff.rfl
theorem W_setL : W (ex c kw (.setL i e) ρ μ) R = W (ev c kw e ρ μ) (rolP fun l μ => R (.nx (ρ.set i (some (.loc μ.length)))) (μ ++ [.lst l])) := by
  simp only [ex, pushF, W_bind]
  congr 1; funext x μ
  cases x with
  | rol l =>
    show W (Res.ok (D.loc μ.length) (μ ++ [Mo.lst l])) _ = _
    rw [W_ok, W_ok, rolP_rol]
  | _ => exact W_bad
theorem W_par : W (ex c kw (.par i j a b) ρ μ) R = W (ev c kw a ρ μ) fun x μ => W (ev c kw b ρ μ) fun y μ => R (.nx ((ρ.set i (some x)).set j (some y))) μ := by simp only [ex, W_bind, W_ok]
theorem W_unp {is : List Nat} : W (ex c kw (.unp is e) ρ μ) R = W (ev c kw e ρ μ) fun x μ => onS (bindT (.tp is) x μ ρ) fun ρ' => R (.nx ρ') μ := by
  simp only [ex, W_bind]; congr 1; funext x μ
  cases bindT (.tp is) x μ ρ <;> with_unfolding_all rfl
theorem bind_t {is : List Nat} {l : List D} : bindT (.tp is) (.tup l) μ ρ = bindL ρ is l := Eq.trans rfl rfl
theorem bind_r {is : List Nat} {l : List D} : bindT (.tp is) (.rol l) μ ρ = bindL ρ is l := Eq.trans rfl rfl
theorem bind_1 {i : Nat} {is : List Nat} {d : D} {l : List D} : bindL ρ (i :: is) (d :: l) = bindL (ρ.set i (some d)) is l := Eq.trans rfl rfl
theorem bind_0 : bindL ρ [] [] = some ρ := Eq.trans rfl rfl
theorem bind_n {i : Nat} {d : D} : bindT (.nm i) d μ ρ = some (ρ.set i (some d)) := Eq.trans rfl rfl
theorem c_isb {a b : Bool} : cmpop .isn (.bl a) (.bl b) μ = some (decide (a = b)) := Eq.trans rfl rfl
theorem W_onS {α : Type} {o : Option α} {Q : α → Sto → Prop} : W (ofO o μ) Q = onS o fun x => Q x μ := by cases o <;> with_unfolding_all rfl
theorem onS_map {α β : Type} {o : Option α} {f : α → β} {k : β → Prop} : onS (o.map f) k = onS o fun x => k (f x) := by cases o <;> exact Eq.trans rfl rfl
theorem W_par3 {l : Nat} : W (ex c kw (.par3 i j l a b d) ρ μ) R = W (ev c kw a ρ μ) fun x μ => W (ev c kw b ρ μ) fun y μ => W (ev c kw d ρ μ) fun z μ => R (.nx (((ρ.set i (some x)).set j (some y)).set l (some z))) μ := by simp only [ex, W_bind, W_ok]
theorem W_enu {Q : Src → Sto → Prop} : W (evIt c kw (.enu a) ρ μ) Q = W (ev c kw a ρ μ) fun x μ => onS (enumOf x) fun s => Q s μ := by simp only [evIt, W_bind, W_onS]
theorem W_zip {Q : Src → Sto → Prop} : W (evIt c kw (.zip a b) ρ μ) Q = W (ev c kw a ρ μ) fun x μ => W (ev c kw b ρ μ) fun y μ => onS (zipOf x y) fun s => Q s μ := by simp only [evIt, W_bind, W_onS]
theorem zip_t {l k : List D} : zipOf (.tup l) (.tup k) = some (.its (l.zipWith (fun x y => .tup [x, y]) k)) := Eq.trans rfl rfl
theorem zip_r {l k : List D} : zipOf (.rol l) (.rol k) = some (.its (l.zipWith (fun x y => .tup [x, y]) k)) := Eq.trans rfl rfl
theorem enum_t {l : List D} : enumOf (.tup l) = some (.its (enumI l)) := Eq.trans rfl rfl
theorem enum_r {l : List D} : enumOf (.rol l) = some (.its (enumI l)) := Eq.trans rfl rfl
theorem W_lcNE {n : Nest} : W (ev c kw (.lcN n) ρ μ) P = W (evN c kw .lst n ρ μ []) fun acc μ => P (.rol acc) μ := by simp only [ev, W_bind, W_ok]
theorem W_srtS {n : Nest} : W (ev c kw (.srtS n) ρ μ) P = W (evN c kw .set n ρ μ []) fun acc μ => onS (omap textD acc) fun ts => P (.rol ((sortN (addNs [] ts)).map .str)) μ := by simp only [ev, W_bind, W_onS, onS_map]
theorem W_lzip : W (ev c kw (.lzip es) ρ μ) P = W (evs c kw es ρ μ) fun xs μ => onS (lzipD μ xs) fun d => P d μ := by simp only [ev, W_bind, W_onS]
theorem W_srtL : W (ev c kw (.srtL a) ρ μ) P = W (ev c kw a ρ μ) fun x μ => onS ((lsD μ x).bind (textsD ·)) fun ts => P (.rol ((sortN (addNs [] ts)).map .str)) μ := by simp only [ev, W_bind, W_onS, onS_map]
theorem W_srtF : W (ev c kw (.srtF a) ρ μ) P = W (ev c kw a ρ μ) fun x μ => onS (srtFD μ x) fun r => P r μ := by simp only [ev, W_bind, W_onS]
theorem W_lenS : W (ev c kw (.lenS a) ρ μ) P = W (ev c kw a ρ μ) fun x μ => onS ((lsD μ x).bind (textsD ·)) fun ts => P (.int (Int.ofNat (addNs [] ts).length)) μ := by simp only [ev, W_bind, W_onS, onS_map]
theorem W_last {ck : CKd} {acc : List D} {Q : List D → Sto → Prop} : W (evN c kw ck (.last a) ρ μ acc) Q = W (ev c kw a ρ μ) fun y μ => onS (emitD ck acc y) fun acc' => Q acc' μ := by simp only [evN, W_bind, W_onS]
theorem W_cl {ck : CKd} {acc : List D} {Q : List D → Sto → Prop} {vs : List Nat} {t : Tg} {it : It} {n : Nest} : W (evN c kw ck (.cl vs t it a n) ρ μ acc) Q = W (evIt c kw it ρ μ) fun src μ => W (clN src t vs ρ (fun ρ μ => ev c kw a ρ μ) (fun ρ μ acc => evN c kw ck n ρ μ acc) src.fuel 0 acc μ) Q := by simp only [evN, W_bind]
theorem W_sset : W (ex c kw (.sset a b e) ρ μ) R = W (ev c kw e ρ μ) fun x μ => W (ev c kw a ρ μ) fun y μ => W (ev c kw b ρ μ) fun z μ => onS (ssetop y z x μ) fun μ' => R (.nx ρ) μ' := by
  simp only [ex, W_bind]; congr 1; funext x μ; congr 1; funext y μ; congr 1; funext z μ; cases ssetop y z x μ <;> with_unfolding_all rfl
theorem W_expr : W (ex c kw (.expr e) ρ μ) R = W (ev c kw e ρ μ) fun _ μ => R (.nx ρ) μ := by simp only [ex, W_bind, W_ok]
theorem W_ret : W (ex c kw (.ret e) ρ μ) R = W (ev c kw e ρ μ) fun x μ => R (.rt x) μ := by simp only [ex, W_bind, W_ok]
theorem W_if : W (ex c kw (.iff e ss tt) ρ μ) R = W (ev c kw e ρ μ) (onB (fun μ => W (exs c kw ss ρ μ) R) fun μ => W (exs c kw tt ρ μ) R) := by
  simp only [ex, W_bind]; congr 1; funext x μ; rcases x with _ | (_ | _) | _ | _ | _ | _ | _ | _ | _ <;> with_unfolding_all rfl
theorem W_brk : W (ex c kw .brk ρ μ) R = R (.bk ρ) μ := by simp only [ex, W_ok]
theorem W_cnt : W (ex c kw .cnt ρ μ) R = R (.ct ρ) μ := by simp only [ex, W_ok]
theorem W_pass : W (ex c kw .pass ρ μ) R = R (.nx ρ) μ := by simp only [ex, W_ok]
theorem W_for {t : Tg} {it : It} : W (ex c kw (.for t it ss) ρ μ) R = W (evIt c kw it ρ μ) fun src μ => W (forN src t (fun ρ μ => exs c kw ss ρ μ) src.fuel 0 ρ μ) R := by simp only [ex, W_bind]
theorem W_lc {own : List Nat} {t : Tg} {it : It} : W (ev c kw (.lc own t it e) ρ μ) P = W (evIt c kw it ρ μ) fun src μ => W (lcN src t own ρ (fun _ μ => .ok (.bl true) μ) (fun ρ μ => ev c kw e ρ μ) src.fuel 0 [] μ) P := by simp only [ev, W_bind]
theorem W_lcIf {own : List Nat} {t : Tg} {it : It} : W (ev c kw (.lcIf own t it a e) ρ μ) P = W (evIt c kw it ρ μ) fun src μ => W (lcN src t own ρ (fun ρ μ => ev c kw a ρ μ) (fun ρ μ => ev c kw e ρ μ) src.fuel 0 [] μ) P := by simp only [ev, W_bind]
theorem W_seq {Q : Src → Sto → Prop} : W (evIt c kw (.seq e) ρ μ) Q = W (ev c kw e ρ μ) fun x μ => onS (srcOf x μ) fun s => Q s μ := by
  simp only [evIt, W_bind]; congr 1; funext x μ; cases srcOf x μ <;> with_unfolding_all rfl
theorem W_rng1 {Q : Src → Sto → Prop} : W (evIt c kw (.rng1 e) ρ μ) Q = W (ev c kw e ρ μ) (intP fun j μ => onS (rngOf 0 j) fun s => Q s μ) := by
  simp only [evIt, W_bind]; congr 1; funext x μ
  cases x with
  | int j => show W (ofO (rngOf 0 j) μ) Q = onS (rngOf 0 j) _; cases rngOf 0 j <;> with_unfolding_all rfl
  | _ => with_unfolding_all rfl
theorem W_rng2 {Q : Src → Sto → Prop} : W (evIt c kw (.rng2 a b) ρ μ) Q = W (ev c kw a ρ μ) fun x μ => W (ev c kw b ρ μ) fun y μ => intP (fun i μ => intP (fun j μ => onS (rngOf i j) fun s => Q s μ) y μ) x μ := by
  simp only [evIt, W_bind]; congr 1; funext x μ; congr 1; funext y μ
  cases x with
  | int i =>
    cases y with
    | int j => show W (ofO (rngOf i j) μ) Q = onS (rngOf i j) _; cases rngOf i j <;> with_unfolding_all rfl
    | _ => with_unfolding_all rfl
  | _ => cases y <;> with_unfolding_all rfl
end

/-! ### what is done where it can be done -/
section
variable {μ : Sto} {P : D → Sto → Prop} {i j : Int} {l k : List D} {a b : Nat}
theorem w_add : W (binop .add (.int i) (.int j) μ) P = P (.int (i + j)) μ := by rw [b_add, W_ok]
theorem w_sub : W (binop .sub (.int i) (.int j) μ) P = P (.int (i - j)) μ := by rw [b_sub, W_ok]
theorem w_mul : W (binop .mul (.int i) (.int j) μ) P = (((-big < i ∧ i < big) ∨ (-big < j ∧ j < big)) ∧ P (.int (i * j)) μ) := by
  rw [show binop .mul (.int i) (.int j) μ = if (-big < i ∧ i < big) ∨ (-big < j ∧ j < big) then .ok (.int (i * j)) μ else .bad from Eq.trans rfl rfl, W_cond, W_ok]
theorem w_fdiv : W (binop .fdiv (.int i) (.int j) μ) P = ((0 < j ∧ j < 1073741824) ∧ P (.int (i / j)) μ) := by
  rw [show binop .fdiv (.int i) (.int j) μ = if 0 < j ∧ j < 1073741824 then .ok (.int (i / j)) μ else .bad from Eq.trans rfl rfl, W_cond, W_ok]
theorem w_mod : W (binop .mod (.int i) (.int j) μ) P = (0 < j ∧ P (.int (i % j)) μ) := by
  rw [show binop .mod (.int i) (.int j) μ = if 0 < j then .ok (.int (i % j)) μ else .bad from Eq.trans rfl rfl, W_cond, W_ok]
theorem w_pow : W (binop .pow (.int i) (.int j) μ) P = ((0 ≤ j ∧ j ≤ 1000 ∧ i.natAbs < 2 ^ 2000) ∧ P (.int (i ^ j.toNat)) μ) := by
  rw [show binop .pow (.int i) (.int j) μ = if 0 ≤ j ∧ j ≤ 1000 ∧ i.natAbs < 2 ^ 2000 then .ok (.int (i ^ j.toNat)) μ else .bad from Eq.trans rfl rfl, W_cond, W_ok]
theorem w_addB {p : Bool} : W (binop .add (.bl p) (.int j) μ) P = P (.int ((if p = true then 1 else 0) + j)) μ := by
  rw [show binop .add (.bl p) (.int j) μ = .ok (.int ((if p = true then (1 : Int) else 0) + j)) μ from Eq.trans rfl rfl, W_ok]
theorem w_subB {p : Bool} : W (binop .sub (.bl p) (.int j) μ) P = P (.int ((if p = true then 1 else 0) - j)) μ := by
  rw [show binop .sub (.bl p) (.int j) μ = .ok (.int ((if p = true then (1 : Int) else 0) - j)) μ from Eq.trans rfl rfl, W_ok]
theorem w_pow10 : W (binop .pow (.int 10) (.int j) μ) P = ((0 ≤ j ∧ j ≤ 1000) ∧ P (.int (10 ^ j.toNat)) μ) := by
  rw [w_pow]
  have : (10 : Int).natAbs < 2 ^ 2000 := by decide +kernel
  apply propext
  exact ⟨fun ⟨⟨h1, h2, _⟩, h⟩ => ⟨⟨h1, h2⟩, h⟩, fun ⟨⟨h1, h2⟩, h⟩ => ⟨⟨h1, h2, this⟩, h⟩⟩
theorem w_adds {x y : List Nat} : W (binop .add (.str x) (.str y) μ) P = (x.length + y.length ≤ room ∧ P (.str (x ++ y)) μ) := by
  rw [show binop .add (.str x) (.str y) μ = if x.length + y.length ≤ room then .ok (.str (x ++ y)) μ else .bad from Eq.trans rfl rfl, W_cond, W_ok]
theorem w_addt : W (binop .add (.tup l) (.tup k) μ) P = (l.length + k.length ≤ room ∧ P (.tup (l ++ k)) μ) := by
  rw [show binop .add (.tup l) (.tup k) μ = if l.length + k.length ≤ room then .ok (.tup (l ++ k)) μ else .bad from Eq.trans rfl rfl, W_cond, W_ok]
theorem w_addr : W (binop .add (.rol l) (.rol k) μ) P = (l.length + k.length ≤ room ∧ P (.rol (l ++ k)) μ) := by
  rw [show binop .add (.rol l) (.rol k) μ = if l.length + k.length ≤ room then .ok (.rol (l ++ k)) μ else .bad from Eq.trans rfl rfl, W_cond, W_ok]
theorem w_mulr : W (binop .mul (.rol l) (.int j) μ) P = ((0 ≤ j ∧ j < 1000000 ∧ l.length * j.toNat ≤ room) ∧ P (.rol (List.replicate j.toNat l).flatten) μ) := by
  rw [show binop .mul (.rol l) (.int j) μ = if 0 ≤ j ∧ j < 1000000 ∧ l.length * j.toNat ≤ room then .ok (.rol (List.replicate j.toNat l).flatten) μ else .bad from Eq.trans rfl rfl, W_cond, W_ok]
theorem w_mult : W (binop .mul (.tup l) (.int j) μ) P = ((0 ≤ j ∧ j ≤ 1000 ∧ l.length ≠ 0 ∧ l.length ≤ 1000) ∧ P (.tup (List.replicate j.toNat l).flatten) μ) := by
  rw [show binop .mul (.tup l) (.int j) μ = if 0 ≤ j ∧ j ≤ 1000 ∧ l.length ≠ 0 ∧ l.length ≤ 1000 then .ok (.tup (List.replicate j.toNat l).flatten) μ else .bad from Eq.trans rfl rfl, W_cond, W_ok]
/-- an item -/
def itP (l : List D) (i : Int) (k : D → Prop) : Prop := ∃ (n : Nat) (d : D), ixn l.length i = some n ∧ l[n]? = some d ∧ k d
theorem it_eq {R : D → Res D} (hR : ∀ d, R d = .ok d μ) : W (match (ixn l.length i).bind fun k => l[k]? with | some d => R d | none => .bad) P = itP l i fun d => P d μ := by
  unfold itP
  cases h : ixn l.length i with
  | none => simp only [Option.bind_none]; rw [W_bad]; simp
  | some n =>
    simp only [Option.bind_some]
    cases h2 : l[n]? with
    | none => simp only [W_bad]; simp [h2]
    | some d => simp only [hR, W_ok]; simp [h2]
theorem w_ixt : W (ixop (.tup l) (.int i) μ) P = itP l i fun d => P d μ := it_eq fun _ => Eq.trans rfl rfl
theorem w_ixr : W (ixop (.rol l) (.int i) μ) P = itP l i fun d => P d μ := it_eq fun _ => Eq.trans rfl rfl
theorem w_ixf : W (ixop (.frl l) (.int i) μ) P = itP l i fun d => P d μ := it_eq fun _ => Eq.trans rfl rfl
/-- what stands at a place -/
def lsP (μ : Sto) (a : Nat) (k : List D → Prop) : Prop := ∃ l, μ[a]? = some (.lst l) ∧ k l
theorem lsP_of (h : μ[a]? = some (.lst l)) {q : List D → Prop} : lsP μ a q = q l := by
  unfold lsP; rw [h]; apply propext
  exact ⟨fun ⟨l', e, z⟩ => by cases e; exact z, fun z => ⟨l, rfl, z⟩⟩
theorem w_ixl : W (ixop (.loc a) (.int i) μ) P = lsP μ a fun l => itP l i fun d => P d μ := by
  unfold lsP
  cases h : μ[a]? with
  | none => rw [show ixop (.loc a) (.int i) μ = .bad by simp only [ixop, h], W_bad]; simp
  | some m =>
    cases m with
    | dic x => rw [show ixop (.loc a) (.int i) μ = .bad by simp only [ixop, h], W_bad]; simp
    | lst l =>
      have e : ixop (.loc a) (.int i) μ = match (ixn l.length i).bind fun k => l[k]? with | some d => .ok d μ | none => .bad := by simp only [ixop, h] <;> rfl
      rw [e, it_eq fun _ => Eq.trans rfl rfl]
      apply propext
      exact ⟨fun z => ⟨l, rfl, z⟩, fun ⟨l', e, z⟩ => by cases e; exact z⟩
theorem itP_nat {n : Nat} {d : D} {q : D → Prop} (hn : l[n]? = some d) : itP l (n : Int) q = q d := by
  have hlt := (List.getElem?_eq_some_iff.mp hn).1
  have e : ixn l.length (n : Int) = some n := by unfold ixn; rw [if_pos (by omega), if_pos (by omega)]; simp
  unfold itP
  apply propext
  exact ⟨fun ⟨m, d', e1, e2, z⟩ => by rw [e] at e1; cases e1; rw [hn] at e2; cases e2; exact z, fun z => ⟨n, d, e, hn, z⟩⟩
theorem itP_by {q : D → Prop} (h0 : 0 ≤ i) (h1 : i < l.length) (h : ∀ d ∈ l, l[i.toNat]? = some d → q d) : itP l i q := by
  have hlt : i.toNat < l.length := by omega
  refine ⟨i.toNat, l[i.toNat], ?_, List.getElem?_eq_getElem hlt, h _ (List.getElem_mem hlt) (List.getElem?_eq_getElem hlt)⟩
  unfold ixn; rw [if_pos h0, if_pos h1]
theorem it0 {d : D} {q : D → Prop} : itP (d :: l) 0 q = q d := itP_nat (n := 0) rfl
theorem it1 {d e : D} {q : D → Prop} : itP (d :: e :: l) 1 q = q e := itP_nat (n := 1) rfl
theorem it2 {d e f : D} {q : D → Prop} : itP (d :: e :: f :: l) 2 q = q f := itP_nat (n := 2) rfl
theorem it3 {d e f g : D} {q : D → Prop} : itP (d :: e :: f :: g :: l) 3 q = q g := itP_nat (n := 3) rfl
theorem it4 {d e f g h : D} {q : D → Prop} : itP (d :: e :: f :: g :: h :: l) 4 q = q h := itP_nat (n := 4) rfl
theorem it_m1 {d : D} {q : D → Prop} : itP (l ++ [d]) (-1) q = q d := by
  have e : ixn (l ++ [d]).length (-1) = some l.length := by
    unfold ixn; rw [if_neg (by decide), List.length_append, List.length_singleton, if_pos (by omega)]
    congr 1; omega
  unfold itP
  apply propext
  exact ⟨fun ⟨m, d', e1, e2, z⟩ => by rw [e] at e1; cases e1; simp at e2; subst e2; exact z, fun z => ⟨_, d, e, by simp, z⟩⟩
theorem w_lent : W (bltop .len [.tup l] μ) P = P (.int (l.length : Nat)) μ := by rw [show bltop .len [.tup l] μ = .ok (.int (l.length : Nat)) μ from Eq.trans rfl rfl, W_ok]
theorem w_lenr : W (bltop .len [.rol l] μ) P = P (.int (l.length : Nat)) μ := by rw [show bltop .len [.rol l] μ = .ok (.int (l.length : Nat)) μ from Eq.trans rfl rfl, W_ok]
theorem w_lenf : W (bltop .len [.frl l] μ) P = P (.int (l.length : Nat)) μ := by rw [show bltop .len [.frl l] μ = .ok (.int (l.length : Nat)) μ from Eq.trans rfl rfl, W_ok]
theorem w_lens {s : List Nat} : W (bltop .len [.str s] μ) P = (s.length ≤ room ∧ P (.int (s.length : Nat)) μ) := by
  rw [show bltop .len [.str s] μ = if s.length ≤ room then .ok (.int (s.length : Nat)) μ else .bad by
    simp only [bltop, lenD]
    split
    · rename_i n h; split at h
      · rename_i q; cases h; rw [if_pos q]; rfl
      · cases h
    · rename_i h; split at h
      · cases h
      · rename_i q; rw [if_neg q], W_cond, W_ok]
theorem w_lenl : W (bltop .len [.loc a] μ) P = lsP μ a fun l => P (.int (l.length : Nat)) μ := by
  unfold lsP
  simp only [bltop, lenD]
  cases h : μ[a]? with
  | none => simp only [W_bad]; simp
  | some m =>
    cases m with
    | dic x => simp only [W_bad]; simp
    | lst l =>
      simp only [W_ok]
      apply propext
      exact ⟨fun z => ⟨l, rfl, z⟩, fun ⟨l', e, z⟩ => by cases e; exact z⟩
theorem w_abs : W (bltop .abs [.int i] μ) P = P (.int (if i < 0 then -i else i)) μ := by rw [show bltop .abs [.int i] μ = .ok (.int (if i < 0 then -i else i)) μ from Eq.trans rfl rfl, W_ok]
theorem w_inti : W (bltop .int [.int i] μ) P = P (.int i) μ := by rw [show bltop .int [.int i] μ = .ok (.int i) μ from Eq.trans rfl rfl, W_ok]
theorem w_intb {p : Bool} : W (bltop .int [.bl p] μ) P = P (.int (if p then 1 else 0)) μ := by rw [show bltop .int [.bl p] μ = .ok (.int (if p then 1 else 0)) μ from Eq.trans rfl rfl, W_ok]
theorem w_max : W (bltop .max2 [.int i, .int j] μ) P = P (.int (if j > i then j else i)) μ := by rw [show bltop .max2 [.int i, .int j] μ = .ok (.int (if j > i then j else i)) μ from Eq.trans rfl rfl, W_ok]
theorem w_min : W (bltop .min2 [.int i, .int j] μ) P = P (.int (if j < i then j else i)) μ := by rw [show bltop .min2 [.int i, .int j] μ = .ok (.int (if j < i then j else i)) μ from Eq.trans rfl rfl, W_ok]
theorem w_tupt : W (bltop .tuple [.tup l] μ) P = P (.tup l) μ := by rw [show bltop .tuple [.tup l] μ = .ok (.tup l) μ from Eq.trans rfl rfl, W_ok]
theorem w_tupr : W (bltop .tuple [.rol l] μ) P = P (.tup l) μ := by rw [show bltop .tuple [.rol l] μ = .ok (.tup l) μ from Eq.trans rfl rfl, W_ok]
theorem w_tupl : W (bltop .tuple [.loc a] μ) P = lsP μ a fun l => P (.tup l) μ := by
  unfold lsP
  simp only [bltop, itemsD]
  cases h : μ[a]? with
  | none => simp only [W_bad]; simp
  | some m =>
    cases m with
    | dic x => simp only [W_bad]; simp
    | lst l => simp only [W_ok]; simp
theorem w_listt : W (bltop .list [.tup l] μ) P = P (.rol l) μ := by rw [show bltop .list [.tup l] μ = .ok (.rol l) μ from Eq.trans rfl rfl, W_ok]
theorem w_listr : W (bltop .list [.rol l] μ) P = P (.rol l) μ := by rw [show bltop .list [.rol l] μ = .ok (.rol l) μ from Eq.trans rfl rfl, W_ok]
theorem w_listMt : W (bltop .listM [.tup l] μ) P = P (.loc μ.length) (μ ++ [.lst l]) := by rw [show bltop .listM [.tup l] μ = .ok (.loc μ.length) (μ ++ [.lst l]) from Eq.trans rfl rfl, W_ok]
theorem w_slt {lo hi : Option Int} : W (slop (.tup l) lo hi μ) P = P (.tup (cut l lo hi)) μ := by rw [show slop (.tup l) lo hi μ = .ok (.tup (cut l lo hi)) μ from Eq.trans rfl rfl, W_ok]
theorem w_slr {lo hi : Option Int} : W (slop (.rol l) lo hi μ) P = P (.rol (cut l lo hi)) μ := by rw [show slop (.rol l) lo hi μ = .ok (.rol (cut l lo hi)) μ from Eq.trans rfl rfl, W_ok]
theorem w_sls {s : List Nat} {lo hi : Option Int} : W (slop (.str s) lo hi μ) P = (s.length ≤ room ∧ P (.str (cut s lo hi)) μ) := by
  rw [show slop (.str s) lo hi μ = if s.length ≤ room then .ok (.str (cut s lo hi)) μ else .bad from Eq.trans rfl rfl, W_cond, W_ok]
theorem w_app {x : D} : W (mthop .append (.loc a) [x] μ) P = lsP μ a fun l => l.length < room ∧ P .non (μ.set a (.lst (l ++ [x]))) := by
  unfold lsP
  cases h : μ[a]? with
  | none => rw [show mthop .append (.loc a) [x] μ = .bad by simp only [mthop, h], W_bad]; simp
  | some m =>
    cases m with
    | dic y => rw [show mthop .append (.loc a) [x] μ = .bad by simp only [mthop, h], W_bad]; simp
    | lst l =>
      rw [show mthop .append (.loc a) [x] μ = if l.length < room then .ok .non (μ.set a (.lst (l ++ [x]))) else .bad by simp only [mthop, h], W_cond, W_ok]
      simp
theorem recv_l {m : Mt} (hm : m ≠ .upper) : (recv m (.loc a) μ = true) = ∃ l, μ[a]? = some (.lst l) := by
  cases h : μ[a]? with
  | none => cases m <;> simp [recv, rowD, h] at *
  | some x => cases x <;> cases m <;> simp [recv, rowD, h] at *
theorem w_sset {x : D} {q : Sto → Prop} : onS (ssetop (.loc a) (.int i) x μ) q = lsP μ a fun l => ∃ n, ixn l.length i = some n ∧ q (μ.set a (.lst (l.set n x))) := by
  unfold lsP
  simp only [ssetop]
  cases h : μ[a]? with
  | none => simp [onS]
  | some m =>
    cases m with
    | dic y => simp [onS]
    | lst l => cases h2 : ixn l.length i <;> simp [onS, h2]
theorem src_s {s : List Nat} : srcOf (.str s) μ = some (.its (s.map fun c => .str [c])) := Eq.trans rfl rfl
theorem src_t : srcOf (.tup l) μ = some (.its l) := Eq.trans rfl rfl
theorem src_r : srcOf (.rol l) μ = some (.its l) := Eq.trans rfl rfl
theorem src_f : srcOf (.frl l) μ = some (.its l) := Eq.trans rfl rfl
theorem w_all {α : Type} {p : α → Bool} {xs : List α} : W (bltop .all [.rol (xs.map fun x => .bl (p x))] μ) P = P (.bl (xs.all p)) μ := by
  have e : omap blD (xs.map fun x => D.bl (p x)) = some (xs.map p) := by
    induction xs with
    | nil => rfl
    | cons x xs ih => simp only [List.map_cons, omap, blD, ih]
  rw [show bltop .all [.rol (xs.map fun x => .bl (p x))] μ = .ok (.bl ((xs.map p).all id)) μ by simp only [bltop, e], W_ok, List.all_map]
  rfl
theorem w_any {α : Type} {p : α → Bool} {xs : List α} : W (bltop .any [.rol (xs.map fun x => .bl (p x))] μ) P = P (.bl (xs.any p)) μ := by
  have e : omap blD (xs.map fun x => D.bl (p x)) = some (xs.map p) := by
    induction xs with
    | nil => rfl
    | cons x xs ih => simp only [List.map_cons, omap, blD, ih]
  rw [show bltop .any [.rol (xs.map fun x => .bl (p x))] μ = .ok (.bl ((xs.map p).any id)) μ by simp only [bltop, e], W_ok, List.any_map]
  rfl
theorem c_eqs {x y : List Nat} : cmpop .eq (.str x) (.str y) μ = some (decide (x = y)) := Eq.trans rfl rfl
theorem c_nes {x y : List Nat} : cmpop .ne (.str x) (.str y) μ = some (!decide (x = y)) := Eq.trans rfl rfl
theorem c_les {x y : List Nat} : cmpop .le (.str x) (.str y) μ = some (!decide (y < x)) := Eq.trans rfl rfl
theorem c_ins {c : Nat} {y : List Nat} : cmpop .isin (.str [c]) (.str y) μ = some (decide (c ∈ y)) := Eq.trans rfl rfl
theorem ite_bl {p : Prop} [Decidable p] {t f : Sto → Prop} : onB t f (.bl (decide p)) μ = ((p → t μ) ∧ (¬ p → f μ)) := by
  by_cases h : p
  · rw [decide_eq_true h]; exact propext ⟨fun z => ⟨fun _ => z, fun n => absurd h n⟩, fun z => z.1 h⟩
  · rw [decide_eq_false h]; exact propext ⟨fun z => ⟨fun n => absurd n h, fun _ => z⟩, fun z => z.2 h⟩
theorem ite_nb {p : Prop} [Decidable p] {t f : Sto → Prop} : onB t f (.bl (!decide p)) μ = ((¬ p → t μ) ∧ (p → f μ)) := by
  by_cases h : p
  · rw [decide_eq_true h]; exact propext ⟨fun z => ⟨fun n => absurd h n, fun _ => z⟩, fun z => z.2 h⟩
  · rw [decide_eq_false h]; exact propext ⟨fun z => ⟨fun _ => z, fun n => absurd n h⟩, fun z => z.1 h⟩
theorem onO_d {p : Prop} [Decidable p] {t f : Prop} : onO (some (decide p)) t f = ((p → t) ∧ (¬ p → f)) := by
  by_cases h : p
  · rw [decide_eq_true h]; exact propext ⟨fun z => ⟨fun _ => z, fun n => absurd h n⟩, fun z => z.1 h⟩
  · rw [decide_eq_false h]; exact propext ⟨fun z => ⟨fun n => absurd n h, fun _ => z⟩, fun z => z.2 h⟩
theorem onO_n {p : Prop} [Decidable p] {t f : Prop} : onO (some (!decide p)) t f = ((¬ p → t) ∧ (p → f)) := by
  by_cases h : p
  · rw [decide_eq_true h]; exact propext ⟨fun z => ⟨fun n => absurd h n, fun _ => z⟩, fun z => z.2 h⟩
  · rw [decide_eq_false h]; exact propext ⟨fun z => ⟨fun _ => z, fun n => absurd n h⟩, fun z => z.1 h⟩
theorem onO_b {x : Bool} {t f : Prop} : onO (some x) t f = ((x = true → t) ∧ (x = false → f)) := by
  cases x
  · exact propext ⟨fun z => ⟨nofun, fun _ => z⟩, fun z => z.2 rfl⟩
  · exact propext ⟨fun z => ⟨fun _ => z, nofun⟩, fun z => z.1 rfl⟩
theorem onB_b {t f : Sto → Prop} {x : Bool} : onB t f (.bl x) μ = ((x = true → t μ) ∧ (x = false → f μ)) := by
  cases x
  · exact propext ⟨fun z => ⟨nofun, fun _ => z⟩, fun z => z.2 rfl⟩
  · exact propext ⟨fun z => ⟨fun _ => z, nofun⟩, fun z => z.1 rfl⟩
theorem nr_non : (noRng .non = true) = True := propext (Iff.intro (fun _ => trivial) fun _ => rfl)
theorem nr_bl {x : Bool} : (noRng (.bl x) = true) = True := propext (Iff.intro (fun _ => trivial) fun _ => rfl)
theorem nr_int {x : Int} : (noRng (.int x) = true) = True := propext (Iff.intro (fun _ => trivial) fun _ => rfl)
theorem nr_str {x : List Nat} : (noRng (.str x) = true) = True := propext (Iff.intro (fun _ => trivial) fun _ => rfl)
theorem nr_tup {x : List D} : (noRng (.tup x) = true) = True := propext (Iff.intro (fun _ => trivial) fun _ => rfl)
theorem nr_rol {x : List D} : (noRng (.rol x) = true) = True := propext (Iff.intro (fun _ => trivial) fun _ => rfl)
theorem nr_frl {x : List D} : (noRng (.frl x) = true) = True := propext (Iff.intro (fun _ => trivial) fun _ => rfl)
theorem nr_dct {x : List (DKey × D)} : (noRng (.dct x) = true) = True := propext (Iff.intro (fun _ => trivial) fun _ => rfl)
theorem nr_loc {x : Nat} : (noRng (.loc x) = true) = True := propext (Iff.intro (fun _ => trivial) fun _ => rfl)
theorem rc_index {x : List D} : (recv .index (.rol x) μ = true) = True := propext (Iff.intro (fun _ => trivial) fun _ => rfl)
theorem rc_count {x : List D} : (recv .count (.rol x) μ = true) = True := propext (Iff.intro (fun _ => trivial) fun _ => rfl)
theorem w_rng1 : W (bltop .rng1 [.int j] μ) P = ((-(2 ^ 62) ≤ j ∧ j < 2 ^ 62) ∧ P (.rng 0 j) μ) := by
  rw [show bltop .rng1 [.int j] μ = if -(2 ^ 62) ≤ j ∧ j < 2 ^ 62 then .ok (.rng 0 j) μ else .bad from Eq.trans rfl rfl, W_cond, W_ok]
theorem src_g {lo hi : Int} : srcOf (.rng lo hi) μ = rngOf lo hi := Eq.trans rfl rfl
theorem dat_strs {n : Nat} : ∀ ts : List (List Nat), omap (dat μ (n + 1)) (ts.map .str) = some (ts.map fun t => .str ⟨t.toArray⟩)
  | [] => rfl
  | t :: ts => by simp only [List.map_cons, omap, dat_strs ts]; rfl
theorem plain_strs : ∀ ts : List (List Nat), plainPs (ts.map fun t => PyData.str ⟨t.toArray⟩) = true
  | [] => rfl
  | t :: ts => by simp only [List.map_cons, plainPs, plain_strs ts]; rfl
theorem eqv_ss (a b : List Nat) : PyData.eqv (.str ⟨a.toArray⟩) (.str ⟨b.toArray⟩) = decide (a = b) := by
  show ((⟨a.toArray⟩ : Str) == ⟨b.toArray⟩) = _
  by_cases h : a = b
  · subst h; simp
  · rw [decide_eq_false h]
    exact beq_eq_false_iff_ne.mpr fun z => h (by have := congrArg (fun s : Str => s.cps.toList) z; simpa using this)
theorem w_index_s {ts : List (List Nat)} {x : List Nat} (hx : x ∈ ts) : W (mthop .index (.rol (ts.map .str)) [.str x] μ) P = P (.int (ts.idxOf x : Nat)) μ := by
  have e : (ts.map fun t => PyData.str ⟨t.toArray⟩).findIdx? (fun y => PyData.eqv y (.str ⟨x.toArray⟩)) = some (ts.idxOf x) := by
    induction ts with
    | nil => cases hx
    | cons t ts ih =>
      rw [List.map_cons, List.findIdx?_cons, eqv_ss, List.idxOf_cons]
      by_cases h : t = x
      · subst h; simp
      · have hx' : x ∈ ts := by
          rcases List.mem_cons.mp hx with z | z
          · exact absurd z.symm h
          · exact z
        have : (t == x) = false := beq_eq_false_iff_ne.mpr h
        simp only [h, decide_false, Bool.false_eq_true, if_false, ih hx', Option.map_some, this, cond_false]
  have e2 : indexop (.rol (ts.map .str)) (.str x) μ = .ok (.int (ts.idxOf x : Nat)) μ := by
    have e3 : dat μ 60 (.str x) = some (.str ⟨x.toArray⟩) := rfl
    simp only [indexop, rowD, Option.bind_some, plainsD, dat_strs (n := 59), plain_strs, if_true, e3, e]
    rfl
  rw [show mthop .index (.rol (ts.map .str)) [.str x] μ = indexop (.rol (ts.map .str)) (.str x) μ from Eq.trans rfl rfl, e2, W_ok]
theorem w_count_s {ts : List (List Nat)} {x : List Nat} : W (mthop .count (.rol (ts.map .str)) [.str x] μ) P = P (.int (ts.count x : Nat)) μ := by
  have e : (ts.map fun t => PyData.str ⟨t.toArray⟩).countP (fun y => PyData.eqv y (.str ⟨x.toArray⟩)) = ts.count x := by
    induction ts with
    | nil => rfl
    | cons t ts ih =>
      rw [List.map_cons, List.countP_cons, eqv_ss, List.count_cons, ih]
      by_cases h : t = x <;> simp [h]
  have e2 : countop (.rol (ts.map .str)) (.str x) μ = .ok (.int (ts.count x : Nat)) μ := by
    have e3 : dat μ 60 (.str x) = some (.str ⟨x.toArray⟩) := rfl
    simp only [countop, rowD, Option.bind_some, plainsD, dat_strs (n := 59), plain_strs, if_true, e3, e]
    rfl
  rw [show mthop .count (.rol (ts.map .str)) [.str x] μ = countop (.rol (ts.map .str)) (.str x) μ from Eq.trans rfl rfl, e2, W_ok]
theorem w_trub {b : Bool} : W (bltop .tru [.bl b] μ) P = P (.bl b) μ := by rw [show bltop .tru [.bl b] μ = .ok (.bl b) μ from Eq.trans rfl rfl, W_ok]
theorem w_trur {l : List D} : W (bltop .tru [.rol l] μ) P = P (.bl (!l.isEmpty)) μ := by rw [show bltop .tru [.rol l] μ = .ok (.bl (!l.isEmpty)) μ from Eq.trans rfl rfl, W_ok]
theorem w_trut {l : List D} : W (bltop .tru [.tup l] μ) P = P (.bl (!l.isEmpty)) μ := by rw [show bltop .tru [.tup l] μ = .ok (.bl (!l.isEmpty)) μ from Eq.trans rfl rfl, W_ok]
end
section
variable {c : Call} {kw : Kwp} {ρ : Loc} {μ : Sto} {P : D → Sto → Prop}
theorem W_xop {o : XOp} {es : List E} : W (ev c kw (.xop o es) ρ μ) P = W (evs c kw es ρ μ) fun xs μ => W (xopD o xs μ) P := by simp only [ev, W_bind]
theorem w_mk0 {j : Nat} : W (xopD (.mk j) [] μ) P = P (.exo j []) μ := by
  show W (if ([] : List D).length ≤ 1 then Res.ok (D.exo j []) μ else .bad) P = _
  rw [if_pos (by decide), W_ok]
theorem w_mk1 {j : Nat} {d : D} : W (xopD (.mk j) [d] μ) P = P (.exo j [d]) μ := by
  show W (if [d].length ≤ 1 then Res.ok (D.exo j [d]) μ else .bad) P = _
  rw [if_pos (show [d].length ≤ 1 from Nat.le_refl 1), W_ok]
theorem w_isx {j cl : Nat} {l : List D} : W (xopD (.isx j) [.exo cl l] μ) P = (cl < 21 ∧ P (.bl (subX cl j)) μ) := by
  show W (if cl < 21 then Res.ok (D.bl (subX cl j)) μ else .bad) P = _
  rw [W_cond, W_ok]
theorem w_fld {f : Str} {cl : Nat} {d : D} : W (xopD (.fld f) [.exo cl [d]] μ) P = ((cl < 17 ∧ errF cl = f) ∧ P d μ) := by
  show W (if cl < 17 ∧ errF cl = f then Res.ok d μ else .bad) P = _
  rw [W_cond, W_ok]
end
end Ev

namespace Ev
open PySem

/-! ### how long a text of a value can be -/
mutual
def wt : PyData → Nat
  | .none => 4
  | .bool _ => 5
  | .int _ => 1921
  | .str x => 10 * x.length + 2
  | .list xs => 2 + wts xs
  | .tuple xs => 3 + wts xs
  | .dict kvs => 2 + wtk kvs
def wts : List PyData → Nat
  | [] => 0
  | x :: xs => wt x + 2 + wts xs
def wtk : List (PyData × PyData) → Nat
  | [] => 0
  | (k, v) :: r => wt k + wt v + 4 + wtk r
end
/-! ints of at most b, texts of the first 128 signs -/
mutual
def okp (b : Nat) : PyData → Prop
  | .none => True
  | .bool _ => True
  | .int i => i.natAbs ≤ b
  | .str x => ∀ c ∈ x.cps.toList, c < 128
  | .list xs => okps b xs
  | .tuple xs => okps b xs
  | .dict kvs => okpk b kvs
def okps (b : Nat) : List PyData → Prop
  | [] => True
  | x :: xs => okp b x ∧ okps b xs
def okpk (b : Nat) : List (PyData × PyData) → Prop
  | [] => True
  | (k, v) :: r => okp b k ∧ okp b v ∧ okpk b r
end
mutual
theorem okp_mono {b b' : Nat} (h : b ≤ b') : ∀ {t : PyData}, okp b t → okp b' t
  | .none, _ => trivial
  | .bool _, _ => trivial
  | .int i, q => Nat.le_trans (show i.natAbs ≤ b from by simpa only [okp] using q) h |> fun z => by simpa only [okp] using z
  | .str x, q => by simpa only [okp] using q
  | .list xs, q => by simp only [okp] at q ⊢; exact okps_mono h q
  | .tuple xs, q => by simp only [okp] at q ⊢; exact okps_mono h q
  | .dict kvs, q => by simp only [okp] at q ⊢; exact okpk_mono h q
theorem okps_mono {b b' : Nat} (h : b ≤ b') : ∀ {t : List PyData}, okps b t → okps b' t
  | [], _ => trivial
  | x :: xs, q => ⟨okp_mono h q.1, okps_mono h q.2⟩
theorem okpk_mono {b b' : Nat} (h : b ≤ b') : ∀ {t : List (PyData × PyData)}, okpk b t → okpk b' t
  | [], _ => trivial
  | (k, v) :: r, q => ⟨okp_mono h q.1, okp_mono h q.2.1, okpk_mono h q.2.2⟩
end
def big1900 : Nat := 2 ^ 1900
theorem log_of {i : Int} (h : i.natAbs ≤ big1900) : i.natAbs.log2 < 1920 := by
  by_cases h0 : i.natAbs = 0
  · rw [h0]; decide
  · exact (Nat.log2_lt h0).mpr (Nat.lt_of_le_of_lt h (by unfold big1900; exact Nat.pow_lt_pow_right (by decide) (by decide)))
mutual
theorem okp_showable : ∀ {t : PyData}, okp big1900 t → t.showable = true
  | .none, _ => rfl
  | .bool _, _ => rfl
  | .int i, q => by simp only [okp] at q; exact decide_eq_true (log_of q)
  | .str x, _ => rfl
  | .list xs, q => by simp only [okp] at q; exact okps_showable q
  | .tuple xs, q => by simp only [okp] at q; exact okps_showable q
  | .dict kvs, q => by simp only [okp] at q; exact okpk_showable q
theorem okps_showable : ∀ {t : List PyData}, okps big1900 t → PyData.showableAll t = true
  | [], _ => rfl
  | x :: xs, q => by simp only [PyData.showableAll, okp_showable q.1, okps_showable q.2, Bool.and_self]
theorem okpk_showable : ∀ {t : List (PyData × PyData)}, okpk big1900 t → PyData.showableKv t = true
  | [], _ => rfl
  | (k, v) :: r, q => by simp only [PyData.showableKv, okp_showable q.1, okp_showable q.2.1, okpk_showable q.2.2, Bool.and_self]
end
theorem join_le (ts : List Str) : (Str.join ", " ts).length ≤ piled ts := by
  by_cases h : ts = []
  · subst h; exact Nat.le_refl _
  · have := join_length_add ts h; omega
theorem textFrom_le : ∀ (ts : List Str) (k : Nat) (acc : Str), (textFrom k acc ts).length ≤ acc.length + piled ts
  | [], k, acc => by simp [textFrom]
  | t :: ts, k, acc => by
    simp only [textFrom]
    have ih := textFrom_le ts (k + 1) (acc ++ (if k > 0 then ", " else "" : String) ++ t)
    have e : ((acc ++ (if k > 0 then ", " else "" : String) ++ t : Str)).length ≤ acc.length + 2 + t.length := by
      rw [strLen_append, strLen_append]
      have : ((if k > 0 then ", " else "" : String) : Str).length ≤ 2 := by split <;> decide
      omega
    rw [piled_cons]; omega
mutual
theorem shown_le : ∀ {t : PyData}, okp big1900 t → t.shown.length ≤ wt t
  | .none, _ => by simp only [PyData.shown, wt]; decide
  | .bool b, _ => by cases b <;> (simp only [PyData.shown, wt]; decide)
  | .int i, q => by
    simp only [okp] at q
    simp only [PyData.shown, wt]
    exact PyProof.Rows.int_text_len_1921 (log_of q)
  | .str x, q => by
    simp only [okp] at q
    simp only [PyData.shown, wt]
    exact StrLaws.reprText_len x fun c hc => Nat.lt_of_lt_of_le (q c hc) (by decide)
  | .list xs, q => by
    simp only [okp] at q
    simp only [PyData.shown, wt]
    have h := shownAll_le q
    unfold listText
    rw [strLen_append]
    have h2 := textFrom_le (PyData.shownAll xs) 0 ("[" : Str)
    have e1 : ("[" : Str).length = 1 := by decide
    have e2 : ("]" : Str).length = 1 := by decide
    omega
  | .tuple xs, q => by
    simp only [okp] at q
    simp only [PyData.shown, wt]
    have h := shownAll_le q
    unfold tupleText
    rw [strLen_append, strLen_append]
    have h2 := join_le (PyData.shownAll xs)
    have e1 : ("(" : Str).length = 1 := by decide
    have e2 : ((if (PyData.shownAll xs).length == 1 then ",)" else ")" : String) : Str).length ≤ 2 := by split <;> decide
    omega
  | .dict kvs, q => by
    simp only [okp] at q
    simp only [PyData.shown, wt]
    have h := shownKv_le q
    unfold dictText
    rw [strLen_append, strLen_append]
    have h2 := join_le (PyData.shownKv kvs)
    have e1 : ("{" : Str).length = 1 := by decide
    have e2 : ("}" : Str).length = 1 := by decide
    omega
theorem shownAll_le : ∀ {t : List PyData}, okps big1900 t → piled (PyData.shownAll t) ≤ wts t
  | [], _ => Nat.le_refl _
  | x :: xs, q => by
    simp only [PyData.shownAll, wts, piled_cons]
    have := shown_le q.1
    have := shownAll_le q.2
    omega
theorem shownKv_le : ∀ {t : List (PyData × PyData)}, okpk big1900 t → piled (PyData.shownKv t) ≤ wtk t
  | [], _ => Nat.le_refl _
  | (k, v) :: r, q => by
    simp only [PyData.shownKv, wtk, piled_cons]
    have := shown_le q.1
    have := shown_le q.2.1
    have := shownKv_le q.2.2
    rw [strLen_append, strLen_append]
    have e1 : (": " : Str).length = 2 := by decide
    omega
end

/-! ### things: values of which all is known but which -/
theorem omap_mono {α β : Type} {f g : α → Option β} : ∀ {l : List α} {r : List β}, omap f l = some r → (∀ a b, f a = some b → g a = some b) → omap g l = some r
  | [], r, h, _ => h
  | a :: l, r, h, hf => by
    obtain ⟨b, bs, h1, h2, rfl⟩ := omap_cons h
    simp only [omap, hf a b h1, omap_mono h2 hf]
theorem map_some2 {α β : Type} {o o' : Option α} {f : α → β} {b : β} (h : o.map f = some b) (i : ∀ a, o = some a → o' = some a) : o'.map f = some b := by
  obtain ⟨a, h1, rfl⟩ := map_some' h
  rw [i a h1]; rfl
/-- data that hold no place are the same over every store -/
theorem dat_mono {μ : Sto} : ∀ (n m : Nat) {d : D} {t : PyData}, n ≤ m → dat [] n d = some t → dat μ m d = some t
  | 0, _, d, t, _, h => by cases h
  | n + 1, 0, _, _, h, _ => by omega
  | n + 1, m + 1, d, t, hm, h => by
    have ih : ∀ {d : D} {t : PyData}, dat [] n d = some t → dat μ m d = some t := fun h => dat_mono n m (by omega) h
    cases d with
    | non => exact h
    | bl b => exact h
    | int i => exact h
    | str s => exact h
    | tup l => exact map_some2 h fun a h => omap_mono h fun a b => ih
    | rol l => exact map_some2 h fun a h => omap_mono h fun a b => ih
    | frl l => exact map_some2 h fun a h => omap_mono h fun a b => ih
    | dct l => exact map_some2 h fun a h => omap_mono h fun a b h => map_some2 h fun _ h => ih h
    | rng i j => cases h
    | exo c l => cases h
    | loc k => simp [dat] at h
def Th (n b w : Nat) (d : D) : Prop := ∃ t, dat [] n d = some t ∧ okp b t ∧ wt t ≤ w
def ThL (n b w : Nat) (l : List D) : Prop := ∃ ts, omap (dat [] n) l = some ts ∧ okps b ts ∧ wts ts ≤ w
section
variable {μ : Sto} {n m b b' w w' v : Nat} {d : D} {l k : List D}
theorem Th.up (h : Th n b w d) (hn : n ≤ m) (hb : b ≤ b') (hw : w ≤ w') : Th m b' w' d := by
  obtain ⟨t, h1, h2, h3⟩ := h
  exact ⟨t, dat_mono n m hn h1, okp_mono hb h2, Nat.le_trans h3 hw⟩
theorem ThL.up (h : ThL n b w l) (hn : n ≤ m) (hb : b ≤ b') (hw : w ≤ w') : ThL m b' w' l := by
  obtain ⟨t, h1, h2, h3⟩ := h
  exact ⟨t, omap_mono h1 fun a b => dat_mono n m hn, okps_mono hb h2, Nat.le_trans h3 hw⟩
theorem Th.non : Th (n + 1) b 4 .non := ⟨_, rfl, by simp only [okp], by simp only [wt]; omega⟩
theorem Th.bl (x : Bool) : Th (n + 1) b 5 (.bl x) := ⟨_, rfl, by simp only [okp], by simp only [wt]; omega⟩
theorem Th.int {i : Int} (h : i.natAbs ≤ b) : Th (n + 1) b 1921 (.int i) := ⟨_, rfl, by simpa only [okp] using h, by simp only [wt]; omega⟩
theorem Th.str {s : List Nat} (h : ∀ c ∈ s, c < 128) : Th (n + 1) b (10 * s.length + 2) (.str s) := ⟨_, rfl, by simpa only [okp] using h, by simp only [wt, Str.length]; simp⟩
theorem Th.tup (h : ThL n b w l) : Th (n + 1) b (3 + w) (.tup l) := by
  obtain ⟨ts, h1, h2, h3⟩ := h
  exact ⟨.tuple ts, by simp only [dat, h1, Option.map_some], by simpa only [okp] using h2, by simp only [wt]; omega⟩
theorem Th.rol (h : ThL n b w l) : Th (n + 1) b (2 + w) (.rol l) := by
  obtain ⟨ts, h1, h2, h3⟩ := h
  exact ⟨.list ts, by simp only [dat, h1, Option.map_some], by simpa only [okp] using h2, by simp only [wt]; omega⟩
theorem Th.dct0 : Th (n + 1) b 2 (.dct []) :=
  ⟨.dict [], by simp only [dat, omap, Option.map_some], by simp only [okp, okpk], by simp only [wt, wtk]; omega⟩
theorem Th.dct1 {s : List Nat} (h : Th n b w d) (hs : ∀ c ∈ s, c < 128) : Th (n + 1) b (2 + (10 * s.length + 2 + w + 4)) (.dct [(.inr s, d)]) := by
  obtain ⟨t, h1, h2, h3⟩ := h
  refine ⟨.dict [(.str ⟨s.toArray⟩, t)], by simp only [dat, omap, h1, Option.map_some, keyP], by simp only [okp, okpk]; exact ⟨by simpa using hs, h2, trivial⟩, ?_⟩
  simp only [wt, wtk, Str.length]
  simp; omega
theorem ThL.nil : ThL n b 0 [] := ⟨[], rfl, trivial, Nat.le_refl _⟩
theorem ThL.cons (h : Th n b w d) (h' : ThL n b v l) : ThL n b (w + 2 + v) (d :: l) := by
  obtain ⟨t, h1, h2, h3⟩ := h
  obtain ⟨ts, q1, q2, q3⟩ := h'
  exact ⟨t :: ts, by simp only [omap, h1, q1], ⟨h2, q2⟩, by simp only [wts]; omega⟩
theorem ThL.uncons (h : ThL n b w (d :: l)) : ∃ w1 w2, Th n b w1 d ∧ ThL n b w2 l ∧ w1 + 2 + w2 ≤ w := by
  obtain ⟨ts, h1, h2, h3⟩ := h
  obtain ⟨t, ts', q1, q2, rfl⟩ := omap_cons h1
  exact ⟨wt t, wts ts', ⟨t, q1, h2.1, Nat.le_refl _⟩, ⟨ts', q2, h2.2, Nat.le_refl _⟩, by simpa only [wts] using h3⟩
theorem ThL.append (h : ThL n b w l) (h' : ThL n b v k) : ThL n b (w + v) (l ++ k) := by
  induction l generalizing w with
  | nil => exact h'.up (Nat.le_refl _) (Nat.le_refl _) (by omega)
  | cons d l ih =>
    obtain ⟨w1, w2, h1, h2, h3⟩ := h.uncons
    exact (ThL.cons h1 (ih h2)).up (Nat.le_refl _) (Nat.le_refl _) (by omega)
/-- parted at a place -/
theorem ThL.split (h : ThL n b w l) (j : Nat) : ∃ w1 w2, ThL n b w1 (l.take j) ∧ ThL n b w2 (l.drop j) ∧ w1 + w2 ≤ w := by
  induction l generalizing w j with
  | nil => exact ⟨0, 0, by simpa using ThL.nil, by simpa using ThL.nil, by omega⟩
  | cons d l ih =>
    cases j with
    | zero => exact ⟨0, w, ThL.nil, h, by omega⟩
    | succ j =>
      obtain ⟨w1, w2, h1, h2, h3⟩ := h.uncons
      obtain ⟨v1, v2, q1, q2, q3⟩ := ih h2 j
      exact ⟨w1 + 2 + v1, v2, ThL.cons h1 q1, q2, by omega⟩
theorem ThL.at {j : Nat} (h : ThL n b w l) (hj : l[j]? = some d) : Th n b w d := by
  induction l generalizing w j with
  | nil => simp at hj
  | cons x l ih =>
    obtain ⟨w1, w2, h1, h2, h3⟩ := h.uncons
    cases j with
    | zero => simp at hj; subst hj; exact h1.up (Nat.le_refl _) (Nat.le_refl _) (by omega)
    | succ j => exact (ih h2 (by simpa using hj)).up (Nat.le_refl _) (Nat.le_refl _) (by omega)
theorem ThL.mem (h : ThL n b w l) (hd : d ∈ l) : Th n b w d := by
  obtain ⟨j, hj⟩ := List.mem_iff_getElem?.mp hd
  exact h.at hj
theorem ThL.reverse (h : ThL n b w l) : ThL n b w l.reverse := by
  induction l generalizing w with
  | nil => simpa using h
  | cons x l ih =>
    obtain ⟨w1, w2, h1, h2, h3⟩ := h.uncons
    rw [List.reverse_cons]
    exact ((ih h2).append (ThL.cons h1 ThL.nil)).up (Nat.le_refl _) (Nat.le_refl _) (by omega)
theorem ThL.len (h : ThL n b w l) : 2 * l.length ≤ w := by
  induction l generalizing w with
  | nil => simp
  | cons x l ih =>
    obtain ⟨w1, w2, h1, h2, h3⟩ := h.uncons
    have := ih h2
    rw [List.length_cons]; omega
theorem Th.untup (h : Th (n + 1) b w (.tup l)) : ThL n b (w - 3) l ∧ 3 ≤ w := by
  obtain ⟨t, h1, h2, h3⟩ := h
  obtain ⟨ts, q1, rfl⟩ := map_some' (show (omap (dat [] n) l).map PyData.tuple = some t from h1)
  simp only [okp] at h2
  simp only [wt] at h3
  exact ⟨⟨ts, q1, h2, by omega⟩, by omega⟩
theorem Th.unrol (h : Th (n + 1) b w (.rol l)) : ThL n b (w - 2) l ∧ 2 ≤ w := by
  obtain ⟨t, h1, h2, h3⟩ := h
  obtain ⟨ts, q1, rfl⟩ := map_some' (show (omap (dat [] n) l).map PyData.list = some t from h1)
  simp only [okp] at h2
  simp only [wt] at h3
  exact ⟨⟨ts, q1, h2, by omega⟩, by omega⟩
theorem Th.pos (h : Th n b w d) : ∃ m, n = m + 1 := by
  cases n with
  | zero => obtain ⟨t, z, _⟩ := h; cases z
  | succ n => exact ⟨n, rfl⟩
theorem Th.unstr {s : List Nat} (h : Th n b w (.str s)) : (∀ c ∈ s, c < 128) ∧ 10 * s.length + 2 ≤ w := by
  obtain ⟨n, rfl⟩ := h.pos
  obtain ⟨t, h1, h2, h3⟩ := h
  cases h1
  simp only [okp] at h2
  simp only [wt, Str.length] at h3
  exact ⟨by simpa using h2, by simpa using h3⟩
theorem Th.unint {i : Int} (h : Th n b w (.int i)) : i.natAbs ≤ b := by
  obtain ⟨n, rfl⟩ := h.pos
  obtain ⟨t, h1, h2, h3⟩ := h
  cases h1; simpa only [okp] using h2
theorem Th.noloc {a : Nat} (h : Th n b w (.loc a)) : False := by
  obtain ⟨n, rfl⟩ := h.pos
  obtain ⟨t, h1, h2, h3⟩ := h
  simp [dat] at h1
theorem Th.noexo {c : Nat} {l : List D} (h : Th n b w (.exo c l)) : False := by
  obtain ⟨t, h1, _⟩ := h
  cases n <;> simp [dat] at h1
theorem Th.norng {i j : Int} (h : Th n b w (.rng i j)) : False := by
  obtain ⟨n, rfl⟩ := h.pos
  obtain ⟨t, h1, h2, h3⟩ := h
  cases h1
theorem Th.nr (h : Th n b w d) : noRng d = true := by
  cases d with
  | rng i j => exact h.norng.elim
  | exo c l => exact h.noexo.elim
  | _ => rfl
/-- its text -/
theorem Th.shown (h : Th n b w d) (hn : n ≤ 60) (hb : b ≤ big1900) (hw : w ≤ room) : ∃ s, ∀ μ, shownD μ d = some s := by
  obtain ⟨t, h1, h2, h3⟩ := h
  have h2 := okp_mono hb h2
  refine ⟨t.shown.cps.toList, fun μ => ?_⟩
  unfold shownD
  rw [dat_mono n 60 hn h1]
  show (if _ then _ else _) = _
  rw [if_pos ⟨okp_showable h2, Nat.le_trans (shown_le h2) (Nat.le_trans h3 hw)⟩]
end
/-! what a def hands back as it is -/
theorem frz_th {μ : Sto} {k : Nat} : ∀ (n m : Nat) {d : D} {t : PyData}, n ≤ m → dat [] n d = some t → frz μ k m d = some d
  | 0, _, d, t, _, h => by cases h
  | n + 1, 0, _, _, h, _ => by omega
  | n + 1, m + 1, d, t, hm, h => by
    have ih : ∀ {d : D} {t : PyData}, dat [] n d = some t → frz μ k m d = some d := fun h => frz_th n m (by omega) h
    have ihL : ∀ {l : List D} {ts : List PyData}, omap (dat [] n) l = some ts → omap (frz μ k m) l = some l := by
      intro l
      induction l with
      | nil => intro ts h; rfl
      | cons a l ihl =>
        intro ts h
        obtain ⟨b, bs, h1, h2, rfl⟩ := omap_cons h
        simp only [omap, ih h1, ihl h2]
    have ihK : ∀ {l : List (DKey × D)} {ts : List (PyData × PyData)}, omap (fun p : DKey × D => (dat [] n p.2).map fun x => (keyP p.1, x)) l = some ts → omap (fun p : DKey × D => (frz μ k m p.2).map fun x => (p.1, x)) l = some l := by
      intro l
      induction l with
      | nil => intro ts h; rfl
      | cons a l ihl =>
        intro ts h
        obtain ⟨b, bs, h1, h2, rfl⟩ := omap_cons h
        obtain ⟨x, hx, rfl⟩ := map_some' h1
        simp only [omap, ih hx, ihl h2, Option.map_some]
    cases d with
    | non => rfl
    | bl b => rfl
    | int i => rfl
    | str s => rfl
    | tup l => obtain ⟨ts, q, _⟩ := map_some' (show (omap (dat [] n) l).map PyData.tuple = some t from h); simp only [frz, ihL q, Option.map_some]
    | rol l => obtain ⟨ts, q, _⟩ := map_some' (show (omap (dat [] n) l).map PyData.list = some t from h); simp only [frz, ihL q, Option.map_some]
    | frl l => obtain ⟨ts, q, _⟩ := map_some' (show (omap (dat [] n) l).map PyData.list = some t from h); simp only [frz, ihL q, Option.map_some]
    | dct l => obtain ⟨ts, q, _⟩ := map_some' (show (omap _ l).map PyData.dict = some t from h); simp only [frz, ihK q, Option.map_some]
    | rng i j => cases h
    | exo c l => cases h
    | loc k => simp [dat] at h
theorem Th.frz {μ : Sto} {k n b w : Nat} {d : D} (h : Th n b w d) (hn : n ≤ 100) : Ev.frz μ k 100 d = some d := by
  obtain ⟨t, h1, _⟩ := h
  exact frz_th n 100 hn h1
end Ev

namespace Ev
open PySem

/-! ### loops -/
def nextP (I : Loc → Sto → Prop) (R : Out → Sto → Prop) : Out → Sto → Prop := fun o μ => match o with
  | .nx ρ => I ρ μ
  | .rt d => R (.rt d) μ
  | .bk ρ => R (.nx ρ) μ
  | .ct ρ => I ρ μ
theorem nextP_nx {I : Loc → Sto → Prop} {R : Out → Sto → Prop} {ρ : Loc} {μ : Sto} : nextP I R (.nx ρ) μ = I ρ μ := propext Iff.rfl
theorem nextP_ct {I : Loc → Sto → Prop} {R : Out → Sto → Prop} {ρ : Loc} {μ : Sto} : nextP I R (.ct ρ) μ = I ρ μ := propext Iff.rfl
theorem nextP_bk {I : Loc → Sto → Prop} {R : Out → Sto → Prop} {ρ : Loc} {μ : Sto} : nextP I R (.bk ρ) μ = R (.nx ρ) μ := propext Iff.rfl
theorem nextP_rt {I : Loc → Sto → Prop} {R : Out → Sto → Prop} {d : D} {μ : Sto} : nextP I R (.rt d) μ = R (.rt d) μ := propext Iff.rfl
/-- a walk whose i-th thing, as long as I holds, is g i -/
theorem W_forN {src : Src} {t : Tg} {body : Loc → Sto → Res Out} {R : Out → Sto → Prop} {n : Nat} {g : Nat → D} {I : Nat → Loc → Sto → Prop}
    (hat : ∀ i ρ μ, I i ρ μ → i < n → src.at i μ = some (some (g i))) (hend : ∀ ρ μ, I n ρ μ → src.at n μ = some none)
    (step : ∀ i ρ μ, i < n → I i ρ μ → ∃ ρ1, bindT t (g i) μ ρ = some ρ1 ∧ W (body ρ1 μ) (nextP (I (i + 1)) R)) (fin : ∀ ρ μ, I n ρ μ → R (.nx ρ) μ) :
    ∀ (m i : Nat) (ρ : Loc) (μ : Sto), i + m = n → I i ρ μ → W (forN src t body (m + 1) i ρ μ) R
  | 0, i, ρ, μ, hm, h => by
    have e : i = n := by omega
    subst e
    unfold forN
    rw [hend ρ μ h]
    with_unfolding_all exact fin ρ μ h
  | m + 1, i, ρ, μ, hm, h => by
    unfold forN
    rw [hat i ρ μ h (by omega)]
    obtain ⟨ρ1, h1, h2⟩ := step i ρ μ (by omega) h
    show W (match bindT t (g i) μ ρ with | none => Res.bad | some ρ1 => _) R
    rw [h1]
    show W (Res.bind _ _) R
    rw [W_bind]
    refine h2.mono fun o μ' q => ?_
    cases o with
    | nx ρ' => exact W_forN hat hend step fin m (i + 1) ρ' μ' (by omega) q
    | rt d => with_unfolding_all exact q
    | bk ρ' => with_unfolding_all exact q
    | ct ρ' => exact W_forN hat hend step fin m (i + 1) ρ' μ' (by omega) q
theorem at_its {l : List D} {i : Nat} {μ : Sto} : Src.at (.its l) i μ = some l[i]? := Eq.trans rfl rfl
theorem W_for_its {l : List D} {t : Tg} {body : Loc → Sto → Res Out} {R : Out → Sto → Prop} {ρ : Loc} {μ : Sto} (I : Nat → Loc → Sto → Prop) (h0 : I 0 ρ μ)
    (step : ∀ i d ρ μ, l[i]? = some d → I i ρ μ → ∃ ρ1, bindT t d μ ρ = some ρ1 ∧ W (body ρ1 μ) (nextP (I (i + 1)) R)) (fin : ∀ ρ μ, I l.length ρ μ → R (.nx ρ) μ) : W (forN (.its l) t body (Src.its l).fuel 0 ρ μ) R := by
  refine W_forN (n := l.length) (g := fun i => l.getD i .non) (I := I) (fun i ρ μ _ hi => ?_) (fun ρ μ _ => ?_) (fun i ρ μ hi h => ?_) fin l.length 0 ρ μ (by omega) h0
  · rw [at_its, List.getElem?_eq_getElem hi]; simp [List.getD, hi]
  · rw [at_its, List.getElem?_eq_none (Nat.le_refl _)]
  · have e : l[i]? = some (l.getD i .non) := by rw [List.getElem?_eq_getElem hi]; simp [List.getD, hi]
    exact step i _ ρ μ e h
theorem at_rng {lo : Int} {n i : Nat} {μ : Sto} (h : i < n) : Src.at (.rng lo n) i μ = some (some (.int (lo + i))) := by simp only [Src.at, if_pos h]
theorem at_rng_end {lo : Int} {n : Nat} {μ : Sto} : Src.at (.rng lo n) n μ = some none := by simp only [Src.at, Nat.lt_irrefl, if_false]
theorem W_for_rng {lo : Int} {n : Nat} {t : Tg} {body : Loc → Sto → Res Out} {R : Out → Sto → Prop} {ρ : Loc} {μ : Sto} (I : Nat → Loc → Sto → Prop) (h0 : I 0 ρ μ)
    (step : ∀ i ρ μ, i < n → I i ρ μ → ∃ ρ1, bindT t (.int (lo + i)) μ ρ = some ρ1 ∧ W (body ρ1 μ) (nextP (I (i + 1)) R)) (fin : ∀ ρ μ, I n ρ μ → R (.nx ρ) μ) : W (forN (.rng lo n) t body (Src.rng lo n).fuel 0 ρ μ) R :=
  W_forN (n := n) (g := fun i => .int (lo + i)) (I := I) (fun i ρ μ _ hi => at_rng hi) (fun ρ μ _ => at_rng_end) step fin n 0 ρ μ (by omega) h0
theorem W_lcN {src : Src} {t : Tg} {vs : List Nat} {ρ : Loc} {test elt : Loc → Sto → Res D} {P : D → Sto → Prop} {n : Nat} {g : Nat → D} {I : Nat → List D → Sto → Prop}
    (hat : ∀ i acc μ, I i acc μ → i < n → src.at i μ = some (some (g i))) (hend : ∀ acc μ, I n acc μ → src.at n μ = some none)
    (step : ∀ i acc μ, i < n → I i acc μ → ∃ ρ1, bindT t (g i) μ (wipe ρ vs) = some ρ1 ∧ W (test ρ1 μ) (onB (fun μ2 => W (elt ρ1 μ2) fun y μ3 => acc.length < room ∧ I (i + 1) (acc ++ [y]) μ3) fun μ2 => I (i + 1) acc μ2))
    (fin : ∀ acc μ, I n acc μ → P (.rol acc) μ) :
    ∀ (m i : Nat) (acc : List D) (μ : Sto), i + m = n → I i acc μ → W (lcN src t vs ρ test elt (m + 1) i acc μ) P
  | 0, i, acc, μ, hm, h => by
    have e : i = n := by omega
    subst e
    unfold lcN
    rw [hend acc μ h]
    with_unfolding_all exact fin acc μ h
  | m + 1, i, acc, μ, hm, h => by
    unfold lcN
    rw [hat i acc μ h (by omega)]
    obtain ⟨ρ1, h1, h2⟩ := step i acc μ (by omega) h
    show W (match bindT t (g i) μ (wipe ρ vs) with | none => Res.bad | some ρ1 => _) P
    rw [h1]
    show W (Res.bind _ _) P
    rw [W_bind]
    refine h2.mono fun b μ2 q => ?_
    rcases b with _ | (_ | _) | _ | _ | _ | _ | _ | _ | _
    · cases q
    · exact W_lcN hat hend step fin m (i + 1) acc μ2 (by omega) q
    · show W (Res.bind _ _) P
      rw [W_bind]
      have q' : W (elt ρ1 μ2) fun y μ3 => acc.length < room ∧ I (i + 1) (acc ++ [y]) μ3 := q
      refine q'.mono fun y μ3 ⟨z2, z3⟩ => ?_
      show W (if acc.length < room then _ else _) P
      rw [if_pos z2]
      exact W_lcN hat hend step fin m (i + 1) (acc ++ [y]) _ (by omega) z3
    all_goals cases q
/-- each item in its turn -/
theorem W_lc_its {l : List D} {t : Tg} {vs : List Nat} {ρ : Loc} {elt : Loc → Sto → Res D} {P : D → Sto → Prop} {μ : Sto} (I : Nat → List D → Sto → Prop) (h0 : I 0 [] μ)
    (step : ∀ i d acc μ, l[i]? = some d → I i acc μ → ∃ ρ1, bindT t d μ (wipe ρ vs) = some ρ1 ∧ W (elt ρ1 μ) fun y μ3 => acc.length < room ∧ I (i + 1) (acc ++ [y]) μ3)
    (fin : ∀ acc μ, I l.length acc μ → P (.rol acc) μ) : W (lcN (.its l) t vs ρ (fun _ μ => .ok (.bl true) μ) elt (Src.its l).fuel 0 [] μ) P := by
  refine W_lcN (n := l.length) (g := fun i => l.getD i .non) (I := I) (fun i ρ μ _ hi => ?_) (fun ρ μ _ => ?_) (fun i acc μ hi h => ?_) fin l.length 0 [] μ (by omega) h0
  · rw [at_its, List.getElem?_eq_getElem hi]; simp [List.getD, hi]
  · rw [at_its, List.getElem?_eq_none (Nat.le_refl _)]
  · have e : l[i]? = some (l.getD i .non) := by rw [List.getElem?_eq_getElem hi]; simp [List.getD, hi]
    obtain ⟨ρ1, h1, h2⟩ := step i _ acc μ e h
    exact ⟨ρ1, h1, by rw [W_ok, onB_true]; exact h2⟩
theorem W_lc_rng {lo : Int} {n : Nat} {t : Tg} {vs : List Nat} {ρ : Loc} {elt : Loc → Sto → Res D} {P : D → Sto → Prop} {μ : Sto} (I : Nat → List D → Sto → Prop) (h0 : I 0 [] μ)
    (step : ∀ i acc μ, i < n → I i acc μ → ∃ ρ1, bindT t (.int (lo + i)) μ (wipe ρ vs) = some ρ1 ∧ W (elt ρ1 μ) fun y μ3 => acc.length < room ∧ I (i + 1) (acc ++ [y]) μ3)
    (fin : ∀ acc μ, I n acc μ → P (.rol acc) μ) : W (lcN (.rng lo n) t vs ρ (fun _ μ => .ok (.bl true) μ) elt (Src.rng lo n).fuel 0 [] μ) P := by
  refine W_lcN (n := n) (g := fun i => .int (lo + i)) (I := I) (fun i ρ μ _ hi => at_rng hi) (fun ρ μ _ => at_rng_end) (fun i acc μ hi h => ?_) fin n 0 [] μ (by omega) h0
  obtain ⟨ρ1, h1, h2⟩ := step i acc μ hi h
  exact ⟨ρ1, h1, by rw [W_ok, onB_true]; exact h2⟩
theorem W_clN {src : Src} {t : Tg} {vs : List Nat} {ρ : Loc} {test : Loc → Sto → Res D} {body : Loc → Sto → List D → Res (List D)} {P : List D → Sto → Prop} {n : Nat} {g : Nat → D} {I : Nat → List D → Sto → Prop}
    (hat : ∀ i acc μ, I i acc μ → i < n → src.at i μ = some (some (g i))) (hend : ∀ acc μ, I n acc μ → src.at n μ = some none)
    (step : ∀ i acc μ, i < n → I i acc μ → onS (bindT t (g i) μ (wipe ρ vs)) fun ρ1 => W (test ρ1 μ) (onB (fun μ2 => W (body ρ1 μ2 acc) fun acc' μ3 => I (i + 1) acc' μ3) fun μ2 => I (i + 1) acc μ2))
    (fin : ∀ acc μ, I n acc μ → P acc μ) :
    ∀ (m i : Nat) (acc : List D) (μ : Sto), i + m = n → I i acc μ → W (clN src t vs ρ test body (m + 1) i acc μ) P
  | 0, i, acc, μ, hm, h => by
    have e : i = n := by omega
    subst e
    unfold clN
    rw [hend acc μ h]
    with_unfolding_all exact fin acc μ h
  | m + 1, i, acc, μ, hm, h => by
    unfold clN
    rw [hat i acc μ h (by omega)]
    have q := step i acc μ (by omega) h
    show W (match bindT t (g i) μ (wipe ρ vs) with | none => Res.bad | some ρ1 => _) P
    cases hb : bindT t (g i) μ (wipe ρ vs) with
    | none => rw [hb] at q; exact q.elim
    | some ρ1 =>
      rw [hb, onS_some] at q
      show W (Res.bind _ _) P
      rw [W_bind]
      refine q.mono fun b μ2 q => ?_
      rcases b with _ | (_ | _) | _ | _ | _ | _ | _ | _ | _
      · cases q
      · exact W_clN hat hend step fin m (i + 1) acc μ2 (by omega) q
      · show W (Res.bind _ _) P
        rw [W_bind]
        have q' : W (body ρ1 μ2 acc) fun acc' μ3 => I (i + 1) acc' μ3 := q
        exact q'.mono fun acc' μ3 z => W_clN hat hend step fin m (i + 1) acc' _ (by omega) z
      all_goals cases q
theorem W_cl_its {l : List D} {t : Tg} {vs : List Nat} {ρ : Loc} {test : Loc → Sto → Res D} {body : Loc → Sto → List D → Res (List D)} {P : List D → Sto → Prop} {acc : List D} {μ : Sto} (I : Nat → List D → Sto → Prop) (h0 : I 0 acc μ)
    (step : ∀ i d acc μ, l[i]? = some d → I i acc μ → onS (bindT t d μ (wipe ρ vs)) fun ρ1 => W (test ρ1 μ) (onB (fun μ2 => W (body ρ1 μ2 acc) fun acc' μ3 => I (i + 1) acc' μ3) fun μ2 => I (i + 1) acc μ2))
    (fin : ∀ acc μ, I l.length acc μ → P acc μ) : W (clN (.its l) t vs ρ test body (Src.its l).fuel 0 acc μ) P := by
  refine W_clN (n := l.length) (g := fun i => l.getD i .non) (I := I) (fun i acc μ _ hi => ?_) (fun acc μ _ => ?_) (fun i acc μ hi h => ?_) fin l.length 0 acc μ (by omega) h0
  · rw [at_its, List.getElem?_eq_getElem hi]; simp [List.getD, hi]
  · rw [at_its, List.getElem?_eq_none (Nat.le_refl _)]
  · have e : l[i]? = some (l.getD i .non) := by rw [List.getElem?_eq_getElem hi]; simp [List.getD, hi]
    exact step i _ acc μ e h
/-- each item adds what F says -/
theorem W_cl_all {l : List D} {t : Tg} {vs : List Nat} {ρ : Loc} {test : Loc → Sto → Res D} {body : Loc → Sto → List D → Res (List D)} {P : List D → Sto → Prop} {acc : List D} {μ : Sto} (F : D → List D) (n : Nat) (hn : acc.length + (l.flatMap F).length ≤ n)
    (step : ∀ d ∈ l, ∀ acc : List D, acc.length + (F d).length ≤ n → onS (bindT t d μ (wipe ρ vs)) fun ρ1 => W (test ρ1 μ) (onB (fun μ2 => W (body ρ1 μ2 acc) fun acc' μ3 => acc' = acc ++ F d ∧ μ3 = μ) fun μ2 => F d = [] ∧ μ2 = μ))
    (fin : P (acc ++ l.flatMap F) μ) : W (clN (.its l) t vs ρ test body (Src.its l).fuel 0 acc μ) P := by
  refine W_cl_its (fun i acc' μ' => acc' = acc ++ (l.take i).flatMap F ∧ μ' = μ) ⟨by simp, rfl⟩ (fun i d acc' μ' hd h => ?_) (fun acc' μ' h => ?_)
  · obtain ⟨rfl, rfl⟩ := h
    have hi := (List.getElem?_eq_some_iff.mp hd).1
    have e1 : l.take (i + 1) = l.take i ++ [d] := by rw [List.take_add_one, hd]; rfl
    have e2 : (l.take (i + 1)).flatMap F = (l.take i).flatMap F ++ F d := by rw [e1, List.flatMap_append]; simp
    have e3 : l.flatMap F = (l.take (i + 1)).flatMap F ++ (l.drop (i + 1)).flatMap F := by rw [← List.flatMap_append, List.take_append_drop]
    have e4 := congrArg List.length e3
    rw [e2, List.length_append, List.length_append] at e4
    have q := step d (List.mem_of_getElem? hd) (acc ++ (l.take i).flatMap F) (by rw [List.length_append]; omega)
    cases hb : bindT t d μ' (wipe ρ vs) with
    | none => rw [hb] at q; exact q.elim
    | some ρ1 =>
      rw [hb, onS_some] at q
      rw [onS_some]
      refine q.mono fun b μ2 q => ?_
      rcases b with _ | (_ | _) | _ | _ | _ | _ | _ | _ | _
      · cases q
      · obtain ⟨q1, q2⟩ := (show F d = [] ∧ μ2 = μ' from q)
        show _ ∧ _
        rw [e2, q1, List.append_nil]
        exact ⟨rfl, q2⟩
      · have q' : W (body ρ1 μ2 (acc ++ (l.take i).flatMap F)) fun acc' μ3 => acc' = acc ++ (l.take i).flatMap F ++ F d ∧ μ3 = μ' := q
        show W _ _
        refine q'.mono fun acc' μ3 ⟨z1, z2⟩ => ?_
        rw [e2, ← List.append_assoc]
        exact ⟨z1, z2⟩
      all_goals cases q
  · obtain ⟨rfl, rfl⟩ := h
    rw [List.take_length]
    exact fin
/-- a comprehension that changes nothing -/
theorem W_lc_map {l : List D} {t : Tg} {vs : List Nat} {ρ : Loc} {elt : Loc → Sto → Res D} {P : D → Sto → Prop} {μ : Sto} (F : D → D) (hl : l.length ≤ room)
    (step : ∀ d ∈ l, ∃ ρ1, bindT t d μ (wipe ρ vs) = some ρ1 ∧ W (elt ρ1 μ) fun y μ3 => y = F d ∧ μ3 = μ) (fin : P (.rol (l.map F)) μ) : W (lcN (.its l) t vs ρ (fun _ μ => .ok (.bl true) μ) elt (Src.its l).fuel 0 [] μ) P := by
  refine W_lc_its (I := fun i acc μ' => μ' = μ ∧ acc = (l.take i).map F) ⟨rfl, rfl⟩ (fun i d acc μ' hd ⟨e1, e2⟩ => ?_) (fun acc μ' ⟨e1, e2⟩ => ?_)
  · subst e1 e2
    obtain ⟨ρ1, h1, h2⟩ := step d (List.mem_of_getElem? hd)
    have hi := (List.getElem?_eq_some_iff.mp hd)
    refine ⟨ρ1, h1, h2.mono fun y μ3 ⟨q1, q2⟩ => ⟨?_, q2, ?_⟩⟩
    · rw [List.length_map, List.length_take]; have := hi.1; omega
    · subst q1
      rw [List.take_add_one, hd]; simp
  · subst e1 e2
    rw [List.take_length]; exact fin
theorem W_lc_mapG {α : Type} {l : List α} {g : α → D} {t : Tg} {vs : List Nat} {ρ : Loc} {elt : Loc → Sto → Res D} {P : D → Sto → Prop} {μ : Sto} (F : α → D) (hl : l.length ≤ room)
    (step : ∀ d ∈ l, ∃ ρ1, bindT t (g d) μ (wipe ρ vs) = some ρ1 ∧ W (elt ρ1 μ) fun y μ3 => y = F d ∧ μ3 = μ) (fin : P (.rol (l.map F)) μ) : W (lcN (.its (l.map g)) t vs ρ (fun _ μ => .ok (.bl true) μ) elt (Src.its (l.map g)).fuel 0 [] μ) P := by
  refine W_lc_its (I := fun i acc μ' => μ' = μ ∧ acc = (l.take i).map F) ⟨rfl, rfl⟩ (fun i d acc μ' hd ⟨e1, e2⟩ => ?_) (fun acc μ' ⟨e1, e2⟩ => ?_)
  · subst e1 e2
    rw [List.getElem?_map] at hd
    obtain ⟨c, hc, rfl⟩ := Option.map_eq_some_iff.mp hd
    obtain ⟨ρ1, h1, h2⟩ := step c (List.mem_of_getElem? hc)
    have hi := (List.getElem?_eq_some_iff.mp hc)
    refine ⟨ρ1, h1, h2.mono fun y μ3 ⟨q1, q2⟩ => ⟨?_, q2, ?_⟩⟩
    · rw [List.length_map, List.length_take]; have := hi.1; omega
    · subst q1
      rw [List.take_add_one, hc]; simp
  · subst e1 e2
    rw [List.length_map, List.take_length]; exact fin
theorem W_lc_filter {l : List D} {t : Tg} {vs : List Nat} {ρ : Loc} {test elt : Loc → Sto → Res D} {P : D → Sto → Prop} {μ : Sto} (F : D → D) (p : D → Bool) (hl : l.length ≤ room)
    (step : ∀ d ∈ l, ∃ ρ1, bindT t d μ (wipe ρ vs) = some ρ1 ∧ W (test ρ1 μ) (fun y μ3 => y = .bl (p d) ∧ μ3 = μ) ∧ (p d = true → W (elt ρ1 μ) fun y μ3 => y = F d ∧ μ3 = μ)) (fin : P (.rol ((l.filter p).map F)) μ) :
    W (lcN (.its l) t vs ρ test elt (Src.its l).fuel 0 [] μ) P := by
  refine W_lcN (n := l.length) (g := fun i => l.getD i .non) (I := fun i acc μ' => μ' = μ ∧ acc = ((l.take i).filter p).map F) (fun i ρ μ _ hi => ?_) (fun ρ μ _ => ?_) (fun i acc μ' hi ⟨e1, e2⟩ => ?_) (fun acc μ' ⟨e1, e2⟩ => ?_) l.length 0 [] μ (by omega) ⟨rfl, rfl⟩
  · rw [at_its, List.getElem?_eq_getElem hi]; simp [List.getD, hi]
  · rw [at_its, List.getElem?_eq_none (Nat.le_refl _)]
  · subst e1 e2
    have hd : l[i]? = some (l.getD i .non) := by rw [List.getElem?_eq_getElem hi]; simp [List.getD, hi]
    generalize l.getD i .non = d at hd
    obtain ⟨ρ1, h1, h2, h3⟩ := step d (List.mem_of_getElem? hd)
    have hln : ((List.take i l).filter p).length ≤ i := Nat.le_trans (List.length_filter_le _ _) (by rw [List.length_take]; omega)
    refine ⟨ρ1, h1, h2.mono fun y μ3 ⟨q1, q2⟩ => ?_⟩
    subst q1 q2
    rw [onB_b]
    refine ⟨fun hp => (h3 hp).mono fun y μ3 ⟨q1, q2⟩ => ⟨?_, q2, ?_⟩, fun hp => ⟨rfl, ?_⟩⟩
    · rw [List.length_map]; omega
    · subst q1
      rw [List.take_add_one, hd]; simp [List.filter_append, hp]
    · rw [List.take_add_one, hd]; simp [List.filter_append, hp]
  · subst e1 e2
    rw [List.take_length]; exact fin
/-- while, by a number that falls -/
theorem W_whN {c : Loc → Sto → Res D} {body : Loc → Sto → Res Out} {R : Out → Sto → Prop} (I : Nat → Loc → Sto → Prop)
    (step : ∀ m ρ μ, I m ρ μ → W (c ρ μ) (onB (fun μ1 => ∃ m', m = m' + 1 ∧ W (body ρ μ1) (nextP (I m') R)) fun μ1 => R (.nx ρ) μ1)) : ∀ (k m : Nat) (ρ : Loc) (μ : Sto), m < k → I m ρ μ → W (whN c body k ρ μ) R
  | 0, m, ρ, μ, hk, h => by omega
  | k + 1, m, ρ, μ, hk, h => by
    unfold whN
    rw [W_bind]
    refine (step m ρ μ h).mono fun b μ1 q => ?_
    rcases b with _ | (_ | _) | _ | _ | _ | _ | _ | _ | _
    · cases q
    · with_unfolding_all exact q
    · have q' : ∃ m', m = m' + 1 ∧ W (body ρ μ1) (nextP (I m') R) := q
      obtain ⟨m', hm, hz⟩ := q'
      show W (Res.bind _ _) R
      rw [W_bind]
      refine hz.mono fun o μ2 z => ?_
      cases o with
      | nx ρ' => exact W_whN I step k m' ρ' μ2 (by omega) z
      | rt d => with_unfolding_all exact z
      | bk ρ' => with_unfolding_all exact z
      | ct ρ' => exact W_whN I step k m' ρ' μ2 (by omega) z
    all_goals cases q
theorem rng_0 {j : Int} (h : -(2 ^ 62) ≤ j) (h2 : j < 2 ^ 62) : rngOf 0 j = some (.rng 0 j.toNat) := by
  unfold rngOf
  rw [if_pos ⟨by decide, by decide, h, h2⟩, Int.sub_zero]

/-! ### the urn: the one thing that is changed from afar -/
def Urn (u n : Nat) (μ : Sto) : Prop := ∃ a b k : Int, μ[u]? = some (.lst [.int a, .int b, .int k]) ∧ 0 ≤ a ∧ 0 ≤ b ∧ b < 2305843009213693951 ∧ 0 ≤ k ∧ k ≤ n
/-- the same store but for the urn -/
def Sm (u : Nat) (μ μ' : Sto) : Prop := μ'.length = μ.length ∧ (∀ k, k ≠ u → μ'[k]? = μ[k]?) ∧ ∃ a b c : Int, μ'[u]? = some (.lst [.int a, .int b, .int c])
section
variable {u n m : Nat} {μ μ' μ'' : Sto}
theorem Urn.lt (h : Urn u n μ) : u < μ.length := by
  obtain ⟨a, b, c, h, _⟩ := h
  exact (List.getElem?_eq_some_iff.mp h).1
theorem Urn.up (h : Urn u n μ) (i : n ≤ m) : Urn u m μ := by
  obtain ⟨a, b, k, h1, h2, h3, h4, h5, h6⟩ := h
  exact ⟨a, b, k, h1, h2, h3, h4, h5, by omega⟩
theorem Urn.push {x : Sto} (h : Urn u n μ) : Urn u n (μ ++ x) := by
  have := h.lt
  obtain ⟨a, b, k, h1, h2⟩ := h
  exact ⟨a, b, k, by rw [List.getElem?_append_left this]; exact h1, h2⟩
theorem Urn.pop {x : Sto} (h : Urn u n (μ ++ x)) (hu : u < μ.length) : Urn u n μ := by
  obtain ⟨a, b, k, h1, h2⟩ := h
  exact ⟨a, b, k, by rw [List.getElem?_append_left hu] at h1; exact h1, h2⟩
theorem Sm.refl (h : Urn u n μ) : Sm u μ μ := by
  obtain ⟨a, b, k, h1, _⟩ := h
  exact ⟨rfl, fun _ _ => rfl, a, b, k, h1⟩
theorem Sm.trans (h : Sm u μ μ') (h' : Sm u μ' μ'') : Sm u μ μ'' := ⟨h'.1.trans h.1, fun k hk => (h'.2.1 k hk).trans (h.2.1 k hk), h'.2.2⟩
theorem Sm.at {k : Nat} {x : Mo} (h : Sm u μ μ') (hk : μ[k]? = some x) (hu : k ≠ u) : μ'[k]? = some x := (h.2.1 k hu).trans hk
/-- what a def made behind the store is still there -/
theorem Sm.pop {x : Sto} (h : Sm u (μ ++ x) μ') (hu : u < μ.length) : ∃ μ1, μ' = μ1 ++ x ∧ Sm u μ μ1 := by
  obtain ⟨h1, h2, a, b, c, h3⟩ := h
  rw [List.length_append] at h1
  refine ⟨μ'.take μ.length, ?_, by rw [List.length_take]; omega, fun k hk => ?_, a, b, c, ?_⟩
  · have e : μ'.drop μ.length = x := by
      apply List.ext_getElem?
      intro i
      rw [List.getElem?_drop, h2 _ (by omega), List.getElem?_append_right (by omega)]
      congr 1; omega
    calc μ' = μ'.take μ.length ++ μ'.drop μ.length := (List.take_append_drop ..).symm
      _ = _ := by rw [e]
  · rw [List.getElem?_take]
    split
    · rename_i hlt; rw [h2 k hk, List.getElem?_append_left hlt]
    · rename_i hge; rw [List.getElem?_eq_none (by omega)]
  · rw [List.getElem?_take, if_pos hu]; exact h3
theorem Sm.push {x : Sto} (h : Sm u μ μ') (hu : u < μ.length) : Sm u (μ ++ x) (μ' ++ x) := by
  obtain ⟨h1, h2, a, b, c, h3⟩ := h
  refine ⟨by simp [h1], fun k hk => ?_, a, b, c, by rw [List.getElem?_append_left (by omega)]; exact h3⟩
  by_cases hl : k < μ.length
  · rw [List.getElem?_append_left hl, List.getElem?_append_left (by omega), h2 k hk]
  · rw [List.getElem?_append_right (by omega), List.getElem?_append_right (by omega), h1]
theorem Sm.len (h : Sm u μ μ') : μ'.length = μ.length := h.1
/-- what a def hands back -/
theorem W_trim {P : D → Sto → Prop} {x : Sto} {d d2 : D} (h : Sm u μ μ') (hf : frz (μ' ++ x) μ.length 100 d = some d2) (hP : P d2 μ') : W (trim μ d (μ' ++ x)) P := by
  have hk : Kept μ (μ' ++ x) := fun k m hk hm => by
    rw [List.getElem?_append_left (by rw [h.1]; exact hk)] at hm
    by_cases e : k = u
    · subst e
      obtain ⟨a, b, c, h3⟩ := h.2.2
      rw [h3] at hm; cases hm
      exact .inr rfl
    · rw [h.2.1 k e] at hm; exact .inl hm
  unfold trim
  rw [if_pos ⟨hk, by rw [List.length_append, h.1]; omega⟩, hf]
  have e : (μ' ++ x).take μ.length = μ' := by rw [← h.1]; simp
  rw [e]
  show W (.ok d2 μ') P
  rw [W_ok]; exact hP
theorem W_trim0 {P : D → Sto → Prop} {x : Sto} {d d2 : D} (hf : frz (μ ++ x) μ.length 100 d = some d2) (hP : P d2 μ) : W (trim μ d (μ ++ x)) P := by
  have hk : Kept μ (μ ++ x) := fun k m hk hm => by
    rw [List.getElem?_append_left hk] at hm
    exact .inl hm
  unfold trim
  rw [if_pos ⟨hk, by rw [List.length_append]; omega⟩, hf]
  have e : (μ ++ x).take μ.length = μ := by simp
  rw [e]
  show W (.ok d2 μ) P
  rw [W_ok]; exact hP
end
end Ev

namespace Ev
open PySem
def f_law_urn : Fn := ⟨2, 4, [.set 2 (.ite (.cmp .lt (.var 1) (.blt .len [.var 0])) (.ix (.var 0) (.var 1)) (.bin .add (.bin .mul (.int 19) (.var 1)) (.int 6))),
  .set 3 (.bin .mul (.bin .mod (.blt .abs [.var 2]) (.bin .pow (.bin .pow (.int 10) (.int 60)) (.int 5))) (.blt .int [.cmp .ge (.blt .abs [.var 2]) (.bin .pow (.int 10) (.int 18))])),
  .ret (.lstM [.var 3, .bin .mod (.bin .add (.bin .add (.bin .mul (.bin .mod (.var 2) (.int 2305843009213693951)) (.int 48271)) (.bin .mul (.bin .mul (.int 7027) (.var 1)) (.var 1))) (.int 29)) (.int 2305843009213693907), .int 0])], false⟩
def f_law_take : Fn := ⟨2, 5, [.iff (.cmp .gt (.ix (.var 0) (.int 0)) (.int 0))
   [.set 4 (.bin .mod (.ix (.var 0) (.int 0)) (.var 1)),
   .sset (.var 0) (.int 0) (.bin .fdiv (.ix (.var 0) (.int 0)) (.var 1)),
   .ret (.var 4)]
   [],
  .sset (.var 0) (.int 2) (.bin .add (.ix (.var 0) (.int 2)) (.int 1)),
  .set 2 (.ix (.lst [.int 2147483647, .int 2147483629, .int 2147483587, .int 2147483579, .int 2147483563]) (.bin .mod (.ix (.var 0) (.int 2)) (.int 5))),
  .set 3 (.bin .mod (.bin .pow (.bin .add (.bin .add (.ix (.var 0) (.int 1)) (.bin .mul (.bin .mul (.int 65537) (.ix (.var 0) (.int 2))) (.ix (.var 0) (.int 2)))) (.int 43)) (.int 3)) (.var 2)),
  .ret (.bin .mod (.bin .fdiv (.bin .mod (.bin .mul (.var 3) (.bin .add (.bin .mod (.var 3) (.int 10007)) (.bin .mul (.int 83) (.ix (.var 0) (.int 2))))) (.int 2305843009213693921)) (.int 101)) (.var 1))], false⟩
def f_law_of : Fn := ⟨2, 2, [.ret (.ix (.var 1) (.call 3 [.var 0, .blt .len [.var 1]]))], false⟩
def f_law_odd : Fn := ⟨1, 4, [.set 1 (.lst [.non, .bl true, .bl false, .int 0, .int 1, .neg (.int 1), .int 16, .int 17, .bin .pow (.int 10) (.int 20), .str [], .str [120], .str [102, 101, 110, 99, 101], .str [115, 116, 111, 114, 101], .str [108, 105, 110, 101], .tup [], .lst [], .dct0, .tup [.str [102, 101, 110, 99, 101]]]),
  .set 2 (.call 4 [.var 0, .bin .add (.var 1) (.lst [.tup [.str [108, 111, 97, 100], .str [120]], .tup [.int 0, .int 1], .tup [.str [108, 105, 110, 101], .int 4], .tup [.int 0, .int 0, .int 1]])]),
  .for (.nm 3) (.rng1 (.call 4 [.var 0, .lst [.int 0, .int 0, .int 0, .int 1, .int 2, .int 5]]))
   [.set 2 (.call 4 [.var 0, .lst [.tup [.var 2], .lst [.var 2], .dct1 (.str [97]) (.var 2), .tup [.var 2, .int 0], .slU (.tup [.var 2, .var 2]) (.bin .add (.int 1) (.blt .int [.cmp .lt (.var 3) (.int 3)]))]])],
  .ret (.var 2)], false⟩
def f_law_sorts : Fn := ⟨1, 2, [.set 1 (.lst [.xop (.isx 0) [.var 0], .xop (.isx 1) [.var 0], .xop (.isx 2) [.var 0]]),
  .set 1 (.bin .add (.var 1) (.lst [.xop (.isx 3) [.var 0], .xop (.isx 4) [.var 0], .xop (.isx 5) [.var 0]])),
  .set 1 (.bin .add (.var 1) (.lst [.xop (.isx 6) [.var 0], .xop (.isx 7) [.var 0], .xop (.isx 8) [.var 0]])),
  .set 1 (.bin .add (.var 1) (.lst [.xop (.isx 9) [.var 0], .xop (.isx 10) [.var 0], .xop (.isx 11) [.var 0]])),
  .set 1 (.bin .add (.var 1) (.lst [.xop (.isx 12) [.var 0], .xop (.isx 13) [.var 0], .xop (.isx 14) [.var 0]])),
  .set 1 (.bin .add (.var 1) (.lst [.xop (.isx 15) [.var 0], .xop (.isx 16) [.var 0], .xop (.isx 17) [.var 0]])),
  .set 1 (.bin .add (.var 1) (.lst [.xop (.isx 18) [.var 0], .xop (.isx 19) [.var 0]])),
  .ret (.bin .add (.var 1) (.lst [.xop (.isx 20) [.var 0]]))], false⟩
def f_law_made : Fn := ⟨1, 2, [.set 1 (.lst [.xop (.mk 0) [.var 0], .xop (.mk 1) [.var 0], .xop (.mk 2) [.var 0], .xop (.mk 3) [.var 0], .xop (.mk 4) [.var 0], .xop (.mk 5) [.var 0]]),
  .set 1 (.bin .add (.var 1) (.lst [.xop (.mk 6) [.var 0], .xop (.mk 7) [.var 0], .xop (.mk 8) [.var 0], .xop (.mk 9) [.var 0], .xop (.mk 10) [.var 0]])),
  .set 1 (.bin .add (.var 1) (.lst [.xop (.mk 11) [.var 0], .xop (.mk 12) [.var 0], .xop (.mk 13) [.var 0], .xop (.mk 14) [.var 0], .xop (.mk 15) [.var 0]])),
  .ret (.bin .add (.var 1) (.lst [.xop (.mk 16) [.var 0], .xop (.mk 17) [], .xop (.mk 18) [], .xop (.mk 19) [], .xop (.mk 20) []]))], false⟩
def f_law_named : Fn := ⟨1, 2, [.set 1 (.lst [.xop (.mk 0) [.var 0], .xop (.mk 1) [.var 0], .xop (.mk 2) [.var 0], .xop (.mk 3) [.var 0]]),
  .set 1 (.bin .add (.var 1) (.lst [.xop (.mk 4) [.var 0], .xop (.mk 5) [.var 0], .xop (.mk 6) [.var 0]])),
  .set 1 (.bin .add (.var 1) (.lst [.xop (.mk 7) [.var 0], .xop (.mk 8) [.var 0], .xop (.mk 9) [.var 0], .xop (.mk 10) [.var 0]])),
  .set 1 (.bin .add (.var 1) (.lst [.xop (.mk 11) [.var 0], .xop (.mk 12) [.var 0], .xop (.mk 13) [.var 0]])),
  .ret (.bin .add (.var 1) (.lst [.xop (.mk 14) [.var 0], .xop (.mk 15) [.var 0], .xop (.mk 16) [.var 0]]))], false⟩
def f_law_kept : Fn := ⟨1, 2, [.set 1 (.lst [.xop (.fld "step") [.ix (.var 0) (.int 0)], .xop (.fld "thread") [.ix (.var 0) (.int 1)], .xop (.fld "thread") [.ix (.var 0) (.int 2)], .xop (.fld "thread") [.ix (.var 0) (.int 3)], .xop (.fld "thread") [.ix (.var 0) (.int 4)], .xop (.fld "variable") [.ix (.var 0) (.int 5)]]),
  .set 1 (.bin .add (.var 1) (.lst [.xop (.fld "variable") [.ix (.var 0) (.int 6)], .xop (.fld "pair") [.ix (.var 0) (.int 7)], .xop (.fld "limit") [.ix (.var 0) (.int 8)], .xop (.fld "limit") [.ix (.var 0) (.int 9)], .xop (.fld "value") [.ix (.var 0) (.int 10)], .xop (.fld "value") [.ix (.var 0) (.int 11)]])),
  .ret (.bin .add (.var 1) (.lst [.xop (.fld "value") [.ix (.var 0) (.int 12)], .xop (.fld "remedy") [.ix (.var 0) (.int 13)], .xop (.fld "number") [.ix (.var 0) (.int 14)], .xop (.fld "row") [.ix (.var 0) (.int 15)], .xop (.fld "line") [.ix (.var 0) (.int 16)]]))], false⟩
def f_law_right_14 : Fn := ⟨1, 8, [.for (.nm 1) (.seq (.bin .add (.lc [6] (.nm 6) (.rng1 (.int 6)) (.call 6 [.var 0])) (.lst [.non, .int 0, .tup [.str [100, 111], .int 0], .lst [.int 1], .dct1 (.str [97]) (.tup [])])))
   [.par 2 3 (.blt .repr [.var 1]) (.call 135 [.var 1]),
   .for (.tp [4, 5]) (.enu (.var 3))
    [.iff (.cmp .ne (.call 134 [.var 5]) (.lc [7] (.nm 7) (.rng1 (.int 21)) (.cmp .eq (.var 7) (.var 4))))
     [.ret (.bl false)]
     [],
    .iff (.or (.not (.xop (.isx 21) [.var 5])) (.not (.xop (.isx 22) [.var 5])))
     [.ret (.bl false)]
     []],
   .iff (.or (.cmp .ne (.blt .repr [.call 137 [.var 3]]) (.blt .repr [.bin .mul (.lst [.var 1]) (.int 17)])) (.cmp .ne (.blt .repr [.call 137 [.call 136 [.var 1]]]) (.blt .repr [.bin .mul (.lst [.var 1]) (.int 17)])))
    [.ret (.bl false)]
    [],
   .iff (.cmp .ne (.blt .repr [.var 1]) (.var 2))
    [.ret (.bl false)]
    []],
  .ret (.bl true)], false⟩
def f_law_14 : Fn := ⟨1, 2, [.ret (.blt .all [.lc [1] (.nm 1) (.rng1 (.blt .max2 [.int 1, .blt .min2 [.int 3, .blt .len [.var 0]]])) (.call 138 [.call 2 [.var 0, .var 1]])])], false⟩
def fnsL : List (Nat × Fn) := [(2, f_law_urn), (3, f_law_take), (4, f_law_of), (6, f_law_odd), (134, f_law_sorts), (135, f_law_made), (136, f_law_named), (137, f_law_kept), (138, f_law_right_14), (139, f_law_14)]
def kwL : Kwp := ()
theorem r_law_urn {k : Nat} : run fnsL kwL (k + 1) 2 = runFn (run fnsL kwL k) kwL f_law_urn := run_succ rfl
theorem r_law_take {k : Nat} : run fnsL kwL (k + 1) 3 = runFn (run fnsL kwL k) kwL f_law_take := run_succ rfl
theorem r_law_of {k : Nat} : run fnsL kwL (k + 1) 4 = runFn (run fnsL kwL k) kwL f_law_of := run_succ rfl
theorem r_law_odd {k : Nat} : run fnsL kwL (k + 1) 6 = runFn (run fnsL kwL k) kwL f_law_odd := run_succ rfl
theorem r_law_sorts {k : Nat} : run fnsL kwL (k + 1) 134 = runFn (run fnsL kwL k) kwL f_law_sorts := run_succ rfl
theorem r_law_made {k : Nat} : run fnsL kwL (k + 1) 135 = runFn (run fnsL kwL k) kwL f_law_made := run_succ rfl
theorem r_law_named {k : Nat} : run fnsL kwL (k + 1) 136 = runFn (run fnsL kwL k) kwL f_law_named := run_succ rfl
theorem r_law_kept {k : Nat} : run fnsL kwL (k + 1) 137 = runFn (run fnsL kwL k) kwL f_law_kept := run_succ rfl
theorem r_law_right_14 {k : Nat} : run fnsL kwL (k + 1) 138 = runFn (run fnsL kwL k) kwL f_law_right_14 := run_succ rfl
theorem r_law_14 {k : Nat} : run fnsL kwL (k + 1) 139 = runFn (run fnsL kwL k) kwL f_law_14 := run_succ rfl
end Ev
namespace Ev
open PySem

theorem fuel {k m : Nat} (h : m + 1 ≤ k) : ∃ k', k = k' + 1 ∧ m ≤ k' := ⟨k - 1, by omega, by omega⟩
/-! ### the urn -/
theorem pow_big {i : Int} (h0 : 0 ≤ i) (h : i < 10000000000000000000000000000000000000000) : i.natAbs < 2 ^ 2000 := by
  have : i.natAbs < 10000000000000000000000000000000000000000 := by omega
  exact Nat.lt_trans this (by decide +kernel)
theorem sp_take {k u n : Nat} {m : Int} {μ : Sto} (hk : 1 ≤ k) (hU : Urn u n μ) (hn : n < 1099511627776) (h0 : 0 < m) (h1 : m < 1073741824) :
    W (run fnsL kwL k 3 [.loc u, .int m] μ) fun d μ' => ∃ i, d = .int i ∧ 0 ≤ i ∧ i < m ∧ Sm u μ μ' ∧ Urn u (n + 1) μ' := by
  obtain ⟨k, rfl, _⟩ := fuel hk
  rw [r_law_take]
  have hS := Sm.refl hU
  obtain ⟨a, b, c, hu, ha, hb, hb2, hc, hc2⟩ := hU
  refine W_fn rfl rfl ?_
  have hlt := (List.getElem?_eq_some_iff.mp hu).1
  have sm : ∀ x y z : Int, Sm u μ (μ.set u (.lst [.int x, .int y, .int z])) := fun x y z => ⟨by simp, fun k hk => by rw [List.getElem?_set_ne (Ne.symm hk)], x, y, z, by simp [hlt]⟩
  have hs : ∀ x, (μ.set u x)[u]? = some x := fun x => set_get hu
  simp only [f_law_take, enter]
  (try simp only [W_xop, w_mk0, w_mk1, w_isx, w_fld, W_ok, W_var, W_non, W_bl, W_int, W_str, W_bin, W_neg, W_cmp, W_chn, W_and, W_or, W_not, W_iteE, W_tup, W_lst, W_lstM, W_dct0, W_dct0M, W_dct1, W_ix, W_slU, W_slL, W_slLU, W_rev, W_call, W_callk, W_blt, W_isi, W_mth, W_mtc, W_zip, zip_t, zip_r, nr_non, nr_bl, nr_int, nr_str, nr_tup, nr_rol, nr_frl, nr_dct, nr_loc, rc_index, rc_count, w_rng1, w_trub, w_trur, w_trut, src_g, W_evnil, W_evcons, W_set, W_setL, rolP_rol, W_par, W_par3, W_unp, bind_t, bind_r, bind_1, bind_0, c_isb, W_enu, enum_t, enum_r, W_lcNE, W_srtS, W_srtL, W_srtF, W_lzip, W_lenS, W_last, W_cl, W_sset, W_expr, W_ret, W_if, W_pass, W_brk, W_cnt, W_for, W_lc, W_lcIf, W_seq, W_rng1, W_rng2, W_cons, W_nil, seqP_nx, seqP_rt, seqP_bk, seqP_ct, retP_rt, retP_nx, onB_true, onB_false, notB_bl, onS_some, getP_some, intP_int, tupP_tup, strP_str, List.getElem?_cons_zero, List.getElem?_cons_succ, List.set_cons_zero, List.set_cons_succ, List.length_cons, List.length_nil, List.map_cons, List.map_nil, List.cons_append, List.nil_append, List.replicate_succ, List.replicate_zero, w_add, w_sub, w_mul, w_fdiv, w_mod, w_addB, w_subB, w_adds, w_addt, w_addr, w_mulr, w_mult, w_ixt, w_ixr, w_ixf, w_ixl, it0, it1, it2, it3, it4, w_lent, w_lenr, w_lenf, w_lens, w_lenl, w_abs, w_inti, w_intb, w_max, w_min, w_tupt, w_tupr, w_tupl, w_listt, w_listr, w_listMt, w_slt, w_slr, w_sls, w_app, w_sset, ite_bl, ite_nb, onO_d, onO_n, Ev.wipe, c_gt, c_lt, c_ge, c_le, c_eq, c_ne, c_eqs, c_nes, c_les, c_ins, src_s, src_t, src_r, src_f, set_set, w_pow10, room, Nat.reduceAdd, Nat.reduceLeDiff, Nat.zero_add, Int.reduceLE, Int.reduceLT, Int.reduceNeg, true_and, and_true])
  simp only [lsP_of hu, it0]
  (try simp only [W_xop, w_mk0, w_mk1, w_isx, w_fld, W_ok, W_var, W_non, W_bl, W_int, W_str, W_bin, W_neg, W_cmp, W_chn, W_and, W_or, W_not, W_iteE, W_tup, W_lst, W_lstM, W_dct0, W_dct0M, W_dct1, W_ix, W_slU, W_slL, W_slLU, W_rev, W_call, W_callk, W_blt, W_isi, W_mth, W_mtc, W_zip, zip_t, zip_r, nr_non, nr_bl, nr_int, nr_str, nr_tup, nr_rol, nr_frl, nr_dct, nr_loc, rc_index, rc_count, w_rng1, w_trub, w_trur, w_trut, src_g, W_evnil, W_evcons, W_set, W_setL, rolP_rol, W_par, W_par3, W_unp, bind_t, bind_r, bind_1, bind_0, c_isb, W_enu, enum_t, enum_r, W_lcNE, W_srtS, W_srtL, W_srtF, W_lzip, W_lenS, W_last, W_cl, W_sset, W_expr, W_ret, W_if, W_pass, W_brk, W_cnt, W_for, W_lc, W_lcIf, W_seq, W_rng1, W_rng2, W_cons, W_nil, seqP_nx, seqP_rt, seqP_bk, seqP_ct, retP_rt, retP_nx, onB_true, onB_false, notB_bl, onS_some, getP_some, intP_int, tupP_tup, strP_str, List.getElem?_cons_zero, List.getElem?_cons_succ, List.set_cons_zero, List.set_cons_succ, List.length_cons, List.length_nil, List.map_cons, List.map_nil, List.cons_append, List.nil_append, List.replicate_succ, List.replicate_zero, w_add, w_sub, w_mul, w_fdiv, w_mod, w_addB, w_subB, w_adds, w_addt, w_addr, w_mulr, w_mult, w_ixt, w_ixr, w_ixf, w_ixl, it0, it1, it2, it3, it4, w_lent, w_lenr, w_lenf, w_lens, w_lenl, w_abs, w_inti, w_intb, w_max, w_min, w_tupt, w_tupr, w_tupl, w_listt, w_listr, w_listMt, w_slt, w_slr, w_sls, w_app, w_sset, ite_bl, ite_nb, onO_d, onO_n, Ev.wipe, c_gt, c_lt, c_ge, c_le, c_eq, c_ne, c_eqs, c_nes, c_les, c_ins, src_s, src_t, src_r, src_f, set_set, w_pow10, room, Nat.reduceAdd, Nat.reduceLeDiff, Nat.zero_add, Int.reduceLE, Int.reduceLT, Int.reduceNeg, true_and, and_true])
  refine ⟨fun hp => ?_, fun hp => ?_⟩
  · simp only [lsP_of hu, it0]
    (try simp only [W_xop, w_mk0, w_mk1, w_isx, w_fld, W_ok, W_var, W_non, W_bl, W_int, W_str, W_bin, W_neg, W_cmp, W_chn, W_and, W_or, W_not, W_iteE, W_tup, W_lst, W_lstM, W_dct0, W_dct0M, W_dct1, W_ix, W_slU, W_slL, W_slLU, W_rev, W_call, W_callk, W_blt, W_isi, W_mth, W_mtc, W_zip, zip_t, zip_r, nr_non, nr_bl, nr_int, nr_str, nr_tup, nr_rol, nr_frl, nr_dct, nr_loc, rc_index, rc_count, w_rng1, w_trub, w_trur, w_trut, src_g, W_evnil, W_evcons, W_set, W_setL, rolP_rol, W_par, W_par3, W_unp, bind_t, bind_r, bind_1, bind_0, c_isb, W_enu, enum_t, enum_r, W_lcNE, W_srtS, W_srtL, W_srtF, W_lzip, W_lenS, W_last, W_cl, W_sset, W_expr, W_ret, W_if, W_pass, W_brk, W_cnt, W_for, W_lc, W_lcIf, W_seq, W_rng1, W_rng2, W_cons, W_nil, seqP_nx, seqP_rt, seqP_bk, seqP_ct, retP_rt, retP_nx, onB_true, onB_false, notB_bl, onS_some, getP_some, intP_int, tupP_tup, strP_str, List.getElem?_cons_zero, List.getElem?_cons_succ, List.set_cons_zero, List.set_cons_succ, List.length_cons, List.length_nil, List.map_cons, List.map_nil, List.cons_append, List.nil_append, List.replicate_succ, List.replicate_zero, w_add, w_sub, w_mul, w_fdiv, w_mod, w_addB, w_subB, w_adds, w_addt, w_addr, w_mulr, w_mult, w_ixt, w_ixr, w_ixf, w_ixl, it0, it1, it2, it3, it4, w_lent, w_lenr, w_lenf, w_lens, w_lenl, w_abs, w_inti, w_intb, w_max, w_min, w_tupt, w_tupr, w_tupl, w_listt, w_listr, w_listMt, w_slt, w_slr, w_sls, w_app, w_sset, ite_bl, ite_nb, onO_d, onO_n, Ev.wipe, c_gt, c_lt, c_ge, c_le, c_eq, c_ne, c_eqs, c_nes, c_les, c_ins, src_s, src_t, src_r, src_f, set_set, w_pow10, room, Nat.reduceAdd, Nat.reduceLeDiff, Nat.zero_add, Int.reduceLE, Int.reduceLT, Int.reduceNeg, true_and, and_true])
    refine ⟨h0, ?_⟩
    simp only [lsP_of hu, it0]
    (try simp only [W_xop, w_mk0, w_mk1, w_isx, w_fld, W_ok, W_var, W_non, W_bl, W_int, W_str, W_bin, W_neg, W_cmp, W_chn, W_and, W_or, W_not, W_iteE, W_tup, W_lst, W_lstM, W_dct0, W_dct0M, W_dct1, W_ix, W_slU, W_slL, W_slLU, W_rev, W_call, W_callk, W_blt, W_isi, W_mth, W_mtc, W_zip, zip_t, zip_r, nr_non, nr_bl, nr_int, nr_str, nr_tup, nr_rol, nr_frl, nr_dct, nr_loc, rc_index, rc_count, w_rng1, w_trub, w_trur, w_trut, src_g, W_evnil, W_evcons, W_set, W_setL, rolP_rol, W_par, W_par3, W_unp, bind_t, bind_r, bind_1, bind_0, c_isb, W_enu, enum_t, enum_r, W_lcNE, W_srtS, W_srtL, W_srtF, W_lzip, W_lenS, W_last, W_cl, W_sset, W_expr, W_ret, W_if, W_pass, W_brk, W_cnt, W_for, W_lc, W_lcIf, W_seq, W_rng1, W_rng2, W_cons, W_nil, seqP_nx, seqP_rt, seqP_bk, seqP_ct, retP_rt, retP_nx, onB_true, onB_false, notB_bl, onS_some, getP_some, intP_int, tupP_tup, strP_str, List.getElem?_cons_zero, List.getElem?_cons_succ, List.set_cons_zero, List.set_cons_succ, List.length_cons, List.length_nil, List.map_cons, List.map_nil, List.cons_append, List.nil_append, List.replicate_succ, List.replicate_zero, w_add, w_sub, w_mul, w_fdiv, w_mod, w_addB, w_subB, w_adds, w_addt, w_addr, w_mulr, w_mult, w_ixt, w_ixr, w_ixf, w_ixl, it0, it1, it2, it3, it4, w_lent, w_lenr, w_lenf, w_lens, w_lenl, w_abs, w_inti, w_intb, w_max, w_min, w_tupt, w_tupr, w_tupl, w_listt, w_listr, w_listMt, w_slt, w_slr, w_sls, w_app, w_sset, ite_bl, ite_nb, onO_d, onO_n, Ev.wipe, c_gt, c_lt, c_ge, c_le, c_eq, c_ne, c_eqs, c_nes, c_les, c_ins, src_s, src_t, src_r, src_f, set_set, w_pow10, room, Nat.reduceAdd, Nat.reduceLeDiff, Nat.zero_add, Int.reduceLE, Int.reduceLT, Int.reduceNeg, true_and, and_true])
    refine ⟨⟨h0, h1⟩, ?_⟩
    simp only [lsP_of hu]
    refine ⟨0, rfl, ?_⟩
    exact ⟨_, rfl, Int.emod_nonneg _ (by omega), Int.emod_lt_of_pos _ h0, sm _ _ _, ⟨_, b, c, hs _, Int.ediv_nonneg ha (by omega), hb, hb2, hc, by omega⟩⟩
  · simp only [lsP_of hu, it2]
    (try simp only [W_xop, w_mk0, w_mk1, w_isx, w_fld, W_ok, W_var, W_non, W_bl, W_int, W_str, W_bin, W_neg, W_cmp, W_chn, W_and, W_or, W_not, W_iteE, W_tup, W_lst, W_lstM, W_dct0, W_dct0M, W_dct1, W_ix, W_slU, W_slL, W_slLU, W_rev, W_call, W_callk, W_blt, W_isi, W_mth, W_mtc, W_zip, zip_t, zip_r, nr_non, nr_bl, nr_int, nr_str, nr_tup, nr_rol, nr_frl, nr_dct, nr_loc, rc_index, rc_count, w_rng1, w_trub, w_trur, w_trut, src_g, W_evnil, W_evcons, W_set, W_setL, rolP_rol, W_par, W_par3, W_unp, bind_t, bind_r, bind_1, bind_0, c_isb, W_enu, enum_t, enum_r, W_lcNE, W_srtS, W_srtL, W_srtF, W_lzip, W_lenS, W_last, W_cl, W_sset, W_expr, W_ret, W_if, W_pass, W_brk, W_cnt, W_for, W_lc, W_lcIf, W_seq, W_rng1, W_rng2, W_cons, W_nil, seqP_nx, seqP_rt, seqP_bk, seqP_ct, retP_rt, retP_nx, onB_true, onB_false, notB_bl, onS_some, getP_some, intP_int, tupP_tup, strP_str, List.getElem?_cons_zero, List.getElem?_cons_succ, List.set_cons_zero, List.set_cons_succ, List.length_cons, List.length_nil, List.map_cons, List.map_nil, List.cons_append, List.nil_append, List.replicate_succ, List.replicate_zero, w_add, w_sub, w_mul, w_fdiv, w_mod, w_addB, w_subB, w_adds, w_addt, w_addr, w_mulr, w_mult, w_ixt, w_ixr, w_ixf, w_ixl, it0, it1, it2, it3, it4, w_lent, w_lenr, w_lenf, w_lens, w_lenl, w_abs, w_inti, w_intb, w_max, w_min, w_tupt, w_tupr, w_tupl, w_listt, w_listr, w_listMt, w_slt, w_slr, w_sls, w_app, w_sset, ite_bl, ite_nb, onO_d, onO_n, Ev.wipe, c_gt, c_lt, c_ge, c_le, c_eq, c_ne, c_eqs, c_nes, c_les, c_ins, src_s, src_t, src_r, src_f, set_set, w_pow10, room, Nat.reduceAdd, Nat.reduceLeDiff, Nat.zero_add, Int.reduceLE, Int.reduceLT, Int.reduceNeg, true_and, and_true])
    simp only [lsP_of hu]
    refine ⟨2, rfl, ?_⟩
    have hv := hs (.lst [.int a, .int b, .int (c + 1)])
    simp only [List.set_cons_succ, List.set_cons_zero]
    simp only [lsP_of hv, it2, it1]
    (try simp only [W_xop, w_mk0, w_mk1, w_isx, w_fld, W_ok, W_var, W_non, W_bl, W_int, W_str, W_bin, W_neg, W_cmp, W_chn, W_and, W_or, W_not, W_iteE, W_tup, W_lst, W_lstM, W_dct0, W_dct0M, W_dct1, W_ix, W_slU, W_slL, W_slLU, W_rev, W_call, W_callk, W_blt, W_isi, W_mth, W_mtc, W_zip, zip_t, zip_r, nr_non, nr_bl, nr_int, nr_str, nr_tup, nr_rol, nr_frl, nr_dct, nr_loc, rc_index, rc_count, w_rng1, w_trub, w_trur, w_trut, src_g, W_evnil, W_evcons, W_set, W_setL, rolP_rol, W_par, W_par3, W_unp, bind_t, bind_r, bind_1, bind_0, c_isb, W_enu, enum_t, enum_r, W_lcNE, W_srtS, W_srtL, W_srtF, W_lzip, W_lenS, W_last, W_cl, W_sset, W_expr, W_ret, W_if, W_pass, W_brk, W_cnt, W_for, W_lc, W_lcIf, W_seq, W_rng1, W_rng2, W_cons, W_nil, seqP_nx, seqP_rt, seqP_bk, seqP_ct, retP_rt, retP_nx, onB_true, onB_false, notB_bl, onS_some, getP_some, intP_int, tupP_tup, strP_str, List.getElem?_cons_zero, List.getElem?_cons_succ, List.set_cons_zero, List.set_cons_succ, List.length_cons, List.length_nil, List.map_cons, List.map_nil, List.cons_append, List.nil_append, List.replicate_succ, List.replicate_zero, w_add, w_sub, w_mul, w_fdiv, w_mod, w_addB, w_subB, w_adds, w_addt, w_addr, w_mulr, w_mult, w_ixt, w_ixr, w_ixf, w_ixl, it0, it1, it2, it3, it4, w_lent, w_lenr, w_lenf, w_lens, w_lenl, w_abs, w_inti, w_intb, w_max, w_min, w_tupt, w_tupr, w_tupl, w_listt, w_listr, w_listMt, w_slt, w_slr, w_sls, w_app, w_sset, ite_bl, ite_nb, onO_d, onO_n, Ev.wipe, c_gt, c_lt, c_ge, c_le, c_eq, c_ne, c_eqs, c_nes, c_les, c_ins, src_s, src_t, src_r, src_f, set_set, w_pow10, room, Nat.reduceAdd, Nat.reduceLeDiff, Nat.zero_add, Int.reduceLE, Int.reduceLT, Int.reduceNeg, true_and, and_true])
    refine itP_by (Int.emod_nonneg _ (by decide)) (Int.emod_lt_of_pos _ (by decide)) fun q hq _ => ?_
    obtain ⟨q, rfl, hq0, hq1⟩ : ∃ q' : Int, q = .int q' ∧ 0 < q' ∧ q' < 2147483648 := by
      simp only [List.mem_cons, List.not_mem_nil, or_false] at hq
      rcases hq with rfl | rfl | rfl | rfl | rfl <;> exact ⟨_, rfl, by decide, by decide⟩
    have hkb : c + 1 < 2199023255552 := by omega
    repeat ((first | simp only [lsP_of hv, it2, it1] | simp only [w_pow]); (try simp only [W_xop, w_mk0, w_mk1, w_isx, w_fld, W_ok, W_var, W_non, W_bl, W_int, W_str, W_bin, W_neg, W_cmp, W_chn, W_and, W_or, W_not, W_iteE, W_tup, W_lst, W_lstM, W_dct0, W_dct0M, W_dct1, W_ix, W_slU, W_slL, W_slLU, W_rev, W_call, W_callk, W_blt, W_isi, W_mth, W_mtc, W_zip, zip_t, zip_r, nr_non, nr_bl, nr_int, nr_str, nr_tup, nr_rol, nr_frl, nr_dct, nr_loc, rc_index, rc_count, w_rng1, w_trub, w_trur, w_trut, src_g, W_evnil, W_evcons, W_set, W_setL, rolP_rol, W_par, W_par3, W_unp, bind_t, bind_r, bind_1, bind_0, c_isb, W_enu, enum_t, enum_r, W_lcNE, W_srtS, W_srtL, W_srtF, W_lzip, W_lenS, W_last, W_cl, W_sset, W_expr, W_ret, W_if, W_pass, W_brk, W_cnt, W_for, W_lc, W_lcIf, W_seq, W_rng1, W_rng2, W_cons, W_nil, seqP_nx, seqP_rt, seqP_bk, seqP_ct, retP_rt, retP_nx, onB_true, onB_false, notB_bl, onS_some, getP_some, intP_int, tupP_tup, strP_str, List.getElem?_cons_zero, List.getElem?_cons_succ, List.set_cons_zero, List.set_cons_succ, List.length_cons, List.length_nil, List.map_cons, List.map_nil, List.cons_append, List.nil_append, List.replicate_succ, List.replicate_zero, w_add, w_sub, w_mul, w_fdiv, w_mod, w_addB, w_subB, w_adds, w_addt, w_addr, w_mulr, w_mult, w_ixt, w_ixr, w_ixf, w_ixl, it0, it1, it2, it3, it4, w_lent, w_lenr, w_lenf, w_lens, w_lenl, w_abs, w_inti, w_intb, w_max, w_min, w_tupt, w_tupr, w_tupl, w_listt, w_listr, w_listMt, w_slt, w_slr, w_sls, w_app, w_sset, ite_bl, ite_nb, onO_d, onO_n, Ev.wipe, c_gt, c_lt, c_ge, c_le, c_eq, c_ne, c_eqs, c_nes, c_les, c_ins, src_s, src_t, src_r, src_f, set_set, w_pow10, room, Nat.reduceAdd, Nat.reduceLeDiff, Nat.zero_add, Int.reduceLE, Int.reduceLT, Int.reduceNeg, true_and, and_true]))
    have hsq0 : 0 ≤ 65537 * (c + 1) * (c + 1) := Int.mul_nonneg (by omega) (by omega)
    have hsq1 : 65537 * (c + 1) * (c + 1) ≤ 144117387099111424 * 2199023255552 := Int.mul_le_mul (by omega) (by omega) (by omega) (by omega)
    refine ⟨.inl ⟨by decide, by decide⟩, .inr ⟨by unfold big; omega, by unfold big; omega⟩, ?_⟩
    generalize 65537 * (c + 1) * (c + 1) = sq at hsq0 hsq1
    have hmix := Int.emod_lt_of_pos ((b + sq + 43) ^ (3 : Int).toNat) hq0
    have hmix0 := Int.emod_nonneg ((b + sq + 43) ^ (3 : Int).toNat) (show q ≠ 0 by omega)
    refine ⟨pow_big (by omega) (by omega), hq0, .inl ⟨by decide, by decide⟩, ?_⟩
    generalize (b + sq + 43) ^ (3 : Int).toNat % q = mx at hmix hmix0
    refine ⟨.inl ⟨by unfold big; omega, by unfold big; omega⟩, h0, ?_⟩
    exact ⟨_, rfl, Int.emod_nonneg _ (by omega), Int.emod_lt_of_pos _ h0, sm _ _ _, ⟨a, b, c + 1, hv, ha, hb, hb2, by omega, by omega⟩⟩
/-- one of a list's items is drawn -/
theorem sp_of {k u n : Nat} {l : List D} {μ : Sto} (hk : 2 ≤ k) (hU : Urn u n μ) (hn : n < 1099511627776) (h0 : 0 < l.length) (h1 : l.length < 1000000) :
    W (run fnsL kwL k 4 [.loc u, .rol l] μ) fun d μ' => d ∈ l ∧ Sm u μ μ' ∧ Urn u (n + 1) μ' := by
  obtain ⟨k, rfl, hk'⟩ := fuel hk
  rw [r_law_of]
  refine W_fn rfl rfl ?_
  simp only [f_law_of, enter]
  (try simp only [W_xop, w_mk0, w_mk1, w_isx, w_fld, W_ok, W_var, W_non, W_bl, W_int, W_str, W_bin, W_neg, W_cmp, W_chn, W_and, W_or, W_not, W_iteE, W_tup, W_lst, W_lstM, W_dct0, W_dct0M, W_dct1, W_ix, W_slU, W_slL, W_slLU, W_rev, W_call, W_callk, W_blt, W_isi, W_mth, W_mtc, W_zip, zip_t, zip_r, nr_non, nr_bl, nr_int, nr_str, nr_tup, nr_rol, nr_frl, nr_dct, nr_loc, rc_index, rc_count, w_rng1, w_trub, w_trur, w_trut, src_g, W_evnil, W_evcons, W_set, W_setL, rolP_rol, W_par, W_par3, W_unp, bind_t, bind_r, bind_1, bind_0, c_isb, W_enu, enum_t, enum_r, W_lcNE, W_srtS, W_srtL, W_srtF, W_lzip, W_lenS, W_last, W_cl, W_sset, W_expr, W_ret, W_if, W_pass, W_brk, W_cnt, W_for, W_lc, W_lcIf, W_seq, W_rng1, W_rng2, W_cons, W_nil, seqP_nx, seqP_rt, seqP_bk, seqP_ct, retP_rt, retP_nx, onB_true, onB_false, notB_bl, onS_some, getP_some, intP_int, tupP_tup, strP_str, List.getElem?_cons_zero, List.getElem?_cons_succ, List.set_cons_zero, List.set_cons_succ, List.length_cons, List.length_nil, List.map_cons, List.map_nil, List.cons_append, List.nil_append, List.replicate_succ, List.replicate_zero, w_add, w_sub, w_mul, w_fdiv, w_mod, w_addB, w_subB, w_adds, w_addt, w_addr, w_mulr, w_mult, w_ixt, w_ixr, w_ixf, w_ixl, it0, it1, it2, it3, it4, w_lent, w_lenr, w_lenf, w_lens, w_lenl, w_abs, w_inti, w_intb, w_max, w_min, w_tupt, w_tupr, w_tupl, w_listt, w_listr, w_listMt, w_slt, w_slr, w_sls, w_app, w_sset, ite_bl, ite_nb, onO_d, onO_n, Ev.wipe, c_gt, c_lt, c_ge, c_le, c_eq, c_ne, c_eqs, c_nes, c_les, c_ins, src_s, src_t, src_r, src_f, set_set, w_pow10, room, Nat.reduceAdd, Nat.reduceLeDiff, Nat.zero_add, Int.reduceLE, Int.reduceLT, Int.reduceNeg, true_and, and_true])
  refine (sp_take hk' hU hn (m := (l.length : Nat)) (by omega) (by omega)).mono fun d μ' ⟨i, e, q0, q1, f, U⟩ => ?_
  subst e
  (try simp only [W_xop, w_mk0, w_mk1, w_isx, w_fld, W_ok, W_var, W_non, W_bl, W_int, W_str, W_bin, W_neg, W_cmp, W_chn, W_and, W_or, W_not, W_iteE, W_tup, W_lst, W_lstM, W_dct0, W_dct0M, W_dct1, W_ix, W_slU, W_slL, W_slLU, W_rev, W_call, W_callk, W_blt, W_isi, W_mth, W_mtc, W_zip, zip_t, zip_r, nr_non, nr_bl, nr_int, nr_str, nr_tup, nr_rol, nr_frl, nr_dct, nr_loc, rc_index, rc_count, w_rng1, w_trub, w_trur, w_trut, src_g, W_evnil, W_evcons, W_set, W_setL, rolP_rol, W_par, W_par3, W_unp, bind_t, bind_r, bind_1, bind_0, c_isb, W_enu, enum_t, enum_r, W_lcNE, W_srtS, W_srtL, W_srtF, W_lzip, W_lenS, W_last, W_cl, W_sset, W_expr, W_ret, W_if, W_pass, W_brk, W_cnt, W_for, W_lc, W_lcIf, W_seq, W_rng1, W_rng2, W_cons, W_nil, seqP_nx, seqP_rt, seqP_bk, seqP_ct, retP_rt, retP_nx, onB_true, onB_false, notB_bl, onS_some, getP_some, intP_int, tupP_tup, strP_str, List.getElem?_cons_zero, List.getElem?_cons_succ, List.set_cons_zero, List.set_cons_succ, List.length_cons, List.length_nil, List.map_cons, List.map_nil, List.cons_append, List.nil_append, List.replicate_succ, List.replicate_zero, w_add, w_sub, w_mul, w_fdiv, w_mod, w_addB, w_subB, w_adds, w_addt, w_addr, w_mulr, w_mult, w_ixt, w_ixr, w_ixf, w_ixl, it0, it1, it2, it3, it4, w_lent, w_lenr, w_lenf, w_lens, w_lenl, w_abs, w_inti, w_intb, w_max, w_min, w_tupt, w_tupr, w_tupl, w_listt, w_listr, w_listMt, w_slt, w_slr, w_sls, w_app, w_sset, ite_bl, ite_nb, onO_d, onO_n, Ev.wipe, c_gt, c_lt, c_ge, c_le, c_eq, c_ne, c_eqs, c_nes, c_les, c_ins, src_s, src_t, src_r, src_f, set_set, w_pow10, room, Nat.reduceAdd, Nat.reduceLeDiff, Nat.zero_add, Int.reduceLE, Int.reduceLT, Int.reduceNeg, true_and, and_true])
  exact itP_by q0 q1 fun d hd _ => ⟨hd, f, U⟩
/-- .. of a tuple -/
theorem sp_ofT {k u n : Nat} {l : List D} {μ : Sto} (hk : 2 ≤ k) (hU : Urn u n μ) (hn : n < 1099511627776) (h0 : 0 < l.length) (h1 : l.length < 1000000) :
    W (run fnsL kwL k 4 [.loc u, .tup l] μ) fun d μ' => d ∈ l ∧ Sm u μ μ' ∧ Urn u (n + 1) μ' := by
  obtain ⟨k, rfl, hk'⟩ := fuel hk
  rw [r_law_of]
  refine W_fn rfl rfl ?_
  simp only [f_law_of, enter]
  (try simp only [W_xop, w_mk0, w_mk1, w_isx, w_fld, W_ok, W_var, W_non, W_bl, W_int, W_str, W_bin, W_neg, W_cmp, W_chn, W_and, W_or, W_not, W_iteE, W_tup, W_lst, W_lstM, W_dct0, W_dct0M, W_dct1, W_ix, W_slU, W_slL, W_slLU, W_rev, W_call, W_callk, W_blt, W_isi, W_mth, W_mtc, W_zip, zip_t, zip_r, nr_non, nr_bl, nr_int, nr_str, nr_tup, nr_rol, nr_frl, nr_dct, nr_loc, rc_index, rc_count, w_rng1, w_trub, w_trur, w_trut, src_g, W_evnil, W_evcons, W_set, W_setL, rolP_rol, W_par, W_par3, W_unp, bind_t, bind_r, bind_1, bind_0, c_isb, W_enu, enum_t, enum_r, W_lcNE, W_srtS, W_srtL, W_srtF, W_lzip, W_lenS, W_last, W_cl, W_sset, W_expr, W_ret, W_if, W_pass, W_brk, W_cnt, W_for, W_lc, W_lcIf, W_seq, W_rng1, W_rng2, W_cons, W_nil, seqP_nx, seqP_rt, seqP_bk, seqP_ct, retP_rt, retP_nx, onB_true, onB_false, notB_bl, onS_some, getP_some, intP_int, tupP_tup, strP_str, List.getElem?_cons_zero, List.getElem?_cons_succ, List.set_cons_zero, List.set_cons_succ, List.length_cons, List.length_nil, List.map_cons, List.map_nil, List.cons_append, List.nil_append, List.replicate_succ, List.replicate_zero, w_add, w_sub, w_mul, w_fdiv, w_mod, w_addB, w_subB, w_adds, w_addt, w_addr, w_mulr, w_mult, w_ixt, w_ixr, w_ixf, w_ixl, it0, it1, it2, it3, it4, w_lent, w_lenr, w_lenf, w_lens, w_lenl, w_abs, w_inti, w_intb, w_max, w_min, w_tupt, w_tupr, w_tupl, w_listt, w_listr, w_listMt, w_slt, w_slr, w_sls, w_app, w_sset, ite_bl, ite_nb, onO_d, onO_n, Ev.wipe, c_gt, c_lt, c_ge, c_le, c_eq, c_ne, c_eqs, c_nes, c_les, c_ins, src_s, src_t, src_r, src_f, set_set, w_pow10, room, Nat.reduceAdd, Nat.reduceLeDiff, Nat.zero_add, Int.reduceLE, Int.reduceLT, Int.reduceNeg, true_and, and_true])
  refine (sp_take hk' hU hn (m := (l.length : Nat)) (by omega) (by omega)).mono fun d μ' ⟨i, e, q0, q1, f, U⟩ => ?_
  subst e
  (try simp only [W_xop, w_mk0, w_mk1, w_isx, w_fld, W_ok, W_var, W_non, W_bl, W_int, W_str, W_bin, W_neg, W_cmp, W_chn, W_and, W_or, W_not, W_iteE, W_tup, W_lst, W_lstM, W_dct0, W_dct0M, W_dct1, W_ix, W_slU, W_slL, W_slLU, W_rev, W_call, W_callk, W_blt, W_isi, W_mth, W_mtc, W_zip, zip_t, zip_r, nr_non, nr_bl, nr_int, nr_str, nr_tup, nr_rol, nr_frl, nr_dct, nr_loc, rc_index, rc_count, w_rng1, w_trub, w_trur, w_trut, src_g, W_evnil, W_evcons, W_set, W_setL, rolP_rol, W_par, W_par3, W_unp, bind_t, bind_r, bind_1, bind_0, c_isb, W_enu, enum_t, enum_r, W_lcNE, W_srtS, W_srtL, W_srtF, W_lzip, W_lenS, W_last, W_cl, W_sset, W_expr, W_ret, W_if, W_pass, W_brk, W_cnt, W_for, W_lc, W_lcIf, W_seq, W_rng1, W_rng2, W_cons, W_nil, seqP_nx, seqP_rt, seqP_bk, seqP_ct, retP_rt, retP_nx, onB_true, onB_false, notB_bl, onS_some, getP_some, intP_int, tupP_tup, strP_str, List.getElem?_cons_zero, List.getElem?_cons_succ, List.set_cons_zero, List.set_cons_succ, List.length_cons, List.length_nil, List.map_cons, List.map_nil, List.cons_append, List.nil_append, List.replicate_succ, List.replicate_zero, w_add, w_sub, w_mul, w_fdiv, w_mod, w_addB, w_subB, w_adds, w_addt, w_addr, w_mulr, w_mult, w_ixt, w_ixr, w_ixf, w_ixl, it0, it1, it2, it3, it4, w_lent, w_lenr, w_lenf, w_lens, w_lenl, w_abs, w_inti, w_intb, w_max, w_min, w_tupt, w_tupr, w_tupl, w_listt, w_listr, w_listMt, w_slt, w_slr, w_sls, w_app, w_sset, ite_bl, ite_nb, onO_d, onO_n, Ev.wipe, c_gt, c_lt, c_ge, c_le, c_eq, c_ne, c_eqs, c_nes, c_les, c_ins, src_s, src_t, src_r, src_f, set_set, w_pow10, room, Nat.reduceAdd, Nat.reduceLeDiff, Nat.zero_add, Int.reduceLE, Int.reduceLT, Int.reduceNeg, true_and, and_true])
  exact itP_by q0 q1 fun d hd _ => ⟨hd, f, U⟩
/-- the urn is made -/
theorem sp_urn {k : Nat} {ns : List Int} {i : Int} {μ : Sto} (hk : 1 ≤ k) (h0 : 0 ≤ i) (h1 : i < 1000) :
    W (run fnsL kwL k 2 [.frl (ns.map .int), .int i] μ) fun d μ' => d = .loc μ.length ∧ ∃ x, μ' = μ ++ [x] ∧ Urn μ.length 0 (μ ++ [x]) := by
  obtain ⟨k, rfl, _⟩ := fuel hk
  rw [r_law_urn]
  refine W_fn rfl rfl ?_
  simp only [f_law_urn, enter]
  (try simp only [W_xop, w_mk0, w_mk1, w_isx, w_fld, W_ok, W_var, W_non, W_bl, W_int, W_str, W_bin, W_neg, W_cmp, W_chn, W_and, W_or, W_not, W_iteE, W_tup, W_lst, W_lstM, W_dct0, W_dct0M, W_dct1, W_ix, W_slU, W_slL, W_slLU, W_rev, W_call, W_callk, W_blt, W_isi, W_mth, W_mtc, W_zip, zip_t, zip_r, nr_non, nr_bl, nr_int, nr_str, nr_tup, nr_rol, nr_frl, nr_dct, nr_loc, rc_index, rc_count, w_rng1, w_trub, w_trur, w_trut, src_g, W_evnil, W_evcons, W_set, W_setL, rolP_rol, W_par, W_par3, W_unp, bind_t, bind_r, bind_1, bind_0, c_isb, W_enu, enum_t, enum_r, W_lcNE, W_srtS, W_srtL, W_srtF, W_lzip, W_lenS, W_last, W_cl, W_sset, W_expr, W_ret, W_if, W_pass, W_brk, W_cnt, W_for, W_lc, W_lcIf, W_seq, W_rng1, W_rng2, W_cons, W_nil, seqP_nx, seqP_rt, seqP_bk, seqP_ct, retP_rt, retP_nx, onB_true, onB_false, notB_bl, onS_some, getP_some, intP_int, tupP_tup, strP_str, List.getElem?_cons_zero, List.getElem?_cons_succ, List.set_cons_zero, List.set_cons_succ, List.length_cons, List.length_nil, List.map_cons, List.map_nil, List.cons_append, List.nil_append, List.replicate_succ, List.replicate_zero, w_add, w_sub, w_mul, w_fdiv, w_mod, w_addB, w_subB, w_adds, w_addt, w_addr, w_mulr, w_mult, w_ixt, w_ixr, w_ixf, w_ixl, it0, it1, it2, it3, it4, w_lent, w_lenr, w_lenf, w_lens, w_lenl, w_abs, w_inti, w_intb, w_max, w_min, w_tupt, w_tupr, w_tupl, w_listt, w_listr, w_listMt, w_slt, w_slr, w_sls, w_app, w_sset, ite_bl, ite_nb, onO_d, onO_n, Ev.wipe, c_gt, c_lt, c_ge, c_le, c_eq, c_ne, c_eqs, c_nes, c_les, c_ins, src_s, src_t, src_r, src_f, set_set, w_pow10, room, Nat.reduceAdd, Nat.reduceLeDiff, Nat.zero_add, Int.reduceLE, Int.reduceLT, Int.reduceNeg, true_and, and_true])
  have hp : (0 : Int) < (10 ^ (60 : Int).toNat) ^ (5 : Int).toNat := by decide +kernel
  have cell : ∀ v : Int, ∀ {Q : Prop}, (∀ own y : Int, 0 ≤ own → 0 ≤ y → y < 2305843009213693907 → Q = ((3 ≤ room) ∧ (D.loc μ.length = D.loc μ.length ∧ ∃ x, μ ++ [Mo.lst [D.int own, D.int y, D.int 0]] = μ ++ [x] ∧ Urn μ.length 0 (μ ++ [x]))) → Q) := by
    intro v Q own y h1 h2 h3 e
    rw [e]
    exact ⟨by decide, rfl, _, rfl, own, y, 0, by simp, h1, h2, by omega, by omega, by omega⟩
  have main : ∀ v : Int, (0 ≤ (60 : Int) ∧ (60 : Int) ≤ 1000 ∧ (10 : Int).natAbs < 2 ^ 2000) ∧ True := fun _ => ⟨⟨by decide, by decide, by decide +kernel⟩, trivial⟩
  have fin : ∀ v : Int, ∀ b : Int, (b = 0 ∨ b = 1) → 0 ≤ (if v < 0 then -v else v) % ((10 : Int) ^ (60 : Int).toNat) ^ (5 : Int).toNat * b := fun v b hb => Int.mul_nonneg (Int.emod_nonneg _ (by omega)) (by omega)
  have fi : ∀ p : Bool, (if p = true then (1 : Int) else 0) = 0 ∨ (if p = true then (1 : Int) else 0) = 1 := fun p => by cases p; exact .inl rfl; exact .inr rfl
  have big1 : ∀ b : Int, (b = 0 ∨ b = 1) → -big < b ∧ b < big := fun b hb => by unfold big; omega
  refine ⟨fun hlt => ?_, fun hge => ?_⟩
  · refine itP_by h0 (by simpa using hlt) fun d hd _ => ?_
    obtain ⟨v, _, rfl⟩ := List.mem_map.mp hd
    (try simp only [W_xop, w_mk0, w_mk1, w_isx, w_fld, W_ok, W_var, W_non, W_bl, W_int, W_str, W_bin, W_neg, W_cmp, W_chn, W_and, W_or, W_not, W_iteE, W_tup, W_lst, W_lstM, W_dct0, W_dct0M, W_dct1, W_ix, W_slU, W_slL, W_slLU, W_rev, W_call, W_callk, W_blt, W_isi, W_mth, W_mtc, W_zip, zip_t, zip_r, nr_non, nr_bl, nr_int, nr_str, nr_tup, nr_rol, nr_frl, nr_dct, nr_loc, rc_index, rc_count, w_rng1, w_trub, w_trur, w_trut, src_g, W_evnil, W_evcons, W_set, W_setL, rolP_rol, W_par, W_par3, W_unp, bind_t, bind_r, bind_1, bind_0, c_isb, W_enu, enum_t, enum_r, W_lcNE, W_srtS, W_srtL, W_srtF, W_lzip, W_lenS, W_last, W_cl, W_sset, W_expr, W_ret, W_if, W_pass, W_brk, W_cnt, W_for, W_lc, W_lcIf, W_seq, W_rng1, W_rng2, W_cons, W_nil, seqP_nx, seqP_rt, seqP_bk, seqP_ct, retP_rt, retP_nx, onB_true, onB_false, notB_bl, onS_some, getP_some, intP_int, tupP_tup, strP_str, List.getElem?_cons_zero, List.getElem?_cons_succ, List.set_cons_zero, List.set_cons_succ, List.length_cons, List.length_nil, List.map_cons, List.map_nil, List.cons_append, List.nil_append, List.replicate_succ, List.replicate_zero, w_add, w_sub, w_mul, w_fdiv, w_mod, w_addB, w_subB, w_adds, w_addt, w_addr, w_mulr, w_mult, w_ixt, w_ixr, w_ixf, w_ixl, it0, it1, it2, it3, it4, w_lent, w_lenr, w_lenf, w_lens, w_lenl, w_abs, w_inti, w_intb, w_max, w_min, w_tupt, w_tupr, w_tupl, w_listt, w_listr, w_listMt, w_slt, w_slr, w_sls, w_app, w_sset, ite_bl, ite_nb, onO_d, onO_n, Ev.wipe, c_gt, c_lt, c_ge, c_le, c_eq, c_ne, c_eqs, c_nes, c_les, c_ins, src_s, src_t, src_r, src_f, set_set, w_pow10, room, Nat.reduceAdd, Nat.reduceLeDiff, Nat.zero_add, Int.reduceLE, Int.reduceLT, Int.reduceNeg, true_and, and_true])
    rw [w_pow]
    refine ⟨⟨by decide, by decide, by decide +kernel⟩, ?_⟩
    (try simp only [W_xop, w_mk0, w_mk1, w_isx, w_fld, W_ok, W_var, W_non, W_bl, W_int, W_str, W_bin, W_neg, W_cmp, W_chn, W_and, W_or, W_not, W_iteE, W_tup, W_lst, W_lstM, W_dct0, W_dct0M, W_dct1, W_ix, W_slU, W_slL, W_slLU, W_rev, W_call, W_callk, W_blt, W_isi, W_mth, W_mtc, W_zip, zip_t, zip_r, nr_non, nr_bl, nr_int, nr_str, nr_tup, nr_rol, nr_frl, nr_dct, nr_loc, rc_index, rc_count, w_rng1, w_trub, w_trur, w_trut, src_g, W_evnil, W_evcons, W_set, W_setL, rolP_rol, W_par, W_par3, W_unp, bind_t, bind_r, bind_1, bind_0, c_isb, W_enu, enum_t, enum_r, W_lcNE, W_srtS, W_srtL, W_srtF, W_lzip, W_lenS, W_last, W_cl, W_sset, W_expr, W_ret, W_if, W_pass, W_brk, W_cnt, W_for, W_lc, W_lcIf, W_seq, W_rng1, W_rng2, W_cons, W_nil, seqP_nx, seqP_rt, seqP_bk, seqP_ct, retP_rt, retP_nx, onB_true, onB_false, notB_bl, onS_some, getP_some, intP_int, tupP_tup, strP_str, List.getElem?_cons_zero, List.getElem?_cons_succ, List.set_cons_zero, List.set_cons_succ, List.length_cons, List.length_nil, List.map_cons, List.map_nil, List.cons_append, List.nil_append, List.replicate_succ, List.replicate_zero, w_add, w_sub, w_mul, w_fdiv, w_mod, w_addB, w_subB, w_adds, w_addt, w_addr, w_mulr, w_mult, w_ixt, w_ixr, w_ixf, w_ixl, it0, it1, it2, it3, it4, w_lent, w_lenr, w_lenf, w_lens, w_lenl, w_abs, w_inti, w_intb, w_max, w_min, w_tupt, w_tupr, w_tupl, w_listt, w_listr, w_listMt, w_slt, w_slr, w_sls, w_app, w_sset, ite_bl, ite_nb, onO_d, onO_n, Ev.wipe, c_gt, c_lt, c_ge, c_le, c_eq, c_ne, c_eqs, c_nes, c_les, c_ins, src_s, src_t, src_r, src_f, set_set, w_pow10, room, Nat.reduceAdd, Nat.reduceLeDiff, Nat.zero_add, Int.reduceLE, Int.reduceLT, Int.reduceNeg, true_and, and_true])
    refine ⟨hp, .inr (big1 _ (fi _)), .inr ⟨by decide, by decide⟩, .inl ⟨by decide, by decide⟩, .inr ⟨by unfold big; omega, by unfold big; omega⟩, ?_⟩
    exact ⟨_, rfl, _, _, _, push_get, fin v _ (fi _), Int.emod_nonneg _ (by decide), Int.lt_of_lt_of_le (Int.emod_lt_of_pos _ (by decide)) (by decide), by omega, by omega⟩
  · refine ⟨.inl ⟨by decide, by decide⟩, ?_⟩
    rw [w_pow]
    refine ⟨⟨by decide, by decide, by decide +kernel⟩, ?_⟩
    (try simp only [W_xop, w_mk0, w_mk1, w_isx, w_fld, W_ok, W_var, W_non, W_bl, W_int, W_str, W_bin, W_neg, W_cmp, W_chn, W_and, W_or, W_not, W_iteE, W_tup, W_lst, W_lstM, W_dct0, W_dct0M, W_dct1, W_ix, W_slU, W_slL, W_slLU, W_rev, W_call, W_callk, W_blt, W_isi, W_mth, W_mtc, W_zip, zip_t, zip_r, nr_non, nr_bl, nr_int, nr_str, nr_tup, nr_rol, nr_frl, nr_dct, nr_loc, rc_index, rc_count, w_rng1, w_trub, w_trur, w_trut, src_g, W_evnil, W_evcons, W_set, W_setL, rolP_rol, W_par, W_par3, W_unp, bind_t, bind_r, bind_1, bind_0, c_isb, W_enu, enum_t, enum_r, W_lcNE, W_srtS, W_srtL, W_srtF, W_lzip, W_lenS, W_last, W_cl, W_sset, W_expr, W_ret, W_if, W_pass, W_brk, W_cnt, W_for, W_lc, W_lcIf, W_seq, W_rng1, W_rng2, W_cons, W_nil, seqP_nx, seqP_rt, seqP_bk, seqP_ct, retP_rt, retP_nx, onB_true, onB_false, notB_bl, onS_some, getP_some, intP_int, tupP_tup, strP_str, List.getElem?_cons_zero, List.getElem?_cons_succ, List.set_cons_zero, List.set_cons_succ, List.length_cons, List.length_nil, List.map_cons, List.map_nil, List.cons_append, List.nil_append, List.replicate_succ, List.replicate_zero, w_add, w_sub, w_mul, w_fdiv, w_mod, w_addB, w_subB, w_adds, w_addt, w_addr, w_mulr, w_mult, w_ixt, w_ixr, w_ixf, w_ixl, it0, it1, it2, it3, it4, w_lent, w_lenr, w_lenf, w_lens, w_lenl, w_abs, w_inti, w_intb, w_max, w_min, w_tupt, w_tupr, w_tupl, w_listt, w_listr, w_listMt, w_slt, w_slr, w_sls, w_app, w_sset, ite_bl, ite_nb, onO_d, onO_n, Ev.wipe, c_gt, c_lt, c_ge, c_le, c_eq, c_ne, c_eqs, c_nes, c_les, c_ins, src_s, src_t, src_r, src_f, set_set, w_pow10, room, Nat.reduceAdd, Nat.reduceLeDiff, Nat.zero_add, Int.reduceLE, Int.reduceLT, Int.reduceNeg, true_and, and_true])
    refine ⟨hp, .inr (big1 _ (fi _)), .inr ⟨by decide, by decide⟩, .inl ⟨by decide, by decide⟩, .inr ⟨by unfold big; omega, by unfold big; omega⟩, ?_⟩
    exact ⟨_, rfl, _, _, _, push_get, fin _ _ (fi _), Int.emod_nonneg _ (by decide), Int.lt_of_lt_of_le (Int.emod_lt_of_pos _ (by decide)) (by decide), by omega, by omega⟩
end Ev

namespace Ev
open PySem

/-! ### things, looked at by a reckoning -/
mutual
def okpB (b : Nat) : PyData → Bool
  | .none => true
  | .bool _ => true
  | .int i => decide (i.natAbs ≤ b)
  | .str x => x.cps.toList.all fun c => decide (c < 128)
  | .list xs => okpsB b xs
  | .tuple xs => okpsB b xs
  | .dict kvs => okpkB b kvs
def okpsB (b : Nat) : List PyData → Bool
  | [] => true
  | x :: xs => okpB b x && okpsB b xs
def okpkB (b : Nat) : List (PyData × PyData) → Bool
  | [] => true
  | (k, v) :: r => okpB b k && okpB b v && okpkB b r
end
mutual
theorem okpB_ok {b : Nat} : ∀ {t : PyData}, okpB b t = true → okp b t
  | .none, _ => by simp only [okp]
  | .bool _, _ => by simp only [okp]
  | .int i, q => by simp only [okp]; simpa only [okpB, decide_eq_true_eq] using q
  | .str x, q => by simp only [okp]; simpa only [okpB, List.all_eq_true, decide_eq_true_eq] using q
  | .list xs, q => by simp only [okp]; simp only [okpB] at q; exact okpsB_ok q
  | .tuple xs, q => by simp only [okp]; simp only [okpB] at q; exact okpsB_ok q
  | .dict kvs, q => by simp only [okp]; simp only [okpB] at q; exact okpkB_ok q
theorem okpsB_ok {b : Nat} : ∀ {t : List PyData}, okpsB b t = true → okps b t
  | [], _ => trivial
  | x :: xs, q => by simp only [okpsB, Bool.and_eq_true] at q; exact ⟨okpB_ok q.1, okpsB_ok q.2⟩
theorem okpkB_ok {b : Nat} : ∀ {t : List (PyData × PyData)}, okpkB b t = true → okpk b t
  | [], _ => trivial
  | (k, v) :: r, q => by simp only [okpkB, Bool.and_eq_true] at q; exact ⟨okpB_ok q.1.1, okpB_ok q.1.2, okpkB_ok q.2⟩
end
def thB (n b w : Nat) (d : D) : Bool := match dat [] n d with
  | some t => okpB b t && decide (wt t ≤ w)
  | none => false
theorem th_of {n b w : Nat} {d : D} (h : thB n b w d = true) : Th n b w d := by
  unfold thB at h
  split at h
  · rename_i t ht
    rw [Bool.and_eq_true, decide_eq_true_eq] at h
    exact ⟨t, ht, okpB_ok h.1, h.2⟩
  · cases h
theorem th_all {n b w : Nat} {l : List D} (h : l.all (thB n b w) = true) {d : D} (hd : d ∈ l) : Th n b w d := th_of (List.all_eq_true.mp h d hd)
def b0 : Nat := 10 ^ 40
theorem Th.tup1 {n b w : Nat} {d : D} (h : Th n b w d) : Th (n + 1) b (w + 5) (.tup [d]) := (Th.tup (ThL.cons h ThL.nil)).up (Nat.le_refl _) (Nat.le_refl _) (by omega)
theorem Th.rol1 {n b w : Nat} {d : D} (h : Th n b w d) : Th (n + 1) b (w + 5) (.rol [d]) := (Th.rol (ThL.cons h ThL.nil)).up (Nat.le_refl _) (Nat.le_refl _) (by omega)
theorem Th.tup2 {n b w v : Nat} {d e : D} (h : Th n b w d) (h' : Th n b v e) : Th (n + 1) b (w + v + 7) (.tup [d, e]) := (Th.tup (ThL.cons h (ThL.cons h' ThL.nil))).up (Nat.le_refl _) (Nat.le_refl _) (by omega)

/-! ### kinds -/
section
variable {μ : Sto} {b : Bool} {i : Int} {s : List Nat} {l : List D} {k : List (DKey × D)} {t : Ty}
theorem ty_non : isTy μ .non t = false := by cases t <;> exact Eq.trans rfl rfl
theorem ty_bl : isTy μ (.bl b) t = (decide (t = .bool) || decide (t = .int)) := Eq.trans rfl rfl
theorem ty_int : isTy μ (.int i) t = decide (t = .int) := Eq.trans rfl rfl
theorem ty_str : isTy μ (.str s) t = decide (t = .str) := Eq.trans rfl rfl
theorem ty_tup : isTy μ (.tup l) t = decide (t = .tuple) := Eq.trans rfl rfl
theorem ty_rol : isTy μ (.rol l) t = decide (t = .list) := Eq.trans rfl rfl
theorem ty_frl : isTy μ (.frl l) t = decide (t = .list) := Eq.trans rfl rfl
theorem ty_dct : isTy μ (.dct k) t = decide (t = .dict) := Eq.trans rfl rfl
end
/-- == by their data -/
theorem eq_th {μ : Sto} {n m b w b' w' : Nat} {x y : D} {r : Bool} (hx : Th n b w x) (hy : Th m b' w' y) (hn : n ≤ 60) (hm : m ≤ 60) (h : ∀ a c, dat [] n x = some a → dat [] m y = some c → eqd a c = some r) : eqB μ x y = some r := by
  obtain ⟨a, h1, _⟩ := hx
  obtain ⟨c, h2, _⟩ := hy
  unfold eqB
  rw [dat_mono n 60 hn h1, dat_mono m 60 hm h2]
  exact h a c h1 h2
theorem ne_shown {μ : Sto} {d : D} {P : D → Sto → Prop} {s : List Nat} (h : ∀ μ, shownD μ d = some s) : W (bltop .repr [d] μ) P = P (.str s) μ := by
  rw [show bltop .repr [d] μ = .ok (.str s) μ by simp only [bltop, h, Option.map_some, ofO], W_ok]
/-! ### things that no law knows before -/
end Ev
namespace Ev
open PySem
theorem ne_nilT {μ : Sto} {n b w : Nat} {l : List D} (h : Th n b w (.tup l)) (hn : n ≤ 60) : cmpop .ne (.tup l) (.tup []) μ = some (decide (l ≠ [])) := by
  obtain ⟨t, h1, h2, h3⟩ := h
  have hd := dat_mono (μ := μ) n 60 hn h1
  show neB μ (.tup l) (.tup []) = _
  unfold neB
  rw [hd]
  obtain ⟨ts, q, rfl⟩ := map_some' (show (omap (dat μ 59) l).map PyData.tuple = some t from hd)
  show ned (.tuple ts) (.tuple []) = _
  cases l with
  | nil => cases q; rfl
  | cons x l =>
    obtain ⟨t, ts', _, _, rfl⟩ := omap_cons q
    rfl
section
variable {μ : Sto} {P : D → Sto → Prop}
theorem w_upper {s : List Nat} (h : s.length ≤ 100000) : (recv .upper (.str s) μ = true ∧ W (mthop .upper (.str s) [] μ) P) = P (.str (PySem.Txt.upper ⟨s.toArray⟩).cps.toList) μ := by
  rw [show mthop .upper (.str s) [] μ = .ok (.str (PySem.Txt.upper ⟨s.toArray⟩).cps.toList) μ from if_pos h, W_ok]
  exact propext ⟨fun z => z.2, fun z => ⟨rfl, z⟩⟩
theorem w_stri {i : Int} (h : i.natAbs ≤ 10 ^ 60) : W (bltop .str [.int i] μ) P = P (.str (Str.ofString (toString i)).cps.toList) μ := by
  rw [show bltop .str [.int i] μ = .ok (.str (Str.ofString (toString i)).cps.toList) μ from if_pos (Nat.lt_of_le_of_lt h (by decide +kernel)), W_ok]
theorem w_strb {p : Bool} : W (bltop .str [.bl p] μ) P = P (.str (if p = true then [84, 114, 117, 101] else [70, 97, 108, 115, 101])) μ := by
  rw [show bltop .str [.bl p] μ = .ok (.str (if p = true then [84, 114, 117, 101] else [70, 97, 108, 115, 101])) μ from Eq.trans rfl rfl, W_ok]
end
theorem cut_to {α : Type} {l : List α} {i : Nat} (h : i ≤ l.length) : cut l none (some (i : Int)) = l.take i := by
  unfold cut clip
  have e1 : ¬ ((i : Int) < 0) := by omega
  simp only [e1, if_false, Nat.sub_zero, List.drop_zero, Int.toNat_natCast, Nat.min_eq_left h]
theorem cut_from {α : Type} {l : List α} {i : Nat} (h : i ≤ l.length) : cut l (some (i : Int)) none = l.drop i := by
  unfold cut clip
  have e1 : ¬ ((i : Int) < 0) := by omega
  simp only [e1, if_false, Int.toNat_natCast, Nat.min_eq_left h]
  rw [List.take_of_length_le]
  rw [List.length_drop]; exact Nat.le_refl _
theorem cut_mem {α : Type} {l : List α} {lo hi : Option Int} {x : α} (h : x ∈ cut l lo hi) : x ∈ l := by
  unfold cut at h
  exact List.mem_of_mem_drop (List.mem_of_mem_take h)
theorem upper_ok {s : List Nat} (h : ∀ c ∈ s, c < 128) : (∀ c ∈ (PySem.Txt.upper ⟨s.toArray⟩).cps.toList, c < 128) ∧ (PySem.Txt.upper ⟨s.toArray⟩).cps.toList.length ≤ 3 * s.length := by
  constructor
  · intro c hc
    have hc : c ∈ ((s.toArray.mapIdx fun (_ : Nat) c => (Unicode.upperOf c).toArray).flatten).toList := hc
    rw [Array.mem_toList_iff, Array.mem_flatten] at hc
    obtain ⟨a, ha, hca⟩ := hc
    obtain ⟨i, hi, rfl⟩ := Array.mem_mapIdx.mp ha
    have key : ∀ c < 128, ∀ d ∈ Unicode.upperOf c, d < 128 := by decide +kernel
    have hci : s.toArray[i] < 128 := h _ (by simp)
    exact key _ hci c (by simpa using hca)
  · have := PyProof.Rows.len_upper ⟨s.toArray⟩
    simpa [Str.length] using this
theorem intText_ok (i : Int) (hi : i.natAbs ≤ big1900) : (∀ c ∈ (Str.ofString (toString i)).cps.toList, c < 128) ∧ (Str.ofString (toString i)).cps.toList.length ≤ 1921 := by
  constructor
  · intro c hc
    rw [PyProof.Rows.signs_ofString] at hc
    obtain ⟨ch, h1, rfl⟩ := List.mem_map.mp hc
    exact int_ascii i ch h1
  · have := PyProof.Rows.int_text_len_1921 (log_of hi)
    simpa [Str.length] using this
theorem ThL.cut {n b w : Nat} {l : List D} (h : ThL n b w l) (lo hi : Option Int) : ThL n b w (Ev.cut l lo hi) := by
  unfold Ev.cut
  obtain ⟨w1, w2, _, h2, _⟩ := h.split (clip l.length 0 lo)
  obtain ⟨w3, w4, h3, _, _⟩ := h2.split (clip l.length l.length hi - clip l.length 0 lo)
  exact h3.up (Nat.le_refl _) (Nat.le_refl _) (by omega)
theorem Th.cases {n b w : Nat} {d : D} (h : Th n b w d) : d = .non ∨ (∃ x, d = .bl x) ∨ (∃ x, d = .int x) ∨ (∃ x, d = .str x) ∨ (∃ x, d = .tup x) ∨ (∃ x, d = .rol x) ∨ (∃ x, d = .frl x) ∨ (∃ x, d = .dct x) := by
  cases d with
  | loc a => exact h.noloc.elim
  | rng i j => exact h.norng.elim
  | exo c l => exact h.noexo.elim
  | _ => simp
def Bent (u n N w b : Nat) (μ : Sto) : D → Sto → Prop := fun d' μ' => Th (n + 12) (b + 1) (3 * w + 200000) d' ∧ Sm u μ μ' ∧ Urn u (N + 3 * n + 30) μ'
end Ev
namespace Ev
open PySem
theorem sp_odd {k u n : Nat} {μ : Sto} (hk : 3 ≤ k) (hU : Urn u n μ) (hn : n < 1099511627000) : W (run fnsL kwL k 6 [.loc u] μ) fun d μ' => Th 10 b0 300000 d ∧ Sm u μ μ' ∧ Urn u (n + 10) μ' := by
  obtain ⟨k, rfl, hk'⟩ := fuel hk
  rw [r_law_odd]
  refine W_fn rfl rfl ?_
  simp only [f_law_odd, enter]
  (try simp only [W_xop, w_mk0, w_mk1, w_isx, w_fld, W_ok, W_var, W_non, W_bl, W_int, W_str, W_bin, W_neg, W_cmp, W_chn, W_and, W_or, W_not, W_iteE, W_tup, W_lst, W_lstM, W_dct0, W_dct0M, W_dct1, W_ix, W_slU, W_slL, W_slLU, W_rev, W_call, W_callk, W_blt, W_isi, W_mth, W_mtc, W_zip, zip_t, zip_r, nr_non, nr_bl, nr_int, nr_str, nr_tup, nr_rol, nr_frl, nr_dct, nr_loc, rc_index, rc_count, w_rng1, w_trub, w_trur, w_trut, src_g, W_evnil, W_evcons, W_set, W_setL, rolP_rol, W_par, W_par3, W_unp, bind_t, bind_r, bind_1, bind_0, c_isb, W_enu, enum_t, enum_r, W_lcNE, W_srtS, W_srtL, W_srtF, W_lzip, W_lenS, W_last, W_cl, W_sset, W_expr, W_ret, W_if, W_pass, W_brk, W_cnt, W_for, W_lc, W_lcIf, W_seq, W_rng1, W_rng2, W_cons, W_nil, seqP_nx, seqP_rt, seqP_bk, seqP_ct, retP_rt, retP_nx, onB_true, onB_false, notB_bl, onS_some, getP_some, intP_int, tupP_tup, strP_str, List.getElem?_cons_zero, List.getElem?_cons_succ, List.set_cons_zero, List.set_cons_succ, List.length_cons, List.length_nil, List.map_cons, List.map_nil, List.cons_append, List.nil_append, List.replicate_succ, List.replicate_zero, w_add, w_sub, w_mul, w_fdiv, w_mod, w_addB, w_subB, w_adds, w_addt, w_addr, w_mulr, w_mult, w_ixt, w_ixr, w_ixf, w_ixl, it0, it1, it2, it3, it4, w_lent, w_lenr, w_lenf, w_lens, w_lenl, w_abs, w_inti, w_intb, w_max, w_min, w_tupt, w_tupr, w_tupl, w_listt, w_listr, w_listMt, w_slt, w_slr, w_sls, w_app, w_sset, ite_bl, ite_nb, onO_d, onO_n, Ev.wipe, c_gt, c_lt, c_ge, c_le, c_eq, c_ne, c_eqs, c_nes, c_les, c_ins, src_s, src_t, src_r, src_f, set_set, w_pow10, room, Nat.reduceAdd, Nat.reduceLeDiff, Nat.zero_add, Int.reduceLE, Int.reduceLT, Int.reduceNeg, true_and, and_true])
  refine (sp_of hk' hU (by omega) (by simp) (by simp)).mono fun d μ1 ⟨hd, S1, U1⟩ => ?_
  have hT : Th 3 b0 7993 d := th_all (by decide +kernel) hd
  clear hd
  (try simp only [W_xop, w_mk0, w_mk1, w_isx, w_fld, W_ok, W_var, W_non, W_bl, W_int, W_str, W_bin, W_neg, W_cmp, W_chn, W_and, W_or, W_not, W_iteE, W_tup, W_lst, W_lstM, W_dct0, W_dct0M, W_dct1, W_ix, W_slU, W_slL, W_slLU, W_rev, W_call, W_callk, W_blt, W_isi, W_mth, W_mtc, W_zip, zip_t, zip_r, nr_non, nr_bl, nr_int, nr_str, nr_tup, nr_rol, nr_frl, nr_dct, nr_loc, rc_index, rc_count, w_rng1, w_trub, w_trur, w_trut, src_g, W_evnil, W_evcons, W_set, W_setL, rolP_rol, W_par, W_par3, W_unp, bind_t, bind_r, bind_1, bind_0, c_isb, W_enu, enum_t, enum_r, W_lcNE, W_srtS, W_srtL, W_srtF, W_lzip, W_lenS, W_last, W_cl, W_sset, W_expr, W_ret, W_if, W_pass, W_brk, W_cnt, W_for, W_lc, W_lcIf, W_seq, W_rng1, W_rng2, W_cons, W_nil, seqP_nx, seqP_rt, seqP_bk, seqP_ct, retP_rt, retP_nx, onB_true, onB_false, notB_bl, onS_some, getP_some, intP_int, tupP_tup, strP_str, List.getElem?_cons_zero, List.getElem?_cons_succ, List.set_cons_zero, List.set_cons_succ, List.length_cons, List.length_nil, List.map_cons, List.map_nil, List.cons_append, List.nil_append, List.replicate_succ, List.replicate_zero, w_add, w_sub, w_mul, w_fdiv, w_mod, w_addB, w_subB, w_adds, w_addt, w_addr, w_mulr, w_mult, w_ixt, w_ixr, w_ixf, w_ixl, it0, it1, it2, it3, it4, w_lent, w_lenr, w_lenf, w_lens, w_lenl, w_abs, w_inti, w_intb, w_max, w_min, w_tupt, w_tupr, w_tupl, w_listt, w_listr, w_listMt, w_slt, w_slr, w_sls, w_app, w_sset, ite_bl, ite_nb, onO_d, onO_n, Ev.wipe, c_gt, c_lt, c_ge, c_le, c_eq, c_ne, c_eqs, c_nes, c_les, c_ins, src_s, src_t, src_r, src_f, set_set, w_pow10, room, Nat.reduceAdd, Nat.reduceLeDiff, Nat.zero_add, Int.reduceLE, Int.reduceLT, Int.reduceNeg, true_and, and_true])
  refine (sp_of hk' U1 (by omega) (by simp) (by simp)).mono fun c μ2 ⟨hc, S2, U2⟩ => ?_
  obtain ⟨c, rfl, hc0, hc1⟩ : ∃ c' : Int, c = .int c' ∧ 0 ≤ c' ∧ c' ≤ 5 := by
    simp only [List.mem_cons, List.not_mem_nil, or_false] at hc
    rcases hc with rfl | rfl | rfl | rfl | rfl | rfl <;> exact ⟨_, rfl, by decide, by decide⟩
  (try simp only [W_xop, w_mk0, w_mk1, w_isx, w_fld, W_ok, W_var, W_non, W_bl, W_int, W_str, W_bin, W_neg, W_cmp, W_chn, W_and, W_or, W_not, W_iteE, W_tup, W_lst, W_lstM, W_dct0, W_dct0M, W_dct1, W_ix, W_slU, W_slL, W_slLU, W_rev, W_call, W_callk, W_blt, W_isi, W_mth, W_mtc, W_zip, zip_t, zip_r, nr_non, nr_bl, nr_int, nr_str, nr_tup, nr_rol, nr_frl, nr_dct, nr_loc, rc_index, rc_count, w_rng1, w_trub, w_trur, w_trut, src_g, W_evnil, W_evcons, W_set, W_setL, rolP_rol, W_par, W_par3, W_unp, bind_t, bind_r, bind_1, bind_0, c_isb, W_enu, enum_t, enum_r, W_lcNE, W_srtS, W_srtL, W_srtF, W_lzip, W_lenS, W_last, W_cl, W_sset, W_expr, W_ret, W_if, W_pass, W_brk, W_cnt, W_for, W_lc, W_lcIf, W_seq, W_rng1, W_rng2, W_cons, W_nil, seqP_nx, seqP_rt, seqP_bk, seqP_ct, retP_rt, retP_nx, onB_true, onB_false, notB_bl, onS_some, getP_some, intP_int, tupP_tup, strP_str, List.getElem?_cons_zero, List.getElem?_cons_succ, List.set_cons_zero, List.set_cons_succ, List.length_cons, List.length_nil, List.map_cons, List.map_nil, List.cons_append, List.nil_append, List.replicate_succ, List.replicate_zero, w_add, w_sub, w_mul, w_fdiv, w_mod, w_addB, w_subB, w_adds, w_addt, w_addr, w_mulr, w_mult, w_ixt, w_ixr, w_ixf, w_ixl, it0, it1, it2, it3, it4, w_lent, w_lenr, w_lenf, w_lens, w_lenl, w_abs, w_inti, w_intb, w_max, w_min, w_tupt, w_tupr, w_tupl, w_listt, w_listr, w_listMt, w_slt, w_slr, w_sls, w_app, w_sset, ite_bl, ite_nb, onO_d, onO_n, Ev.wipe, c_gt, c_lt, c_ge, c_le, c_eq, c_ne, c_eqs, c_nes, c_les, c_ins, src_s, src_t, src_r, src_f, set_set, w_pow10, room, Nat.reduceAdd, Nat.reduceLeDiff, Nat.zero_add, Int.reduceLE, Int.reduceLT, Int.reduceNeg, true_and, and_true])
  rw [rng_0 (by omega) (by omega)]
  (try simp only [W_xop, w_mk0, w_mk1, w_isx, w_fld, W_ok, W_var, W_non, W_bl, W_int, W_str, W_bin, W_neg, W_cmp, W_chn, W_and, W_or, W_not, W_iteE, W_tup, W_lst, W_lstM, W_dct0, W_dct0M, W_dct1, W_ix, W_slU, W_slL, W_slLU, W_rev, W_call, W_callk, W_blt, W_isi, W_mth, W_mtc, W_zip, zip_t, zip_r, nr_non, nr_bl, nr_int, nr_str, nr_tup, nr_rol, nr_frl, nr_dct, nr_loc, rc_index, rc_count, w_rng1, w_trub, w_trur, w_trut, src_g, W_evnil, W_evcons, W_set, W_setL, rolP_rol, W_par, W_par3, W_unp, bind_t, bind_r, bind_1, bind_0, c_isb, W_enu, enum_t, enum_r, W_lcNE, W_srtS, W_srtL, W_srtF, W_lzip, W_lenS, W_last, W_cl, W_sset, W_expr, W_ret, W_if, W_pass, W_brk, W_cnt, W_for, W_lc, W_lcIf, W_seq, W_rng1, W_rng2, W_cons, W_nil, seqP_nx, seqP_rt, seqP_bk, seqP_ct, retP_rt, retP_nx, onB_true, onB_false, notB_bl, onS_some, getP_some, intP_int, tupP_tup, strP_str, List.getElem?_cons_zero, List.getElem?_cons_succ, List.set_cons_zero, List.set_cons_succ, List.length_cons, List.length_nil, List.map_cons, List.map_nil, List.cons_append, List.nil_append, List.replicate_succ, List.replicate_zero, w_add, w_sub, w_mul, w_fdiv, w_mod, w_addB, w_subB, w_adds, w_addt, w_addr, w_mulr, w_mult, w_ixt, w_ixr, w_ixf, w_ixl, it0, it1, it2, it3, it4, w_lent, w_lenr, w_lenf, w_lens, w_lenl, w_abs, w_inti, w_intb, w_max, w_min, w_tupt, w_tupr, w_tupl, w_listt, w_listr, w_listMt, w_slt, w_slr, w_sls, w_app, w_sset, ite_bl, ite_nb, onO_d, onO_n, Ev.wipe, c_gt, c_lt, c_ge, c_le, c_eq, c_ne, c_eqs, c_nes, c_les, c_ins, src_s, src_t, src_r, src_f, set_set, w_pow10, room, Nat.reduceAdd, Nat.reduceLeDiff, Nat.zero_add, Int.reduceLE, Int.reduceLT, Int.reduceNeg, true_and, and_true])
  refine W_for_rng (fun i ρ μ' => ∃ (x o : Option D) (d : D), ρ = [some (.loc u), x, some d, o] ∧ Th (3 + i) b0 (2 ^ i * 8000 - 7) d ∧ Sm u μ μ' ∧ Urn u (n + 2 + i) μ') ⟨_, _, _, rfl, hT, S1.trans S2, U2⟩ (fun i ρ μ' hi h => ?_) (fun ρ μ' h => ?_)
  · obtain ⟨x, o, d, rfl, hT, hS, hU⟩ := h
    have hi5 : i < 5 := by omega
    refine ⟨_, rfl, ?_⟩
    (try simp only [W_xop, w_mk0, w_mk1, w_isx, w_fld, W_ok, W_var, W_non, W_bl, W_int, W_str, W_bin, W_neg, W_cmp, W_chn, W_and, W_or, W_not, W_iteE, W_tup, W_lst, W_lstM, W_dct0, W_dct0M, W_dct1, W_ix, W_slU, W_slL, W_slLU, W_rev, W_call, W_callk, W_blt, W_isi, W_mth, W_mtc, W_zip, zip_t, zip_r, nr_non, nr_bl, nr_int, nr_str, nr_tup, nr_rol, nr_frl, nr_dct, nr_loc, rc_index, rc_count, w_rng1, w_trub, w_trur, w_trut, src_g, W_evnil, W_evcons, W_set, W_setL, rolP_rol, W_par, W_par3, W_unp, bind_t, bind_r, bind_1, bind_0, c_isb, W_enu, enum_t, enum_r, W_lcNE, W_srtS, W_srtL, W_srtF, W_lzip, W_lenS, W_last, W_cl, W_sset, W_expr, W_ret, W_if, W_pass, W_brk, W_cnt, W_for, W_lc, W_lcIf, W_seq, W_rng1, W_rng2, W_cons, W_nil, seqP_nx, seqP_rt, seqP_bk, seqP_ct, retP_rt, retP_nx, onB_true, onB_false, notB_bl, onS_some, getP_some, intP_int, tupP_tup, strP_str, List.getElem?_cons_zero, List.getElem?_cons_succ, List.set_cons_zero, List.set_cons_succ, List.length_cons, List.length_nil, List.map_cons, List.map_nil, List.cons_append, List.nil_append, List.replicate_succ, List.replicate_zero, w_add, w_sub, w_mul, w_fdiv, w_mod, w_addB, w_subB, w_adds, w_addt, w_addr, w_mulr, w_mult, w_ixt, w_ixr, w_ixf, w_ixl, it0, it1, it2, it3, it4, w_lent, w_lenr, w_lenf, w_lens, w_lenl, w_abs, w_inti, w_intb, w_max, w_min, w_tupt, w_tupr, w_tupl, w_listt, w_listr, w_listMt, w_slt, w_slr, w_sls, w_app, w_sset, ite_bl, ite_nb, onO_d, onO_n, Ev.wipe, c_gt, c_lt, c_ge, c_le, c_eq, c_ne, c_eqs, c_nes, c_les, c_ins, src_s, src_t, src_r, src_f, set_set, w_pow10, room, Nat.reduceAdd, Nat.reduceLeDiff, Nat.zero_add, Int.reduceLE, Int.reduceLT, Int.reduceNeg, true_and, and_true])
    have hp : 1 ≤ 2 ^ i := Nat.one_le_two_pow
    have hp2 : 2 ^ (i + 1) = 2 * 2 ^ i := by rw [Nat.pow_succ]; omega
    refine (sp_of hk' hU (by omega) (by simp) (by simp)).mono fun y μ3 ⟨hy, S3, U3⟩ => ?_
    rw [nextP_nx]
    refine ⟨_, _, _, rfl, ?_, hS.trans S3, U3.up (by omega)⟩
    simp only [List.mem_cons, List.not_mem_nil, or_false] at hy
    rcases hy with rfl | rfl | rfl | rfl | rfl
    · exact hT.tup1.up (by omega) (Nat.le_refl _) (by omega)
    · exact hT.rol1.up (by omega) (Nat.le_refl _) (by omega)
    · exact (hT.dct1 (by decide)).up (by omega) (Nat.le_refl _) (by simp only [List.length_cons, List.length_nil]; omega)
    · exact (hT.tup2 (Th.int (n := 2 + i) (i := 0) (by simp)|>.up (by omega) (Nat.le_refl _) (Nat.le_refl _))).up (by omega) (Nat.le_refl _) (by omega)
    · exact (Th.tup ((ThL.cons hT (ThL.cons hT ThL.nil)).cut _ _)).up (by omega) (Nat.le_refl _) (by omega)
  · obtain ⟨x, o, d, rfl, hT, hS, hU⟩ := h
    have hp : 2 ^ c.toNat ≤ 2 ^ 5 := Nat.pow_le_pow_right (by decide) (by omega)
    (try simp only [W_xop, w_mk0, w_mk1, w_isx, w_fld, W_ok, W_var, W_non, W_bl, W_int, W_str, W_bin, W_neg, W_cmp, W_chn, W_and, W_or, W_not, W_iteE, W_tup, W_lst, W_lstM, W_dct0, W_dct0M, W_dct1, W_ix, W_slU, W_slL, W_slLU, W_rev, W_call, W_callk, W_blt, W_isi, W_mth, W_mtc, W_zip, zip_t, zip_r, nr_non, nr_bl, nr_int, nr_str, nr_tup, nr_rol, nr_frl, nr_dct, nr_loc, rc_index, rc_count, w_rng1, w_trub, w_trur, w_trut, src_g, W_evnil, W_evcons, W_set, W_setL, rolP_rol, W_par, W_par3, W_unp, bind_t, bind_r, bind_1, bind_0, c_isb, W_enu, enum_t, enum_r, W_lcNE, W_srtS, W_srtL, W_srtF, W_lzip, W_lenS, W_last, W_cl, W_sset, W_expr, W_ret, W_if, W_pass, W_brk, W_cnt, W_for, W_lc, W_lcIf, W_seq, W_rng1, W_rng2, W_cons, W_nil, seqP_nx, seqP_rt, seqP_bk, seqP_ct, retP_rt, retP_nx, onB_true, onB_false, notB_bl, onS_some, getP_some, intP_int, tupP_tup, strP_str, List.getElem?_cons_zero, List.getElem?_cons_succ, List.set_cons_zero, List.set_cons_succ, List.length_cons, List.length_nil, List.map_cons, List.map_nil, List.cons_append, List.nil_append, List.replicate_succ, List.replicate_zero, w_add, w_sub, w_mul, w_fdiv, w_mod, w_addB, w_subB, w_adds, w_addt, w_addr, w_mulr, w_mult, w_ixt, w_ixr, w_ixf, w_ixl, it0, it1, it2, it3, it4, w_lent, w_lenr, w_lenf, w_lens, w_lenl, w_abs, w_inti, w_intb, w_max, w_min, w_tupt, w_tupr, w_tupl, w_listt, w_listr, w_listMt, w_slt, w_slr, w_sls, w_app, w_sset, ite_bl, ite_nb, onO_d, onO_n, Ev.wipe, c_gt, c_lt, c_ge, c_le, c_eq, c_ne, c_eqs, c_nes, c_les, c_ins, src_s, src_t, src_r, src_f, set_set, w_pow10, room, Nat.reduceAdd, Nat.reduceLeDiff, Nat.zero_add, Int.reduceLE, Int.reduceLT, Int.reduceNeg, true_and, and_true])
    exact ⟨hT.up (by omega) (Nat.le_refl _) (by omega), hS, hU.up (by omega)⟩
theorem c_eqb1 {p : Bool} {μ : Sto} : cmpop .eq (.bl p) (.int 1) μ = some p := by cases p <;> rfl
def Bent1 (u n N w b : Nat) (μ : Sto) : D → Sto → Prop := fun d' μ' => Th (n + 12) (b + 1) (3 * w + 400000) d' ∧ Sm u μ μ' ∧ Urn u (N + 3 * n + 30) μ'
end Ev
namespace Ev
open PySem
section
variable {k u n : Nat} {μ : Sto}
theorem plain_bls : ∀ bs : List Bool, plainPs (bs.map .bool) = true
  | [] => rfl
  | b :: bs => by simp only [List.map_cons, plainPs, plainP, plain_bls bs, Bool.and_self]
theorem ne_bls (bs : List Bool) : cmpop .ne (.rol (bs.map .bl)) (.rol (bs.map .bl)) μ = some false := by
  show neB μ _ _ = _
  unfold neB
  have e : ∀ bs : List Bool, omap (dat μ 59) (bs.map D.bl) = some (bs.map .bool) := fun bs => by
    induction bs with
    | nil => rfl
    | cons b bs ih => simp only [List.map_cons, omap, ih, dat]
  rw [show dat μ 60 (.rol (bs.map .bl)) = some (.list (bs.map .bool)) by
    show (omap (dat μ 59) (bs.map D.bl)).map PyData.list = _
    rw [e]; rfl]
  have p : plainP (.list (bs.map .bool)) = true := by
    simp only [plainP]
    exact plain_bls bs
  show (if plainP (.list (bs.map .bool)) && plainP (.list (bs.map .bool)) then some (!PyData.eqv (.list (bs.map .bool)) (.list (bs.map .bool))) else none) = _
  rw [p, if_pos (by rfl), PySem.SeqAt.eqv_refl_plain _ (by rw [← plainP_eq]; exact p)]
  rfl
theorem sp_sorts {cl : Nat} {l : List D} (hk : 1 ≤ k) (hc : cl < 21) : W (run fnsL kwL k 134 [.exo cl l] μ) fun d μ' => d = .rol (((List.range 21).map fun j => decide (j = cl)).map .bl) ∧ μ' = μ := by
  obtain ⟨k, rfl, _⟩ := fuel hk
  rw [r_law_sorts]
  refine W_fn rfl rfl ?_
  simp only [f_law_sorts, enter]
  (try simp only [W_xop, w_mk0, w_mk1, w_isx, w_fld, W_ok, W_var, W_non, W_bl, W_int, W_str, W_bin, W_neg, W_cmp, W_chn, W_and, W_or, W_not, W_iteE, W_tup, W_lst, W_lstM, W_dct0, W_dct0M, W_dct1, W_ix, W_slU, W_slL, W_slLU, W_rev, W_call, W_callk, W_blt, W_isi, W_mth, W_mtc, W_zip, zip_t, zip_r, nr_non, nr_bl, nr_int, nr_str, nr_tup, nr_rol, nr_frl, nr_dct, nr_loc, rc_index, rc_count, w_rng1, w_trub, w_trur, w_trut, src_g, W_evnil, W_evcons, W_set, W_setL, rolP_rol, W_par, W_par3, W_unp, bind_t, bind_r, bind_1, bind_0, c_isb, W_enu, enum_t, enum_r, W_lcNE, W_srtS, W_srtL, W_srtF, W_lzip, W_lenS, W_last, W_cl, W_sset, W_expr, W_ret, W_if, W_pass, W_brk, W_cnt, W_for, W_lc, W_lcIf, W_seq, W_rng1, W_rng2, W_cons, W_nil, seqP_nx, seqP_rt, seqP_bk, seqP_ct, retP_rt, retP_nx, onB_true, onB_false, notB_bl, onS_some, getP_some, intP_int, tupP_tup, strP_str, List.getElem?_cons_zero, List.getElem?_cons_succ, List.set_cons_zero, List.set_cons_succ, List.length_cons, List.length_nil, List.map_cons, List.map_nil, List.cons_append, List.nil_append, List.replicate_succ, List.replicate_zero, w_add, w_sub, w_mul, w_fdiv, w_mod, w_addB, w_subB, w_adds, w_addt, w_addr, w_mulr, w_mult, w_ixt, w_ixr, w_ixf, w_ixl, it0, it1, it2, it3, it4, w_lent, w_lenr, w_lenf, w_lens, w_lenl, w_abs, w_inti, w_intb, w_max, w_min, w_tupt, w_tupr, w_tupl, w_listt, w_listr, w_listMt, w_slt, w_slr, w_sls, w_app, w_sset, ite_bl, ite_nb, onO_d, onO_n, Ev.wipe, c_gt, c_lt, c_ge, c_le, c_eq, c_ne, c_eqs, c_nes, c_les, c_ins, src_s, src_t, src_r, src_f, set_set, w_pow10, room, Nat.reduceAdd, Nat.reduceLeDiff, Nat.zero_add, Int.reduceLE, Int.reduceLT, Int.reduceNeg, true_and, and_true])
  simp [hc, subX, List.range_succ]
/-- the errors that are made, by position and by name -/
def named (x : D) : List D := (List.range 17).map fun j => .exo j [x]
def mades (x : D) : List D := (List.range 21).map fun j => .exo j (if j < 17 then [x] else [])
theorem sp_made {x : D} (hk : 1 ≤ k) : W (run fnsL kwL k 135 [x] μ) fun d μ' => d = .rol (mades x) ∧ μ' = μ := by
  obtain ⟨k, rfl, _⟩ := fuel hk
  rw [r_law_made]
  refine W_fn rfl rfl ?_
  simp only [f_law_made, enter]
  (try simp only [W_xop, w_mk0, w_mk1, w_isx, w_fld, W_ok, W_var, W_non, W_bl, W_int, W_str, W_bin, W_neg, W_cmp, W_chn, W_and, W_or, W_not, W_iteE, W_tup, W_lst, W_lstM, W_dct0, W_dct0M, W_dct1, W_ix, W_slU, W_slL, W_slLU, W_rev, W_call, W_callk, W_blt, W_isi, W_mth, W_mtc, W_zip, zip_t, zip_r, nr_non, nr_bl, nr_int, nr_str, nr_tup, nr_rol, nr_frl, nr_dct, nr_loc, rc_index, rc_count, w_rng1, w_trub, w_trur, w_trut, src_g, W_evnil, W_evcons, W_set, W_setL, rolP_rol, W_par, W_par3, W_unp, bind_t, bind_r, bind_1, bind_0, c_isb, W_enu, enum_t, enum_r, W_lcNE, W_srtS, W_srtL, W_srtF, W_lzip, W_lenS, W_last, W_cl, W_sset, W_expr, W_ret, W_if, W_pass, W_brk, W_cnt, W_for, W_lc, W_lcIf, W_seq, W_rng1, W_rng2, W_cons, W_nil, seqP_nx, seqP_rt, seqP_bk, seqP_ct, retP_rt, retP_nx, onB_true, onB_false, notB_bl, onS_some, getP_some, intP_int, tupP_tup, strP_str, List.getElem?_cons_zero, List.getElem?_cons_succ, List.set_cons_zero, List.set_cons_succ, List.length_cons, List.length_nil, List.map_cons, List.map_nil, List.cons_append, List.nil_append, List.replicate_succ, List.replicate_zero, w_add, w_sub, w_mul, w_fdiv, w_mod, w_addB, w_subB, w_adds, w_addt, w_addr, w_mulr, w_mult, w_ixt, w_ixr, w_ixf, w_ixl, it0, it1, it2, it3, it4, w_lent, w_lenr, w_lenf, w_lens, w_lenl, w_abs, w_inti, w_intb, w_max, w_min, w_tupt, w_tupr, w_tupl, w_listt, w_listr, w_listMt, w_slt, w_slr, w_sls, w_app, w_sset, ite_bl, ite_nb, onO_d, onO_n, Ev.wipe, c_gt, c_lt, c_ge, c_le, c_eq, c_ne, c_eqs, c_nes, c_les, c_ins, src_s, src_t, src_r, src_f, set_set, w_pow10, room, Nat.reduceAdd, Nat.reduceLeDiff, Nat.zero_add, Int.reduceLE, Int.reduceLT, Int.reduceNeg, true_and, and_true])
  simp [mades, List.range_succ]
theorem sp_named {x : D} (hk : 1 ≤ k) : W (run fnsL kwL k 136 [x] μ) fun d μ' => d = .rol (named x) ∧ μ' = μ := by
  obtain ⟨k, rfl, _⟩ := fuel hk
  rw [r_law_named]
  refine W_fn rfl rfl ?_
  simp only [f_law_named, enter]
  (try simp only [W_xop, w_mk0, w_mk1, w_isx, w_fld, W_ok, W_var, W_non, W_bl, W_int, W_str, W_bin, W_neg, W_cmp, W_chn, W_and, W_or, W_not, W_iteE, W_tup, W_lst, W_lstM, W_dct0, W_dct0M, W_dct1, W_ix, W_slU, W_slL, W_slLU, W_rev, W_call, W_callk, W_blt, W_isi, W_mth, W_mtc, W_zip, zip_t, zip_r, nr_non, nr_bl, nr_int, nr_str, nr_tup, nr_rol, nr_frl, nr_dct, nr_loc, rc_index, rc_count, w_rng1, w_trub, w_trur, w_trut, src_g, W_evnil, W_evcons, W_set, W_setL, rolP_rol, W_par, W_par3, W_unp, bind_t, bind_r, bind_1, bind_0, c_isb, W_enu, enum_t, enum_r, W_lcNE, W_srtS, W_srtL, W_srtF, W_lzip, W_lenS, W_last, W_cl, W_sset, W_expr, W_ret, W_if, W_pass, W_brk, W_cnt, W_for, W_lc, W_lcIf, W_seq, W_rng1, W_rng2, W_cons, W_nil, seqP_nx, seqP_rt, seqP_bk, seqP_ct, retP_rt, retP_nx, onB_true, onB_false, notB_bl, onS_some, getP_some, intP_int, tupP_tup, strP_str, List.getElem?_cons_zero, List.getElem?_cons_succ, List.set_cons_zero, List.set_cons_succ, List.length_cons, List.length_nil, List.map_cons, List.map_nil, List.cons_append, List.nil_append, List.replicate_succ, List.replicate_zero, w_add, w_sub, w_mul, w_fdiv, w_mod, w_addB, w_subB, w_adds, w_addt, w_addr, w_mulr, w_mult, w_ixt, w_ixr, w_ixf, w_ixl, it0, it1, it2, it3, it4, w_lent, w_lenr, w_lenf, w_lens, w_lenl, w_abs, w_inti, w_intb, w_max, w_min, w_tupt, w_tupr, w_tupl, w_listt, w_listr, w_listMt, w_slt, w_slr, w_sls, w_app, w_sset, ite_bl, ite_nb, onO_d, onO_n, Ev.wipe, c_gt, c_lt, c_ge, c_le, c_eq, c_ne, c_eqs, c_nes, c_les, c_ins, src_s, src_t, src_r, src_f, set_set, w_pow10, room, Nat.reduceAdd, Nat.reduceLeDiff, Nat.zero_add, Int.reduceLE, Int.reduceLT, Int.reduceNeg, true_and, and_true])
  simp [named, List.range_succ]
theorem sp_kept {x : D} {l : List D} (hl : ∀ j, j < 17 → l[j]? = some (.exo j [x])) (hk : 1 ≤ k) : W (run fnsL kwL k 137 [.rol l] μ) fun d μ' => d = .rol (List.replicate 17 x) ∧ μ' = μ := by
  obtain ⟨k, rfl, _⟩ := fuel hk
  rw [r_law_kept]
  refine W_fn rfl rfl ?_
  simp only [f_law_kept, enter]
  have t0 : ∀ q, itP l 0 q = q (.exo 0 [x]) := fun q => itP_nat (n := 0) (hl 0 (by decide))
  have t1 : ∀ q, itP l 1 q = q (.exo 1 [x]) := fun q => itP_nat (n := 1) (hl 1 (by decide))
  have t2 : ∀ q, itP l 2 q = q (.exo 2 [x]) := fun q => itP_nat (n := 2) (hl 2 (by decide))
  have t3 : ∀ q, itP l 3 q = q (.exo 3 [x]) := fun q => itP_nat (n := 3) (hl 3 (by decide))
  have t4 : ∀ q, itP l 4 q = q (.exo 4 [x]) := fun q => itP_nat (n := 4) (hl 4 (by decide))
  have t5 : ∀ q, itP l 5 q = q (.exo 5 [x]) := fun q => itP_nat (n := 5) (hl 5 (by decide))
  have t6 : ∀ q, itP l 6 q = q (.exo 6 [x]) := fun q => itP_nat (n := 6) (hl 6 (by decide))
  have t7 : ∀ q, itP l 7 q = q (.exo 7 [x]) := fun q => itP_nat (n := 7) (hl 7 (by decide))
  have t8 : ∀ q, itP l 8 q = q (.exo 8 [x]) := fun q => itP_nat (n := 8) (hl 8 (by decide))
  have t9 : ∀ q, itP l 9 q = q (.exo 9 [x]) := fun q => itP_nat (n := 9) (hl 9 (by decide))
  have t10 : ∀ q, itP l 10 q = q (.exo 10 [x]) := fun q => itP_nat (n := 10) (hl 10 (by decide))
  have t11 : ∀ q, itP l 11 q = q (.exo 11 [x]) := fun q => itP_nat (n := 11) (hl 11 (by decide))
  have t12 : ∀ q, itP l 12 q = q (.exo 12 [x]) := fun q => itP_nat (n := 12) (hl 12 (by decide))
  have t13 : ∀ q, itP l 13 q = q (.exo 13 [x]) := fun q => itP_nat (n := 13) (hl 13 (by decide))
  have t14 : ∀ q, itP l 14 q = q (.exo 14 [x]) := fun q => itP_nat (n := 14) (hl 14 (by decide))
  have t15 : ∀ q, itP l 15 q = q (.exo 15 [x]) := fun q => itP_nat (n := 15) (hl 15 (by decide))
  have t16 : ∀ q, itP l 16 q = q (.exo 16 [x]) := fun q => itP_nat (n := 16) (hl 16 (by decide))
  (try simp only [W_xop, w_mk0, w_mk1, w_isx, w_fld, W_ok, W_var, W_non, W_bl, W_int, W_str, W_bin, W_neg, W_cmp, W_chn, W_and, W_or, W_not, W_iteE, W_tup, W_lst, W_lstM, W_dct0, W_dct0M, W_dct1, W_ix, W_slU, W_slL, W_slLU, W_rev, W_call, W_callk, W_blt, W_isi, W_mth, W_mtc, W_zip, zip_t, zip_r, nr_non, nr_bl, nr_int, nr_str, nr_tup, nr_rol, nr_frl, nr_dct, nr_loc, rc_index, rc_count, w_rng1, w_trub, w_trur, w_trut, src_g, W_evnil, W_evcons, W_set, W_setL, rolP_rol, W_par, W_par3, W_unp, bind_t, bind_r, bind_1, bind_0, c_isb, W_enu, enum_t, enum_r, W_lcNE, W_srtS, W_srtL, W_srtF, W_lzip, W_lenS, W_last, W_cl, W_sset, W_expr, W_ret, W_if, W_pass, W_brk, W_cnt, W_for, W_lc, W_lcIf, W_seq, W_rng1, W_rng2, W_cons, W_nil, seqP_nx, seqP_rt, seqP_bk, seqP_ct, retP_rt, retP_nx, onB_true, onB_false, notB_bl, onS_some, getP_some, intP_int, tupP_tup, strP_str, List.getElem?_cons_zero, List.getElem?_cons_succ, List.set_cons_zero, List.set_cons_succ, List.length_cons, List.length_nil, List.map_cons, List.map_nil, List.cons_append, List.nil_append, List.replicate_succ, List.replicate_zero, w_add, w_sub, w_mul, w_fdiv, w_mod, w_addB, w_subB, w_adds, w_addt, w_addr, w_mulr, w_mult, w_ixt, w_ixr, w_ixf, w_ixl, it0, it1, it2, it3, it4, w_lent, w_lenr, w_lenf, w_lens, w_lenl, w_abs, w_inti, w_intb, w_max, w_min, w_tupt, w_tupr, w_tupl, w_listt, w_listr, w_listMt, w_slt, w_slr, w_sls, w_app, w_sset, ite_bl, ite_nb, onO_d, onO_n, Ev.wipe, c_gt, c_lt, c_ge, c_le, c_eq, c_ne, c_eqs, c_nes, c_les, c_ins, src_s, src_t, src_r, src_f, set_set, w_pow10, room, Nat.reduceAdd, Nat.reduceLeDiff, Nat.zero_add, Int.reduceLE, Int.reduceLT, Int.reduceNeg, true_and, and_true])
  repeat (first | (simp only [t0, t1, t2, t3, t4, t5, t6, t7, t8, t9, t10, t11, t12, t13, t14, t15, t16]; (try simp only [W_xop, w_mk0, w_mk1, w_isx, w_fld, W_ok, W_var, W_non, W_bl, W_int, W_str, W_bin, W_neg, W_cmp, W_chn, W_and, W_or, W_not, W_iteE, W_tup, W_lst, W_lstM, W_dct0, W_dct0M, W_dct1, W_ix, W_slU, W_slL, W_slLU, W_rev, W_call, W_callk, W_blt, W_isi, W_mth, W_mtc, W_zip, zip_t, zip_r, nr_non, nr_bl, nr_int, nr_str, nr_tup, nr_rol, nr_frl, nr_dct, nr_loc, rc_index, rc_count, w_rng1, w_trub, w_trur, w_trut, src_g, W_evnil, W_evcons, W_set, W_setL, rolP_rol, W_par, W_par3, W_unp, bind_t, bind_r, bind_1, bind_0, c_isb, W_enu, enum_t, enum_r, W_lcNE, W_srtS, W_srtL, W_srtF, W_lzip, W_lenS, W_last, W_cl, W_sset, W_expr, W_ret, W_if, W_pass, W_brk, W_cnt, W_for, W_lc, W_lcIf, W_seq, W_rng1, W_rng2, W_cons, W_nil, seqP_nx, seqP_rt, seqP_bk, seqP_ct, retP_rt, retP_nx, onB_true, onB_false, notB_bl, onS_some, getP_some, intP_int, tupP_tup, strP_str, List.getElem?_cons_zero, List.getElem?_cons_succ, List.set_cons_zero, List.set_cons_succ, List.length_cons, List.length_nil, List.map_cons, List.map_nil, List.cons_append, List.nil_append, List.replicate_succ, List.replicate_zero, w_add, w_sub, w_mul, w_fdiv, w_mod, w_addB, w_subB, w_adds, w_addt, w_addr, w_mulr, w_mult, w_ixt, w_ixr, w_ixf, w_ixl, it0, it1, it2, it3, it4, w_lent, w_lenr, w_lenf, w_lens, w_lenl, w_abs, w_inti, w_intb, w_max, w_min, w_tupt, w_tupr, w_tupl, w_listt, w_listr, w_listMt, w_slt, w_slr, w_sls, w_app, w_sset, ite_bl, ite_nb, onO_d, onO_n, Ev.wipe, c_gt, c_lt, c_ge, c_le, c_eq, c_ne, c_eqs, c_nes, c_les, c_ins, src_s, src_t, src_r, src_f, set_set, w_pow10, room, Nat.reduceAdd, Nat.reduceLeDiff, Nat.zero_add, Int.reduceLE, Int.reduceLT, Int.reduceNeg, true_and, and_true])) | (refine ⟨⟨by decide, by decide⟩, ?_⟩; (try simp only [W_xop, w_mk0, w_mk1, w_isx, w_fld, W_ok, W_var, W_non, W_bl, W_int, W_str, W_bin, W_neg, W_cmp, W_chn, W_and, W_or, W_not, W_iteE, W_tup, W_lst, W_lstM, W_dct0, W_dct0M, W_dct1, W_ix, W_slU, W_slL, W_slLU, W_rev, W_call, W_callk, W_blt, W_isi, W_mth, W_mtc, W_zip, zip_t, zip_r, nr_non, nr_bl, nr_int, nr_str, nr_tup, nr_rol, nr_frl, nr_dct, nr_loc, rc_index, rc_count, w_rng1, w_trub, w_trur, w_trut, src_g, W_evnil, W_evcons, W_set, W_setL, rolP_rol, W_par, W_par3, W_unp, bind_t, bind_r, bind_1, bind_0, c_isb, W_enu, enum_t, enum_r, W_lcNE, W_srtS, W_srtL, W_srtF, W_lzip, W_lenS, W_last, W_cl, W_sset, W_expr, W_ret, W_if, W_pass, W_brk, W_cnt, W_for, W_lc, W_lcIf, W_seq, W_rng1, W_rng2, W_cons, W_nil, seqP_nx, seqP_rt, seqP_bk, seqP_ct, retP_rt, retP_nx, onB_true, onB_false, notB_bl, onS_some, getP_some, intP_int, tupP_tup, strP_str, List.getElem?_cons_zero, List.getElem?_cons_succ, List.set_cons_zero, List.set_cons_succ, List.length_cons, List.length_nil, List.map_cons, List.map_nil, List.cons_append, List.nil_append, List.replicate_succ, List.replicate_zero, w_add, w_sub, w_mul, w_fdiv, w_mod, w_addB, w_subB, w_adds, w_addt, w_addr, w_mulr, w_mult, w_ixt, w_ixr, w_ixf, w_ixl, it0, it1, it2, it3, it4, w_lent, w_lenr, w_lenf, w_lens, w_lenl, w_abs, w_inti, w_intb, w_max, w_min, w_tupt, w_tupr, w_tupl, w_listt, w_listr, w_listMt, w_slt, w_slr, w_sls, w_app, w_sset, ite_bl, ite_nb, onO_d, onO_n, Ev.wipe, c_gt, c_lt, c_ge, c_le, c_eq, c_ne, c_eqs, c_nes, c_les, c_ins, src_s, src_t, src_r, src_f, set_set, w_pow10, room, Nat.reduceAdd, Nat.reduceLeDiff, Nat.zero_add, Int.reduceLE, Int.reduceLT, Int.reduceNeg, true_and, and_true])))
  exact ⟨by decide, by decide⟩
theorem mades_at {x : D} {j : Nat} (h : j < 17) : (mades x)[j]? = some (.exo j [x]) := by
  unfold mades
  rw [List.getElem?_map, List.getElem?_range (by omega)]
  simp [h]
theorem named_at {x : D} {j : Nat} (h : j < 17) : (named x)[j]? = some (.exo j [x]) := by
  unfold named
  rw [List.getElem?_map, List.getElem?_range h]
  rfl
theorem thl_rep {m b w : Nat} {x : D} (h : Th m b w x) : ∀ n, ThL m b (n * (w + 2)) (List.replicate n x)
  | 0 => by simpa using ThL.nil
  | n + 1 => by
    rw [List.replicate_succ]
    exact (ThL.cons h (thl_rep h n)).up (Nat.le_refl _) (Nat.le_refl _) (by rw [Nat.add_mul]; omega)
theorem sp_right14 (hk : 60 ≤ k) (hU : Urn u n μ) (hn : n < 1000000) :
    W (run fnsL kwL k 138 [.loc u] μ) fun d μ' => d = .bl true ∧ Sm u μ μ' ∧ Urn u (n + 100) μ' := by
  obtain ⟨k, rfl, _⟩ := fuel hk
  rw [r_law_right_14]
  refine W_fn rfl rfl ?_
  simp only [f_law_right_14, enter]
  have hbig : b0 ≤ big1900 := by unfold big1900 b0; decide +kernel
  (try simp only [W_xop, w_mk0, w_mk1, w_isx, w_fld, W_ok, W_var, W_non, W_bl, W_int, W_str, W_bin, W_neg, W_cmp, W_chn, W_and, W_or, W_not, W_iteE, W_tup, W_lst, W_lstM, W_dct0, W_dct0M, W_dct1, W_ix, W_slU, W_slL, W_slLU, W_rev, W_call, W_callk, W_blt, W_isi, W_mth, W_mtc, W_zip, zip_t, zip_r, nr_non, nr_bl, nr_int, nr_str, nr_tup, nr_rol, nr_frl, nr_dct, nr_loc, rc_index, rc_count, w_rng1, w_trub, w_trur, w_trut, src_g, W_evnil, W_evcons, W_set, W_setL, rolP_rol, W_par, W_par3, W_unp, bind_t, bind_r, bind_1, bind_0, c_isb, W_enu, enum_t, enum_r, W_lcNE, W_srtS, W_srtL, W_srtF, W_lzip, W_lenS, W_last, W_cl, W_sset, W_expr, W_ret, W_if, W_pass, W_brk, W_cnt, W_for, W_lc, W_lcIf, W_seq, W_rng1, W_rng2, W_cons, W_nil, seqP_nx, seqP_rt, seqP_bk, seqP_ct, retP_rt, retP_nx, onB_true, onB_false, notB_bl, onS_some, getP_some, intP_int, tupP_tup, strP_str, List.getElem?_cons_zero, List.getElem?_cons_succ, List.set_cons_zero, List.set_cons_succ, List.length_cons, List.length_nil, List.map_cons, List.map_nil, List.cons_append, List.nil_append, List.replicate_succ, List.replicate_zero, w_add, w_sub, w_mul, w_fdiv, w_mod, w_addB, w_subB, w_adds, w_addt, w_addr, w_mulr, w_mult, w_ixt, w_ixr, w_ixf, w_ixl, it0, it1, it2, it3, it4, w_lent, w_lenr, w_lenf, w_lens, w_lenl, w_abs, w_inti, w_intb, w_max, w_min, w_tupt, w_tupr, w_tupl, w_listt, w_listr, w_listMt, w_slt, w_slr, w_sls, w_app, w_sset, ite_bl, ite_nb, onO_d, onO_n, Ev.wipe, c_gt, c_lt, c_ge, c_le, c_eq, c_ne, c_eqs, c_nes, c_les, c_ins, src_s, src_t, src_r, src_f, set_set, w_pow10, room, Nat.reduceAdd, Nat.reduceLeDiff, Nat.zero_add, Int.reduceLE, Int.reduceLT, Int.reduceNeg, true_and, and_true])
  rw [rng_0 (by decide) (by decide)]
  (try simp only [W_xop, w_mk0, w_mk1, w_isx, w_fld, W_ok, W_var, W_non, W_bl, W_int, W_str, W_bin, W_neg, W_cmp, W_chn, W_and, W_or, W_not, W_iteE, W_tup, W_lst, W_lstM, W_dct0, W_dct0M, W_dct1, W_ix, W_slU, W_slL, W_slLU, W_rev, W_call, W_callk, W_blt, W_isi, W_mth, W_mtc, W_zip, zip_t, zip_r, nr_non, nr_bl, nr_int, nr_str, nr_tup, nr_rol, nr_frl, nr_dct, nr_loc, rc_index, rc_count, w_rng1, w_trub, w_trur, w_trut, src_g, W_evnil, W_evcons, W_set, W_setL, rolP_rol, W_par, W_par3, W_unp, bind_t, bind_r, bind_1, bind_0, c_isb, W_enu, enum_t, enum_r, W_lcNE, W_srtS, W_srtL, W_srtF, W_lzip, W_lenS, W_last, W_cl, W_sset, W_expr, W_ret, W_if, W_pass, W_brk, W_cnt, W_for, W_lc, W_lcIf, W_seq, W_rng1, W_rng2, W_cons, W_nil, seqP_nx, seqP_rt, seqP_bk, seqP_ct, retP_rt, retP_nx, onB_true, onB_false, notB_bl, onS_some, getP_some, intP_int, tupP_tup, strP_str, List.getElem?_cons_zero, List.getElem?_cons_succ, List.set_cons_zero, List.set_cons_succ, List.length_cons, List.length_nil, List.map_cons, List.map_nil, List.cons_append, List.nil_append, List.replicate_succ, List.replicate_zero, w_add, w_sub, w_mul, w_fdiv, w_mod, w_addB, w_subB, w_adds, w_addt, w_addr, w_mulr, w_mult, w_ixt, w_ixr, w_ixf, w_ixl, it0, it1, it2, it3, it4, w_lent, w_lenr, w_lenf, w_lens, w_lenl, w_abs, w_inti, w_intb, w_max, w_min, w_tupt, w_tupr, w_tupl, w_listt, w_listr, w_listMt, w_slt, w_slr, w_sls, w_app, w_sset, ite_bl, ite_nb, onO_d, onO_n, Ev.wipe, c_gt, c_lt, c_ge, c_le, c_eq, c_ne, c_eqs, c_nes, c_les, c_ins, src_s, src_t, src_r, src_f, set_set, w_pow10, room, Nat.reduceAdd, Nat.reduceLeDiff, Nat.zero_add, Int.reduceLE, Int.reduceLT, Int.reduceNeg, true_and, and_true])
  refine W_lc_rng (fun i acc μ' => acc.length = i ∧ (∀ x ∈ acc, Th 10 b0 300000 x) ∧ Sm u μ μ' ∧ Urn u (n + 10 * i) μ') ⟨rfl, nofun, Sm.refl hU, hU⟩ (fun i acc μ1 hi h => ?_) (fun acc μ1 h => ?_)
  · obtain ⟨hl, hT, S, U⟩ := h
    have hi6 : i < 6 := hi
    refine ⟨_, rfl, ?_⟩
    (try simp only [W_xop, w_mk0, w_mk1, w_isx, w_fld, W_ok, W_var, W_non, W_bl, W_int, W_str, W_bin, W_neg, W_cmp, W_chn, W_and, W_or, W_not, W_iteE, W_tup, W_lst, W_lstM, W_dct0, W_dct0M, W_dct1, W_ix, W_slU, W_slL, W_slLU, W_rev, W_call, W_callk, W_blt, W_isi, W_mth, W_mtc, W_zip, zip_t, zip_r, nr_non, nr_bl, nr_int, nr_str, nr_tup, nr_rol, nr_frl, nr_dct, nr_loc, rc_index, rc_count, w_rng1, w_trub, w_trur, w_trut, src_g, W_evnil, W_evcons, W_set, W_setL, rolP_rol, W_par, W_par3, W_unp, bind_t, bind_r, bind_1, bind_0, c_isb, W_enu, enum_t, enum_r, W_lcNE, W_srtS, W_srtL, W_srtF, W_lzip, W_lenS, W_last, W_cl, W_sset, W_expr, W_ret, W_if, W_pass, W_brk, W_cnt, W_for, W_lc, W_lcIf, W_seq, W_rng1, W_rng2, W_cons, W_nil, seqP_nx, seqP_rt, seqP_bk, seqP_ct, retP_rt, retP_nx, onB_true, onB_false, notB_bl, onS_some, getP_some, intP_int, tupP_tup, strP_str, List.getElem?_cons_zero, List.getElem?_cons_succ, List.set_cons_zero, List.set_cons_succ, List.length_cons, List.length_nil, List.map_cons, List.map_nil, List.cons_append, List.nil_append, List.replicate_succ, List.replicate_zero, w_add, w_sub, w_mul, w_fdiv, w_mod, w_addB, w_subB, w_adds, w_addt, w_addr, w_mulr, w_mult, w_ixt, w_ixr, w_ixf, w_ixl, it0, it1, it2, it3, it4, w_lent, w_lenr, w_lenf, w_lens, w_lenl, w_abs, w_inti, w_intb, w_max, w_min, w_tupt, w_tupr, w_tupl, w_listt, w_listr, w_listMt, w_slt, w_slr, w_sls, w_app, w_sset, ite_bl, ite_nb, onO_d, onO_n, Ev.wipe, c_gt, c_lt, c_ge, c_le, c_eq, c_ne, c_eqs, c_nes, c_les, c_ins, src_s, src_t, src_r, src_f, set_set, w_pow10, room, Nat.reduceAdd, Nat.reduceLeDiff, Nat.zero_add, Int.reduceLE, Int.reduceLT, Int.reduceNeg, true_and, and_true])
    refine (sp_odd (by omega) U (by omega)).mono fun x μ2 ⟨hx, S2, U2⟩ => ?_
    refine ⟨by rw [hl]; omega, by simp [hl], fun y hy => ?_, S.trans S2, U2.up (by omega)⟩
    rcases List.mem_append.mp hy with hy | hy
    · exact hT y hy
    · rw [List.mem_singleton.mp hy]; exact hx
  · obtain ⟨hl, hT, S, U⟩ := h
    have hT2 : ∀ x ∈ acc ++ [D.non, .int 0, .tup [.str [100, 111], .int 0], .rol [.int 1], .dct [(.inr [97], .tup [])]], Th 10 b0 300000 x := fun x hx => by
      rcases List.mem_append.mp hx with hx | hx
      · exact hT x hx
      · exact th_all (by decide +kernel) hx
    (try simp only [W_xop, w_mk0, w_mk1, w_isx, w_fld, W_ok, W_var, W_non, W_bl, W_int, W_str, W_bin, W_neg, W_cmp, W_chn, W_and, W_or, W_not, W_iteE, W_tup, W_lst, W_lstM, W_dct0, W_dct0M, W_dct1, W_ix, W_slU, W_slL, W_slLU, W_rev, W_call, W_callk, W_blt, W_isi, W_mth, W_mtc, W_zip, zip_t, zip_r, nr_non, nr_bl, nr_int, nr_str, nr_tup, nr_rol, nr_frl, nr_dct, nr_loc, rc_index, rc_count, w_rng1, w_trub, w_trur, w_trut, src_g, W_evnil, W_evcons, W_set, W_setL, rolP_rol, W_par, W_par3, W_unp, bind_t, bind_r, bind_1, bind_0, c_isb, W_enu, enum_t, enum_r, W_lcNE, W_srtS, W_srtL, W_srtF, W_lzip, W_lenS, W_last, W_cl, W_sset, W_expr, W_ret, W_if, W_pass, W_brk, W_cnt, W_for, W_lc, W_lcIf, W_seq, W_rng1, W_rng2, W_cons, W_nil, seqP_nx, seqP_rt, seqP_bk, seqP_ct, retP_rt, retP_nx, onB_true, onB_false, notB_bl, onS_some, getP_some, intP_int, tupP_tup, strP_str, List.getElem?_cons_zero, List.getElem?_cons_succ, List.set_cons_zero, List.set_cons_succ, List.length_cons, List.length_nil, List.map_cons, List.map_nil, List.cons_append, List.nil_append, List.replicate_succ, List.replicate_zero, w_add, w_sub, w_mul, w_fdiv, w_mod, w_addB, w_subB, w_adds, w_addt, w_addr, w_mulr, w_mult, w_ixt, w_ixr, w_ixf, w_ixl, it0, it1, it2, it3, it4, w_lent, w_lenr, w_lenf, w_lens, w_lenl, w_abs, w_inti, w_intb, w_max, w_min, w_tupt, w_tupr, w_tupl, w_listt, w_listr, w_listMt, w_slt, w_slr, w_sls, w_app, w_sset, ite_bl, ite_nb, onO_d, onO_n, Ev.wipe, c_gt, c_lt, c_ge, c_le, c_eq, c_ne, c_eqs, c_nes, c_les, c_ins, src_s, src_t, src_r, src_f, set_set, w_pow10, room, Nat.reduceAdd, Nat.reduceLeDiff, Nat.zero_add, Int.reduceLE, Int.reduceLT, Int.reduceNeg, true_and, and_true])
    have hl6 : acc.length = 6 := hl
    refine ⟨by omega, ?_⟩
    refine W_for_its (fun i ρ μ' => (∃ o1 o2 o3 o4 o5 o6 o7 : Option D, ρ = [some (.loc u), o1, o2, o3, o4, o5, o6, o7]) ∧ μ' = μ1) ⟨⟨_, _, _, _, _, _, _, rfl⟩, rfl⟩ (fun i x ρ μ' hx h => ?_) (fun ρ μ' h => ?_)
    · obtain ⟨⟨o1, o2, o3, o4, o5, o6, o7, rfl⟩, e2⟩ := h
      obtain rfl : μ1 = μ' := e2.symm
      have hTx := hT2 x (List.mem_of_getElem? hx)
      obtain ⟨s, hs⟩ := hTx.shown (by decide) hbig (by decide)
      have hT17 : Th 11 b0 (2 + 17 * (300000 + 2)) (.rol (List.replicate 17 x)) := Th.rol (thl_rep hTx 17)
      obtain ⟨s2, hs2⟩ := hT17.shown (by decide) hbig (by decide)
      refine ⟨_, bind_n, ?_⟩
      (try simp only [W_xop, w_mk0, w_mk1, w_isx, w_fld, W_ok, W_var, W_non, W_bl, W_int, W_str, W_bin, W_neg, W_cmp, W_chn, W_and, W_or, W_not, W_iteE, W_tup, W_lst, W_lstM, W_dct0, W_dct0M, W_dct1, W_ix, W_slU, W_slL, W_slLU, W_rev, W_call, W_callk, W_blt, W_isi, W_mth, W_mtc, W_zip, zip_t, zip_r, nr_non, nr_bl, nr_int, nr_str, nr_tup, nr_rol, nr_frl, nr_dct, nr_loc, rc_index, rc_count, w_rng1, w_trub, w_trur, w_trut, src_g, W_evnil, W_evcons, W_set, W_setL, rolP_rol, W_par, W_par3, W_unp, bind_t, bind_r, bind_1, bind_0, c_isb, W_enu, enum_t, enum_r, W_lcNE, W_srtS, W_srtL, W_srtF, W_lzip, W_lenS, W_last, W_cl, W_sset, W_expr, W_ret, W_if, W_pass, W_brk, W_cnt, W_for, W_lc, W_lcIf, W_seq, W_rng1, W_rng2, W_cons, W_nil, seqP_nx, seqP_rt, seqP_bk, seqP_ct, retP_rt, retP_nx, onB_true, onB_false, notB_bl, onS_some, getP_some, intP_int, tupP_tup, strP_str, List.getElem?_cons_zero, List.getElem?_cons_succ, List.set_cons_zero, List.set_cons_succ, List.length_cons, List.length_nil, List.map_cons, List.map_nil, List.cons_append, List.nil_append, List.replicate_succ, List.replicate_zero, w_add, w_sub, w_mul, w_fdiv, w_mod, w_addB, w_subB, w_adds, w_addt, w_addr, w_mulr, w_mult, w_ixt, w_ixr, w_ixf, w_ixl, it0, it1, it2, it3, it4, w_lent, w_lenr, w_lenf, w_lens, w_lenl, w_abs, w_inti, w_intb, w_max, w_min, w_tupt, w_tupr, w_tupl, w_listt, w_listr, w_listMt, w_slt, w_slr, w_sls, w_app, w_sset, ite_bl, ite_nb, onO_d, onO_n, Ev.wipe, c_gt, c_lt, c_ge, c_le, c_eq, c_ne, c_eqs, c_nes, c_les, c_ins, src_s, src_t, src_r, src_f, set_set, w_pow10, room, Nat.reduceAdd, Nat.reduceLeDiff, Nat.zero_add, Int.reduceLE, Int.reduceLT, Int.reduceNeg, true_and, and_true])
      rw [ne_shown hs]
      (try simp only [W_xop, w_mk0, w_mk1, w_isx, w_fld, W_ok, W_var, W_non, W_bl, W_int, W_str, W_bin, W_neg, W_cmp, W_chn, W_and, W_or, W_not, W_iteE, W_tup, W_lst, W_lstM, W_dct0, W_dct0M, W_dct1, W_ix, W_slU, W_slL, W_slLU, W_rev, W_call, W_callk, W_blt, W_isi, W_mth, W_mtc, W_zip, zip_t, zip_r, nr_non, nr_bl, nr_int, nr_str, nr_tup, nr_rol, nr_frl, nr_dct, nr_loc, rc_index, rc_count, w_rng1, w_trub, w_trur, w_trut, src_g, W_evnil, W_evcons, W_set, W_setL, rolP_rol, W_par, W_par3, W_unp, bind_t, bind_r, bind_1, bind_0, c_isb, W_enu, enum_t, enum_r, W_lcNE, W_srtS, W_srtL, W_srtF, W_lzip, W_lenS, W_last, W_cl, W_sset, W_expr, W_ret, W_if, W_pass, W_brk, W_cnt, W_for, W_lc, W_lcIf, W_seq, W_rng1, W_rng2, W_cons, W_nil, seqP_nx, seqP_rt, seqP_bk, seqP_ct, retP_rt, retP_nx, onB_true, onB_false, notB_bl, onS_some, getP_some, intP_int, tupP_tup, strP_str, List.getElem?_cons_zero, List.getElem?_cons_succ, List.set_cons_zero, List.set_cons_succ, List.length_cons, List.length_nil, List.map_cons, List.map_nil, List.cons_append, List.nil_append, List.replicate_succ, List.replicate_zero, w_add, w_sub, w_mul, w_fdiv, w_mod, w_addB, w_subB, w_adds, w_addt, w_addr, w_mulr, w_mult, w_ixt, w_ixr, w_ixf, w_ixl, it0, it1, it2, it3, it4, w_lent, w_lenr, w_lenf, w_lens, w_lenl, w_abs, w_inti, w_intb, w_max, w_min, w_tupt, w_tupr, w_tupl, w_listt, w_listr, w_listMt, w_slt, w_slr, w_sls, w_app, w_sset, ite_bl, ite_nb, onO_d, onO_n, Ev.wipe, c_gt, c_lt, c_ge, c_le, c_eq, c_ne, c_eqs, c_nes, c_les, c_ins, src_s, src_t, src_r, src_f, set_set, w_pow10, room, Nat.reduceAdd, Nat.reduceLeDiff, Nat.zero_add, Int.reduceLE, Int.reduceLT, Int.reduceNeg, true_and, and_true])
      refine (sp_made (by omega)).mono ?_
      intro d μ2 hd
      rw [hd.1, hd.2]
      clear hd
      (try simp only [W_xop, w_mk0, w_mk1, w_isx, w_fld, W_ok, W_var, W_non, W_bl, W_int, W_str, W_bin, W_neg, W_cmp, W_chn, W_and, W_or, W_not, W_iteE, W_tup, W_lst, W_lstM, W_dct0, W_dct0M, W_dct1, W_ix, W_slU, W_slL, W_slLU, W_rev, W_call, W_callk, W_blt, W_isi, W_mth, W_mtc, W_zip, zip_t, zip_r, nr_non, nr_bl, nr_int, nr_str, nr_tup, nr_rol, nr_frl, nr_dct, nr_loc, rc_index, rc_count, w_rng1, w_trub, w_trur, w_trut, src_g, W_evnil, W_evcons, W_set, W_setL, rolP_rol, W_par, W_par3, W_unp, bind_t, bind_r, bind_1, bind_0, c_isb, W_enu, enum_t, enum_r, W_lcNE, W_srtS, W_srtL, W_srtF, W_lzip, W_lenS, W_last, W_cl, W_sset, W_expr, W_ret, W_if, W_pass, W_brk, W_cnt, W_for, W_lc, W_lcIf, W_seq, W_rng1, W_rng2, W_cons, W_nil, seqP_nx, seqP_rt, seqP_bk, seqP_ct, retP_rt, retP_nx, onB_true, onB_false, notB_bl, onS_some, getP_some, intP_int, tupP_tup, strP_str, List.getElem?_cons_zero, List.getElem?_cons_succ, List.set_cons_zero, List.set_cons_succ, List.length_cons, List.length_nil, List.map_cons, List.map_nil, List.cons_append, List.nil_append, List.replicate_succ, List.replicate_zero, w_add, w_sub, w_mul, w_fdiv, w_mod, w_addB, w_subB, w_adds, w_addt, w_addr, w_mulr, w_mult, w_ixt, w_ixr, w_ixf, w_ixl, it0, it1, it2, it3, it4, w_lent, w_lenr, w_lenf, w_lens, w_lenl, w_abs, w_inti, w_intb, w_max, w_min, w_tupt, w_tupr, w_tupl, w_listt, w_listr, w_listMt, w_slt, w_slr, w_sls, w_app, w_sset, ite_bl, ite_nb, onO_d, onO_n, Ev.wipe, c_gt, c_lt, c_ge, c_le, c_eq, c_ne, c_eqs, c_nes, c_les, c_ins, src_s, src_t, src_r, src_f, set_set, w_pow10, room, Nat.reduceAdd, Nat.reduceLeDiff, Nat.zero_add, Int.reduceLE, Int.reduceLT, Int.reduceNeg, true_and, and_true])
      refine W_for_its (fun j ρ μ' => (∃ o4 o5 o6 o7 : Option D, ρ = [some (.loc u), some x, some (.str s), some (.rol (mades x)), o4, o5, o6, o7]) ∧ μ' = μ1) ⟨⟨_, _, _, _, rfl⟩, rfl⟩ (fun j d ρ μ' hd h => ?_) (fun ρ μ' h => ?_)
      · obtain ⟨⟨o4, o5, o6, o7, rfl⟩, e2⟩ := h
        obtain rfl : μ1 = μ' := e2.symm
        have hd2 : j < 21 ∧ d = .tup [.int (j : Nat), .exo j (if j < 17 then [x] else [])] := by
          unfold enumI mades at hd
          rw [List.getElem?_mapIdx, List.getElem?_map] at hd
          by_cases hj : j < 21
          · rw [List.getElem?_range hj] at hd
            exact ⟨hj, (Option.some.inj hd).symm⟩
          · rw [List.getElem?_eq_none (by simpa using hj)] at hd
            cases hd
        obtain ⟨hj, rfl⟩ := hd2
        refine ⟨_, bind_t.trans (by rw [bind_1, bind_1, bind_0]), ?_⟩
        (try simp only [W_xop, w_mk0, w_mk1, w_isx, w_fld, W_ok, W_var, W_non, W_bl, W_int, W_str, W_bin, W_neg, W_cmp, W_chn, W_and, W_or, W_not, W_iteE, W_tup, W_lst, W_lstM, W_dct0, W_dct0M, W_dct1, W_ix, W_slU, W_slL, W_slLU, W_rev, W_call, W_callk, W_blt, W_isi, W_mth, W_mtc, W_zip, zip_t, zip_r, nr_non, nr_bl, nr_int, nr_str, nr_tup, nr_rol, nr_frl, nr_dct, nr_loc, rc_index, rc_count, w_rng1, w_trub, w_trur, w_trut, src_g, W_evnil, W_evcons, W_set, W_setL, rolP_rol, W_par, W_par3, W_unp, bind_t, bind_r, bind_1, bind_0, c_isb, W_enu, enum_t, enum_r, W_lcNE, W_srtS, W_srtL, W_srtF, W_lzip, W_lenS, W_last, W_cl, W_sset, W_expr, W_ret, W_if, W_pass, W_brk, W_cnt, W_for, W_lc, W_lcIf, W_seq, W_rng1, W_rng2, W_cons, W_nil, seqP_nx, seqP_rt, seqP_bk, seqP_ct, retP_rt, retP_nx, onB_true, onB_false, notB_bl, onS_some, getP_some, intP_int, tupP_tup, strP_str, List.getElem?_cons_zero, List.getElem?_cons_succ, List.set_cons_zero, List.set_cons_succ, List.length_cons, List.length_nil, List.map_cons, List.map_nil, List.cons_append, List.nil_append, List.replicate_succ, List.replicate_zero, w_add, w_sub, w_mul, w_fdiv, w_mod, w_addB, w_subB, w_adds, w_addt, w_addr, w_mulr, w_mult, w_ixt, w_ixr, w_ixf, w_ixl, it0, it1, it2, it3, it4, w_lent, w_lenr, w_lenf, w_lens, w_lenl, w_abs, w_inti, w_intb, w_max, w_min, w_tupt, w_tupr, w_tupl, w_listt, w_listr, w_listMt, w_slt, w_slr, w_sls, w_app, w_sset, ite_bl, ite_nb, onO_d, onO_n, Ev.wipe, c_gt, c_lt, c_ge, c_le, c_eq, c_ne, c_eqs, c_nes, c_les, c_ins, src_s, src_t, src_r, src_f, set_set, w_pow10, room, Nat.reduceAdd, Nat.reduceLeDiff, Nat.zero_add, Int.reduceLE, Int.reduceLT, Int.reduceNeg, true_and, and_true])
        refine (sp_sorts (by omega) hj).mono ?_
        intro d μ2 hd
        rw [hd.1, hd.2]
        clear hd
        (try simp only [W_xop, w_mk0, w_mk1, w_isx, w_fld, W_ok, W_var, W_non, W_bl, W_int, W_str, W_bin, W_neg, W_cmp, W_chn, W_and, W_or, W_not, W_iteE, W_tup, W_lst, W_lstM, W_dct0, W_dct0M, W_dct1, W_ix, W_slU, W_slL, W_slLU, W_rev, W_call, W_callk, W_blt, W_isi, W_mth, W_mtc, W_zip, zip_t, zip_r, nr_non, nr_bl, nr_int, nr_str, nr_tup, nr_rol, nr_frl, nr_dct, nr_loc, rc_index, rc_count, w_rng1, w_trub, w_trur, w_trut, src_g, W_evnil, W_evcons, W_set, W_setL, rolP_rol, W_par, W_par3, W_unp, bind_t, bind_r, bind_1, bind_0, c_isb, W_enu, enum_t, enum_r, W_lcNE, W_srtS, W_srtL, W_srtF, W_lzip, W_lenS, W_last, W_cl, W_sset, W_expr, W_ret, W_if, W_pass, W_brk, W_cnt, W_for, W_lc, W_lcIf, W_seq, W_rng1, W_rng2, W_cons, W_nil, seqP_nx, seqP_rt, seqP_bk, seqP_ct, retP_rt, retP_nx, onB_true, onB_false, notB_bl, onS_some, getP_some, intP_int, tupP_tup, strP_str, List.getElem?_cons_zero, List.getElem?_cons_succ, List.set_cons_zero, List.set_cons_succ, List.length_cons, List.length_nil, List.map_cons, List.map_nil, List.cons_append, List.nil_append, List.replicate_succ, List.replicate_zero, w_add, w_sub, w_mul, w_fdiv, w_mod, w_addB, w_subB, w_adds, w_addt, w_addr, w_mulr, w_mult, w_ixt, w_ixr, w_ixf, w_ixl, it0, it1, it2, it3, it4, w_lent, w_lenr, w_lenf, w_lens, w_lenl, w_abs, w_inti, w_intb, w_max, w_min, w_tupt, w_tupr, w_tupl, w_listt, w_listr, w_listMt, w_slt, w_slr, w_sls, w_app, w_sset, ite_bl, ite_nb, onO_d, onO_n, Ev.wipe, c_gt, c_lt, c_ge, c_le, c_eq, c_ne, c_eqs, c_nes, c_les, c_ins, src_s, src_t, src_r, src_f, set_set, w_pow10, room, Nat.reduceAdd, Nat.reduceLeDiff, Nat.zero_add, Int.reduceLE, Int.reduceLT, Int.reduceNeg, true_and, and_true])
        rw [rng_0 (by decide) (by decide)]
        (try simp only [W_xop, w_mk0, w_mk1, w_isx, w_fld, W_ok, W_var, W_non, W_bl, W_int, W_str, W_bin, W_neg, W_cmp, W_chn, W_and, W_or, W_not, W_iteE, W_tup, W_lst, W_lstM, W_dct0, W_dct0M, W_dct1, W_ix, W_slU, W_slL, W_slLU, W_rev, W_call, W_callk, W_blt, W_isi, W_mth, W_mtc, W_zip, zip_t, zip_r, nr_non, nr_bl, nr_int, nr_str, nr_tup, nr_rol, nr_frl, nr_dct, nr_loc, rc_index, rc_count, w_rng1, w_trub, w_trur, w_trut, src_g, W_evnil, W_evcons, W_set, W_setL, rolP_rol, W_par, W_par3, W_unp, bind_t, bind_r, bind_1, bind_0, c_isb, W_enu, enum_t, enum_r, W_lcNE, W_srtS, W_srtL, W_srtF, W_lzip, W_lenS, W_last, W_cl, W_sset, W_expr, W_ret, W_if, W_pass, W_brk, W_cnt, W_for, W_lc, W_lcIf, W_seq, W_rng1, W_rng2, W_cons, W_nil, seqP_nx, seqP_rt, seqP_bk, seqP_ct, retP_rt, retP_nx, onB_true, onB_false, notB_bl, onS_some, getP_some, intP_int, tupP_tup, strP_str, List.getElem?_cons_zero, List.getElem?_cons_succ, List.set_cons_zero, List.set_cons_succ, List.length_cons, List.length_nil, List.map_cons, List.map_nil, List.cons_append, List.nil_append, List.replicate_succ, List.replicate_zero, w_add, w_sub, w_mul, w_fdiv, w_mod, w_addB, w_subB, w_adds, w_addt, w_addr, w_mulr, w_mult, w_ixt, w_ixr, w_ixf, w_ixl, it0, it1, it2, it3, it4, w_lent, w_lenr, w_lenf, w_lens, w_lenl, w_abs, w_inti, w_intb, w_max, w_min, w_tupt, w_tupr, w_tupl, w_listt, w_listr, w_listMt, w_slt, w_slr, w_sls, w_app, w_sset, ite_bl, ite_nb, onO_d, onO_n, Ev.wipe, c_gt, c_lt, c_ge, c_le, c_eq, c_ne, c_eqs, c_nes, c_les, c_ins, src_s, src_t, src_r, src_f, set_set, w_pow10, room, Nat.reduceAdd, Nat.reduceLeDiff, Nat.zero_add, Int.reduceLE, Int.reduceLT, Int.reduceNeg, true_and, and_true])
        refine W_lc_rng (fun i acc μ' => acc = ((List.range i).map fun q => decide (q = j)).map .bl ∧ μ' = μ1) ⟨rfl, rfl⟩ (fun i acc μ' hi h => ?_) (fun acc μ' h => ?_)
        · obtain ⟨rfl, e2⟩ := h
          obtain rfl : μ1 = μ' := e2.symm
          have hi : i < 21 := hi
          refine ⟨_, rfl, ?_⟩
          (try simp only [W_xop, w_mk0, w_mk1, w_isx, w_fld, W_ok, W_var, W_non, W_bl, W_int, W_str, W_bin, W_neg, W_cmp, W_chn, W_and, W_or, W_not, W_iteE, W_tup, W_lst, W_lstM, W_dct0, W_dct0M, W_dct1, W_ix, W_slU, W_slL, W_slLU, W_rev, W_call, W_callk, W_blt, W_isi, W_mth, W_mtc, W_zip, zip_t, zip_r, nr_non, nr_bl, nr_int, nr_str, nr_tup, nr_rol, nr_frl, nr_dct, nr_loc, rc_index, rc_count, w_rng1, w_trub, w_trur, w_trut, src_g, W_evnil, W_evcons, W_set, W_setL, rolP_rol, W_par, W_par3, W_unp, bind_t, bind_r, bind_1, bind_0, c_isb, W_enu, enum_t, enum_r, W_lcNE, W_srtS, W_srtL, W_srtF, W_lzip, W_lenS, W_last, W_cl, W_sset, W_expr, W_ret, W_if, W_pass, W_brk, W_cnt, W_for, W_lc, W_lcIf, W_seq, W_rng1, W_rng2, W_cons, W_nil, seqP_nx, seqP_rt, seqP_bk, seqP_ct, retP_rt, retP_nx, onB_true, onB_false, notB_bl, onS_some, getP_some, intP_int, tupP_tup, strP_str, List.getElem?_cons_zero, List.getElem?_cons_succ, List.set_cons_zero, List.set_cons_succ, List.length_cons, List.length_nil, List.map_cons, List.map_nil, List.cons_append, List.nil_append, List.replicate_succ, List.replicate_zero, w_add, w_sub, w_mul, w_fdiv, w_mod, w_addB, w_subB, w_adds, w_addt, w_addr, w_mulr, w_mult, w_ixt, w_ixr, w_ixf, w_ixl, it0, it1, it2, it3, it4, w_lent, w_lenr, w_lenf, w_lens, w_lenl, w_abs, w_inti, w_intb, w_max, w_min, w_tupt, w_tupr, w_tupl, w_listt, w_listr, w_listMt, w_slt, w_slr, w_sls, w_app, w_sset, ite_bl, ite_nb, onO_d, onO_n, Ev.wipe, c_gt, c_lt, c_ge, c_le, c_eq, c_ne, c_eqs, c_nes, c_les, c_ins, src_s, src_t, src_r, src_f, set_set, w_pow10, room, Nat.reduceAdd, Nat.reduceLeDiff, Nat.zero_add, Int.reduceLE, Int.reduceLT, Int.reduceNeg, true_and, and_true])
          refine ⟨by simp only [List.length_map, List.length_range]; omega, ?_⟩
          rw [List.range_succ]
          simp
          try omega
        · obtain ⟨rfl, e2⟩ := h
          obtain rfl : μ1 = μ' := e2.symm
          rw [show Int.toNat 21 = 21 from rfl]
          rw [ne_bls]
          (try simp only [W_xop, w_mk0, w_mk1, w_isx, w_fld, W_ok, W_var, W_non, W_bl, W_int, W_str, W_bin, W_neg, W_cmp, W_chn, W_and, W_or, W_not, W_iteE, W_tup, W_lst, W_lstM, W_dct0, W_dct0M, W_dct1, W_ix, W_slU, W_slL, W_slLU, W_rev, W_call, W_callk, W_blt, W_isi, W_mth, W_mtc, W_zip, zip_t, zip_r, nr_non, nr_bl, nr_int, nr_str, nr_tup, nr_rol, nr_frl, nr_dct, nr_loc, rc_index, rc_count, w_rng1, w_trub, w_trur, w_trut, src_g, W_evnil, W_evcons, W_set, W_setL, rolP_rol, W_par, W_par3, W_unp, bind_t, bind_r, bind_1, bind_0, c_isb, W_enu, enum_t, enum_r, W_lcNE, W_srtS, W_srtL, W_srtF, W_lzip, W_lenS, W_last, W_cl, W_sset, W_expr, W_ret, W_if, W_pass, W_brk, W_cnt, W_for, W_lc, W_lcIf, W_seq, W_rng1, W_rng2, W_cons, W_nil, seqP_nx, seqP_rt, seqP_bk, seqP_ct, retP_rt, retP_nx, onB_true, onB_false, notB_bl, onS_some, getP_some, intP_int, tupP_tup, strP_str, List.getElem?_cons_zero, List.getElem?_cons_succ, List.set_cons_zero, List.set_cons_succ, List.length_cons, List.length_nil, List.map_cons, List.map_nil, List.cons_append, List.nil_append, List.replicate_succ, List.replicate_zero, w_add, w_sub, w_mul, w_fdiv, w_mod, w_addB, w_subB, w_adds, w_addt, w_addr, w_mulr, w_mult, w_ixt, w_ixr, w_ixf, w_ixl, it0, it1, it2, it3, it4, w_lent, w_lenr, w_lenf, w_lens, w_lenl, w_abs, w_inti, w_intb, w_max, w_min, w_tupt, w_tupr, w_tupl, w_listt, w_listr, w_listMt, w_slt, w_slr, w_sls, w_app, w_sset, ite_bl, ite_nb, onO_d, onO_n, Ev.wipe, c_gt, c_lt, c_ge, c_le, c_eq, c_ne, c_eqs, c_nes, c_les, c_ins, src_s, src_t, src_r, src_f, set_set, w_pow10, room, Nat.reduceAdd, Nat.reduceLeDiff, Nat.zero_add, Int.reduceLE, Int.reduceLT, Int.reduceNeg, true_and, and_true])
          have q1 : subX j 21 = true := by simp [subX]
          have q2 : subX j 22 = true := by simp [subX]
          rw [q1, q2]
          refine ⟨hj, ?_⟩
          simp only [Bool.not_true]
          (try simp only [W_xop, w_mk0, w_mk1, w_isx, w_fld, W_ok, W_var, W_non, W_bl, W_int, W_str, W_bin, W_neg, W_cmp, W_chn, W_and, W_or, W_not, W_iteE, W_tup, W_lst, W_lstM, W_dct0, W_dct0M, W_dct1, W_ix, W_slU, W_slL, W_slLU, W_rev, W_call, W_callk, W_blt, W_isi, W_mth, W_mtc, W_zip, zip_t, zip_r, nr_non, nr_bl, nr_int, nr_str, nr_tup, nr_rol, nr_frl, nr_dct, nr_loc, rc_index, rc_count, w_rng1, w_trub, w_trur, w_trut, src_g, W_evnil, W_evcons, W_set, W_setL, rolP_rol, W_par, W_par3, W_unp, bind_t, bind_r, bind_1, bind_0, c_isb, W_enu, enum_t, enum_r, W_lcNE, W_srtS, W_srtL, W_srtF, W_lzip, W_lenS, W_last, W_cl, W_sset, W_expr, W_ret, W_if, W_pass, W_brk, W_cnt, W_for, W_lc, W_lcIf, W_seq, W_rng1, W_rng2, W_cons, W_nil, seqP_nx, seqP_rt, seqP_bk, seqP_ct, retP_rt, retP_nx, onB_true, onB_false, notB_bl, onS_some, getP_some, intP_int, tupP_tup, strP_str, List.getElem?_cons_zero, List.getElem?_cons_succ, List.set_cons_zero, List.set_cons_succ, List.length_cons, List.length_nil, List.map_cons, List.map_nil, List.cons_append, List.nil_append, List.replicate_succ, List.replicate_zero, w_add, w_sub, w_mul, w_fdiv, w_mod, w_addB, w_subB, w_adds, w_addt, w_addr, w_mulr, w_mult, w_ixt, w_ixr, w_ixf, w_ixl, it0, it1, it2, it3, it4, w_lent, w_lenr, w_lenf, w_lens, w_lenl, w_abs, w_inti, w_intb, w_max, w_min, w_tupt, w_tupr, w_tupl, w_listt, w_listr, w_listMt, w_slt, w_slr, w_sls, w_app, w_sset, ite_bl, ite_nb, onO_d, onO_n, Ev.wipe, c_gt, c_lt, c_ge, c_le, c_eq, c_ne, c_eqs, c_nes, c_les, c_ins, src_s, src_t, src_r, src_f, set_set, w_pow10, room, Nat.reduceAdd, Nat.reduceLeDiff, Nat.zero_add, Int.reduceLE, Int.reduceLT, Int.reduceNeg, true_and, and_true])
          refine ⟨hj, ?_⟩
          try simp only [Bool.not_true]
          (try simp only [W_xop, w_mk0, w_mk1, w_isx, w_fld, W_ok, W_var, W_non, W_bl, W_int, W_str, W_bin, W_neg, W_cmp, W_chn, W_and, W_or, W_not, W_iteE, W_tup, W_lst, W_lstM, W_dct0, W_dct0M, W_dct1, W_ix, W_slU, W_slL, W_slLU, W_rev, W_call, W_callk, W_blt, W_isi, W_mth, W_mtc, W_zip, zip_t, zip_r, nr_non, nr_bl, nr_int, nr_str, nr_tup, nr_rol, nr_frl, nr_dct, nr_loc, rc_index, rc_count, w_rng1, w_trub, w_trur, w_trut, src_g, W_evnil, W_evcons, W_set, W_setL, rolP_rol, W_par, W_par3, W_unp, bind_t, bind_r, bind_1, bind_0, c_isb, W_enu, enum_t, enum_r, W_lcNE, W_srtS, W_srtL, W_srtF, W_lzip, W_lenS, W_last, W_cl, W_sset, W_expr, W_ret, W_if, W_pass, W_brk, W_cnt, W_for, W_lc, W_lcIf, W_seq, W_rng1, W_rng2, W_cons, W_nil, seqP_nx, seqP_rt, seqP_bk, seqP_ct, retP_rt, retP_nx, onB_true, onB_false, notB_bl, onS_some, getP_some, intP_int, tupP_tup, strP_str, List.getElem?_cons_zero, List.getElem?_cons_succ, List.set_cons_zero, List.set_cons_succ, List.length_cons, List.length_nil, List.map_cons, List.map_nil, List.cons_append, List.nil_append, List.replicate_succ, List.replicate_zero, w_add, w_sub, w_mul, w_fdiv, w_mod, w_addB, w_subB, w_adds, w_addt, w_addr, w_mulr, w_mult, w_ixt, w_ixr, w_ixf, w_ixl, it0, it1, it2, it3, it4, w_lent, w_lenr, w_lenf, w_lens, w_lenl, w_abs, w_inti, w_intb, w_max, w_min, w_tupt, w_tupr, w_tupl, w_listt, w_listr, w_listMt, w_slt, w_slr, w_sls, w_app, w_sset, ite_bl, ite_nb, onO_d, onO_n, Ev.wipe, c_gt, c_lt, c_ge, c_le, c_eq, c_ne, c_eqs, c_nes, c_les, c_ins, src_s, src_t, src_r, src_f, set_set, w_pow10, room, Nat.reduceAdd, Nat.reduceLeDiff, Nat.zero_add, Int.reduceLE, Int.reduceLT, Int.reduceNeg, true_and, and_true])
          rw [nextP_nx]
          exact ⟨⟨_, _, _, _, rfl⟩, rfl⟩
      · obtain ⟨⟨o4, o5, o6, o7, rfl⟩, e2⟩ := h
        obtain rfl : μ1 = μ' := e2.symm
        (try simp only [W_xop, w_mk0, w_mk1, w_isx, w_fld, W_ok, W_var, W_non, W_bl, W_int, W_str, W_bin, W_neg, W_cmp, W_chn, W_and, W_or, W_not, W_iteE, W_tup, W_lst, W_lstM, W_dct0, W_dct0M, W_dct1, W_ix, W_slU, W_slL, W_slLU, W_rev, W_call, W_callk, W_blt, W_isi, W_mth, W_mtc, W_zip, zip_t, zip_r, nr_non, nr_bl, nr_int, nr_str, nr_tup, nr_rol, nr_frl, nr_dct, nr_loc, rc_index, rc_count, w_rng1, w_trub, w_trur, w_trut, src_g, W_evnil, W_evcons, W_set, W_setL, rolP_rol, W_par, W_par3, W_unp, bind_t, bind_r, bind_1, bind_0, c_isb, W_enu, enum_t, enum_r, W_lcNE, W_srtS, W_srtL, W_srtF, W_lzip, W_lenS, W_last, W_cl, W_sset, W_expr, W_ret, W_if, W_pass, W_brk, W_cnt, W_for, W_lc, W_lcIf, W_seq, W_rng1, W_rng2, W_cons, W_nil, seqP_nx, seqP_rt, seqP_bk, seqP_ct, retP_rt, retP_nx, onB_true, onB_false, notB_bl, onS_some, getP_some, intP_int, tupP_tup, strP_str, List.getElem?_cons_zero, List.getElem?_cons_succ, List.set_cons_zero, List.set_cons_succ, List.length_cons, List.length_nil, List.map_cons, List.map_nil, List.cons_append, List.nil_append, List.replicate_succ, List.replicate_zero, w_add, w_sub, w_mul, w_fdiv, w_mod, w_addB, w_subB, w_adds, w_addt, w_addr, w_mulr, w_mult, w_ixt, w_ixr, w_ixf, w_ixl, it0, it1, it2, it3, it4, w_lent, w_lenr, w_lenf, w_lens, w_lenl, w_abs, w_inti, w_intb, w_max, w_min, w_tupt, w_tupr, w_tupl, w_listt, w_listr, w_listMt, w_slt, w_slr, w_sls, w_app, w_sset, ite_bl, ite_nb, onO_d, onO_n, Ev.wipe, c_gt, c_lt, c_ge, c_le, c_eq, c_ne, c_eqs, c_nes, c_les, c_ins, src_s, src_t, src_r, src_f, set_set, w_pow10, room, Nat.reduceAdd, Nat.reduceLeDiff, Nat.zero_add, Int.reduceLE, Int.reduceLT, Int.reduceNeg, true_and, and_true])
        refine (sp_kept (fun j h => mades_at h) (by omega)).mono ?_
        intro d μ2 hd
        rw [hd.1, hd.2]
        clear hd
        have hs2' : ∀ μ, shownD μ (D.rol [x, x, x, x, x, x, x, x, x, x, x, x, x, x, x, x, x]) = some s2 := hs2
        rw [ne_shown hs2]
        (try simp only [W_xop, w_mk0, w_mk1, w_isx, w_fld, W_ok, W_var, W_non, W_bl, W_int, W_str, W_bin, W_neg, W_cmp, W_chn, W_and, W_or, W_not, W_iteE, W_tup, W_lst, W_lstM, W_dct0, W_dct0M, W_dct1, W_ix, W_slU, W_slL, W_slLU, W_rev, W_call, W_callk, W_blt, W_isi, W_mth, W_mtc, W_zip, zip_t, zip_r, nr_non, nr_bl, nr_int, nr_str, nr_tup, nr_rol, nr_frl, nr_dct, nr_loc, rc_index, rc_count, w_rng1, w_trub, w_trur, w_trut, src_g, W_evnil, W_evcons, W_set, W_setL, rolP_rol, W_par, W_par3, W_unp, bind_t, bind_r, bind_1, bind_0, c_isb, W_enu, enum_t, enum_r, W_lcNE, W_srtS, W_srtL, W_srtF, W_lzip, W_lenS, W_last, W_cl, W_sset, W_expr, W_ret, W_if, W_pass, W_brk, W_cnt, W_for, W_lc, W_lcIf, W_seq, W_rng1, W_rng2, W_cons, W_nil, seqP_nx, seqP_rt, seqP_bk, seqP_ct, retP_rt, retP_nx, onB_true, onB_false, notB_bl, onS_some, getP_some, intP_int, tupP_tup, strP_str, List.getElem?_cons_zero, List.getElem?_cons_succ, List.set_cons_zero, List.set_cons_succ, List.length_cons, List.length_nil, List.map_cons, List.map_nil, List.cons_append, List.nil_append, List.replicate_succ, List.replicate_zero, w_add, w_sub, w_mul, w_fdiv, w_mod, w_addB, w_subB, w_adds, w_addt, w_addr, w_mulr, w_mult, w_ixt, w_ixr, w_ixf, w_ixl, it0, it1, it2, it3, it4, w_lent, w_lenr, w_lenf, w_lens, w_lenl, w_abs, w_inti, w_intb, w_max, w_min, w_tupt, w_tupr, w_tupl, w_listt, w_listr, w_listMt, w_slt, w_slr, w_sls, w_app, w_sset, ite_bl, ite_nb, onO_d, onO_n, Ev.wipe, c_gt, c_lt, c_ge, c_le, c_eq, c_ne, c_eqs, c_nes, c_les, c_ins, src_s, src_t, src_r, src_f, set_set, w_pow10, room, Nat.reduceAdd, Nat.reduceLeDiff, Nat.zero_add, Int.reduceLE, Int.reduceLT, Int.reduceNeg, true_and, and_true])
        have e17 : D.rol (List.replicate (Int.toNat 17) [x]).flatten = .rol (List.replicate 17 x) := rfl
        refine ⟨by decide, ?_⟩
        rw [e17, ne_shown hs2]
        (try simp only [W_xop, w_mk0, w_mk1, w_isx, w_fld, W_ok, W_var, W_non, W_bl, W_int, W_str, W_bin, W_neg, W_cmp, W_chn, W_and, W_or, W_not, W_iteE, W_tup, W_lst, W_lstM, W_dct0, W_dct0M, W_dct1, W_ix, W_slU, W_slL, W_slLU, W_rev, W_call, W_callk, W_blt, W_isi, W_mth, W_mtc, W_zip, zip_t, zip_r, nr_non, nr_bl, nr_int, nr_str, nr_tup, nr_rol, nr_frl, nr_dct, nr_loc, rc_index, rc_count, w_rng1, w_trub, w_trur, w_trut, src_g, W_evnil, W_evcons, W_set, W_setL, rolP_rol, W_par, W_par3, W_unp, bind_t, bind_r, bind_1, bind_0, c_isb, W_enu, enum_t, enum_r, W_lcNE, W_srtS, W_srtL, W_srtF, W_lzip, W_lenS, W_last, W_cl, W_sset, W_expr, W_ret, W_if, W_pass, W_brk, W_cnt, W_for, W_lc, W_lcIf, W_seq, W_rng1, W_rng2, W_cons, W_nil, seqP_nx, seqP_rt, seqP_bk, seqP_ct, retP_rt, retP_nx, onB_true, onB_false, notB_bl, onS_some, getP_some, intP_int, tupP_tup, strP_str, List.getElem?_cons_zero, List.getElem?_cons_succ, List.set_cons_zero, List.set_cons_succ, List.length_cons, List.length_nil, List.map_cons, List.map_nil, List.cons_append, List.nil_append, List.replicate_succ, List.replicate_zero, w_add, w_sub, w_mul, w_fdiv, w_mod, w_addB, w_subB, w_adds, w_addt, w_addr, w_mulr, w_mult, w_ixt, w_ixr, w_ixf, w_ixl, it0, it1, it2, it3, it4, w_lent, w_lenr, w_lenf, w_lens, w_lenl, w_abs, w_inti, w_intb, w_max, w_min, w_tupt, w_tupr, w_tupl, w_listt, w_listr, w_listMt, w_slt, w_slr, w_sls, w_app, w_sset, ite_bl, ite_nb, onO_d, onO_n, Ev.wipe, c_gt, c_lt, c_ge, c_le, c_eq, c_ne, c_eqs, c_nes, c_les, c_ins, src_s, src_t, src_r, src_f, set_set, w_pow10, room, Nat.reduceAdd, Nat.reduceLeDiff, Nat.zero_add, Int.reduceLE, Int.reduceLT, Int.reduceNeg, true_and, and_true])
        refine ⟨fun z => absurd trivial z, fun _ => ?_⟩
        refine (sp_named (by omega)).mono ?_
        intro d μ2 hd
        rw [hd.1, hd.2]
        clear hd
        refine (sp_kept (fun j h => named_at h) (by omega)).mono ?_
        intro d μ2 hd
        rw [hd.1, hd.2]
        clear hd
        rw [ne_shown hs2]
        refine ⟨by decide, ?_⟩
        rw [ne_shown hs2']
        (try simp only [W_xop, w_mk0, w_mk1, w_isx, w_fld, W_ok, W_var, W_non, W_bl, W_int, W_str, W_bin, W_neg, W_cmp, W_chn, W_and, W_or, W_not, W_iteE, W_tup, W_lst, W_lstM, W_dct0, W_dct0M, W_dct1, W_ix, W_slU, W_slL, W_slLU, W_rev, W_call, W_callk, W_blt, W_isi, W_mth, W_mtc, W_zip, zip_t, zip_r, nr_non, nr_bl, nr_int, nr_str, nr_tup, nr_rol, nr_frl, nr_dct, nr_loc, rc_index, rc_count, w_rng1, w_trub, w_trur, w_trut, src_g, W_evnil, W_evcons, W_set, W_setL, rolP_rol, W_par, W_par3, W_unp, bind_t, bind_r, bind_1, bind_0, c_isb, W_enu, enum_t, enum_r, W_lcNE, W_srtS, W_srtL, W_srtF, W_lzip, W_lenS, W_last, W_cl, W_sset, W_expr, W_ret, W_if, W_pass, W_brk, W_cnt, W_for, W_lc, W_lcIf, W_seq, W_rng1, W_rng2, W_cons, W_nil, seqP_nx, seqP_rt, seqP_bk, seqP_ct, retP_rt, retP_nx, onB_true, onB_false, notB_bl, onS_some, getP_some, intP_int, tupP_tup, strP_str, List.getElem?_cons_zero, List.getElem?_cons_succ, List.set_cons_zero, List.set_cons_succ, List.length_cons, List.length_nil, List.map_cons, List.map_nil, List.cons_append, List.nil_append, List.replicate_succ, List.replicate_zero, w_add, w_sub, w_mul, w_fdiv, w_mod, w_addB, w_subB, w_adds, w_addt, w_addr, w_mulr, w_mult, w_ixt, w_ixr, w_ixf, w_ixl, it0, it1, it2, it3, it4, w_lent, w_lenr, w_lenf, w_lens, w_lenl, w_abs, w_inti, w_intb, w_max, w_min, w_tupt, w_tupr, w_tupl, w_listt, w_listr, w_listMt, w_slt, w_slr, w_sls, w_app, w_sset, ite_bl, ite_nb, onO_d, onO_n, Ev.wipe, c_gt, c_lt, c_ge, c_le, c_eq, c_ne, c_eqs, c_nes, c_les, c_ins, src_s, src_t, src_r, src_f, set_set, w_pow10, room, Nat.reduceAdd, Nat.reduceLeDiff, Nat.zero_add, Int.reduceLE, Int.reduceLT, Int.reduceNeg, true_and, and_true])
        refine ⟨fun z => absurd trivial z, fun _ => ?_⟩
        rw [ne_shown hs]
        (try simp only [W_xop, w_mk0, w_mk1, w_isx, w_fld, W_ok, W_var, W_non, W_bl, W_int, W_str, W_bin, W_neg, W_cmp, W_chn, W_and, W_or, W_not, W_iteE, W_tup, W_lst, W_lstM, W_dct0, W_dct0M, W_dct1, W_ix, W_slU, W_slL, W_slLU, W_rev, W_call, W_callk, W_blt, W_isi, W_mth, W_mtc, W_zip, zip_t, zip_r, nr_non, nr_bl, nr_int, nr_str, nr_tup, nr_rol, nr_frl, nr_dct, nr_loc, rc_index, rc_count, w_rng1, w_trub, w_trur, w_trut, src_g, W_evnil, W_evcons, W_set, W_setL, rolP_rol, W_par, W_par3, W_unp, bind_t, bind_r, bind_1, bind_0, c_isb, W_enu, enum_t, enum_r, W_lcNE, W_srtS, W_srtL, W_srtF, W_lzip, W_lenS, W_last, W_cl, W_sset, W_expr, W_ret, W_if, W_pass, W_brk, W_cnt, W_for, W_lc, W_lcIf, W_seq, W_rng1, W_rng2, W_cons, W_nil, seqP_nx, seqP_rt, seqP_bk, seqP_ct, retP_rt, retP_nx, onB_true, onB_false, notB_bl, onS_some, getP_some, intP_int, tupP_tup, strP_str, List.getElem?_cons_zero, List.getElem?_cons_succ, List.set_cons_zero, List.set_cons_succ, List.length_cons, List.length_nil, List.map_cons, List.map_nil, List.cons_append, List.nil_append, List.replicate_succ, List.replicate_zero, w_add, w_sub, w_mul, w_fdiv, w_mod, w_addB, w_subB, w_adds, w_addt, w_addr, w_mulr, w_mult, w_ixt, w_ixr, w_ixf, w_ixl, it0, it1, it2, it3, it4, w_lent, w_lenr, w_lenf, w_lens, w_lenl, w_abs, w_inti, w_intb, w_max, w_min, w_tupt, w_tupr, w_tupl, w_listt, w_listr, w_listMt, w_slt, w_slr, w_sls, w_app, w_sset, ite_bl, ite_nb, onO_d, onO_n, Ev.wipe, c_gt, c_lt, c_ge, c_le, c_eq, c_ne, c_eqs, c_nes, c_les, c_ins, src_s, src_t, src_r, src_f, set_set, w_pow10, room, Nat.reduceAdd, Nat.reduceLeDiff, Nat.zero_add, Int.reduceLE, Int.reduceLT, Int.reduceNeg, true_and, and_true])
        refine ⟨fun z => absurd trivial z, fun _ => ?_⟩
        try rw [nextP_nx]
        exact ⟨⟨_, _, _, _, _, _, _, rfl⟩, rfl⟩
    · obtain ⟨⟨o1, o2, o3, o4, o5, o6, o7, rfl⟩, e2⟩ := h
      obtain rfl : μ1 = μ' := e2.symm
      (try simp only [W_xop, w_mk0, w_mk1, w_isx, w_fld, W_ok, W_var, W_non, W_bl, W_int, W_str, W_bin, W_neg, W_cmp, W_chn, W_and, W_or, W_not, W_iteE, W_tup, W_lst, W_lstM, W_dct0, W_dct0M, W_dct1, W_ix, W_slU, W_slL, W_slLU, W_rev, W_call, W_callk, W_blt, W_isi, W_mth, W_mtc, W_zip, zip_t, zip_r, nr_non, nr_bl, nr_int, nr_str, nr_tup, nr_rol, nr_frl, nr_dct, nr_loc, rc_index, rc_count, w_rng1, w_trub, w_trur, w_trut, src_g, W_evnil, W_evcons, W_set, W_setL, rolP_rol, W_par, W_par3, W_unp, bind_t, bind_r, bind_1, bind_0, c_isb, W_enu, enum_t, enum_r, W_lcNE, W_srtS, W_srtL, W_srtF, W_lzip, W_lenS, W_last, W_cl, W_sset, W_expr, W_ret, W_if, W_pass, W_brk, W_cnt, W_for, W_lc, W_lcIf, W_seq, W_rng1, W_rng2, W_cons, W_nil, seqP_nx, seqP_rt, seqP_bk, seqP_ct, retP_rt, retP_nx, onB_true, onB_false, notB_bl, onS_some, getP_some, intP_int, tupP_tup, strP_str, List.getElem?_cons_zero, List.getElem?_cons_succ, List.set_cons_zero, List.set_cons_succ, List.length_cons, List.length_nil, List.map_cons, List.map_nil, List.cons_append, List.nil_append, List.replicate_succ, List.replicate_zero, w_add, w_sub, w_mul, w_fdiv, w_mod, w_addB, w_subB, w_adds, w_addt, w_addr, w_mulr, w_mult, w_ixt, w_ixr, w_ixf, w_ixl, it0, it1, it2, it3, it4, w_lent, w_lenr, w_lenf, w_lens, w_lenl, w_abs, w_inti, w_intb, w_max, w_min, w_tupt, w_tupr, w_tupl, w_listt, w_listr, w_listMt, w_slt, w_slr, w_sls, w_app, w_sset, ite_bl, ite_nb, onO_d, onO_n, Ev.wipe, c_gt, c_lt, c_ge, c_le, c_eq, c_ne, c_eqs, c_nes, c_les, c_ins, src_s, src_t, src_r, src_f, set_set, w_pow10, room, Nat.reduceAdd, Nat.reduceLeDiff, Nat.zero_add, Int.reduceLE, Int.reduceLT, Int.reduceNeg, true_and, and_true])
      exact ⟨S, U.up (by simp only [show Int.toNat 6 = 6 from rfl]; omega)⟩
end
/-- the law's call -/
theorem law04 (ns : List Int) (h : ns.length ≤ 63) : ∃ μ', run fnsL kwL 200 139 [.frl (ns.map .int)] [] = .ok (.bl true) μ' := by
  have : W (run fnsL kwL 200 139 [.frl (ns.map .int)] []) fun d _ => d = .bl true := by
    rw [r_law_14]
    refine W_fn rfl rfl ?_
    simp only [f_law_14, enter]
    (try simp only [W_xop, w_mk0, w_mk1, w_isx, w_fld, W_ok, W_var, W_non, W_bl, W_int, W_str, W_bin, W_neg, W_cmp, W_chn, W_and, W_or, W_not, W_iteE, W_tup, W_lst, W_lstM, W_dct0, W_dct0M, W_dct1, W_ix, W_slU, W_slL, W_slLU, W_rev, W_call, W_callk, W_blt, W_isi, W_mth, W_mtc, W_zip, zip_t, zip_r, nr_non, nr_bl, nr_int, nr_str, nr_tup, nr_rol, nr_frl, nr_dct, nr_loc, rc_index, rc_count, w_rng1, w_trub, w_trur, w_trut, src_g, W_evnil, W_evcons, W_set, W_setL, rolP_rol, W_par, W_par3, W_unp, bind_t, bind_r, bind_1, bind_0, c_isb, W_enu, enum_t, enum_r, W_lcNE, W_srtS, W_srtL, W_srtF, W_lzip, W_lenS, W_last, W_cl, W_sset, W_expr, W_ret, W_if, W_pass, W_brk, W_cnt, W_for, W_lc, W_lcIf, W_seq, W_rng1, W_rng2, W_cons, W_nil, seqP_nx, seqP_rt, seqP_bk, seqP_ct, retP_rt, retP_nx, onB_true, onB_false, notB_bl, onS_some, getP_some, intP_int, tupP_tup, strP_str, List.getElem?_cons_zero, List.getElem?_cons_succ, List.set_cons_zero, List.set_cons_succ, List.length_cons, List.length_nil, List.map_cons, List.map_nil, List.cons_append, List.nil_append, List.replicate_succ, List.replicate_zero, w_add, w_sub, w_mul, w_fdiv, w_mod, w_addB, w_subB, w_adds, w_addt, w_addr, w_mulr, w_mult, w_ixt, w_ixr, w_ixf, w_ixl, it0, it1, it2, it3, it4, w_lent, w_lenr, w_lenf, w_lens, w_lenl, w_abs, w_inti, w_intb, w_max, w_min, w_tupt, w_tupr, w_tupl, w_listt, w_listr, w_listMt, w_slt, w_slr, w_sls, w_app, w_sset, ite_bl, ite_nb, onO_d, onO_n, Ev.wipe, c_gt, c_lt, c_ge, c_le, c_eq, c_ne, c_eqs, c_nes, c_les, c_ins, src_s, src_t, src_r, src_f, set_set, w_pow10, room, Nat.reduceAdd, Nat.reduceLeDiff, Nat.zero_add, Int.reduceLE, Int.reduceLT, Int.reduceNeg, true_and, and_true])
    obtain ⟨j, hj, j1, j3⟩ : ∃ j : Int, (if (if ((ns.map D.int).length : Int) < 3 then ((ns.map D.int).length : Int) else 3) > 1 then if ((ns.map D.int).length : Int) < 3 then ((ns.map D.int).length : Int) else 3 else 1) = j ∧ 1 ≤ j ∧ j ≤ 3 := ⟨_, rfl, by split <;> omega, by split <;> (try split) <;> omega⟩
    rw [hj, rng_0 (by omega) (by omega)]
    (try simp only [W_xop, w_mk0, w_mk1, w_isx, w_fld, W_ok, W_var, W_non, W_bl, W_int, W_str, W_bin, W_neg, W_cmp, W_chn, W_and, W_or, W_not, W_iteE, W_tup, W_lst, W_lstM, W_dct0, W_dct0M, W_dct1, W_ix, W_slU, W_slL, W_slLU, W_rev, W_call, W_callk, W_blt, W_isi, W_mth, W_mtc, W_zip, zip_t, zip_r, nr_non, nr_bl, nr_int, nr_str, nr_tup, nr_rol, nr_frl, nr_dct, nr_loc, rc_index, rc_count, w_rng1, w_trub, w_trur, w_trut, src_g, W_evnil, W_evcons, W_set, W_setL, rolP_rol, W_par, W_par3, W_unp, bind_t, bind_r, bind_1, bind_0, c_isb, W_enu, enum_t, enum_r, W_lcNE, W_srtS, W_srtL, W_srtF, W_lzip, W_lenS, W_last, W_cl, W_sset, W_expr, W_ret, W_if, W_pass, W_brk, W_cnt, W_for, W_lc, W_lcIf, W_seq, W_rng1, W_rng2, W_cons, W_nil, seqP_nx, seqP_rt, seqP_bk, seqP_ct, retP_rt, retP_nx, onB_true, onB_false, notB_bl, onS_some, getP_some, intP_int, tupP_tup, strP_str, List.getElem?_cons_zero, List.getElem?_cons_succ, List.set_cons_zero, List.set_cons_succ, List.length_cons, List.length_nil, List.map_cons, List.map_nil, List.cons_append, List.nil_append, List.replicate_succ, List.replicate_zero, w_add, w_sub, w_mul, w_fdiv, w_mod, w_addB, w_subB, w_adds, w_addt, w_addr, w_mulr, w_mult, w_ixt, w_ixr, w_ixf, w_ixl, it0, it1, it2, it3, it4, w_lent, w_lenr, w_lenf, w_lens, w_lenl, w_abs, w_inti, w_intb, w_max, w_min, w_tupt, w_tupr, w_tupl, w_listt, w_listr, w_listMt, w_slt, w_slr, w_sls, w_app, w_sset, ite_bl, ite_nb, onO_d, onO_n, Ev.wipe, c_gt, c_lt, c_ge, c_le, c_eq, c_ne, c_eqs, c_nes, c_les, c_ins, src_s, src_t, src_r, src_f, set_set, w_pow10, room, Nat.reduceAdd, Nat.reduceLeDiff, Nat.zero_add, Int.reduceLE, Int.reduceLT, Int.reduceNeg, true_and, and_true])
    refine W_lc_rng (fun i acc μ' => acc = List.replicate i (.bl true)) rfl (fun i acc μ' hi h => ?_) (fun acc μ' h => ?_)
    · subst h
      refine ⟨_, rfl, ?_⟩
      (try simp only [W_xop, w_mk0, w_mk1, w_isx, w_fld, W_ok, W_var, W_non, W_bl, W_int, W_str, W_bin, W_neg, W_cmp, W_chn, W_and, W_or, W_not, W_iteE, W_tup, W_lst, W_lstM, W_dct0, W_dct0M, W_dct1, W_ix, W_slU, W_slL, W_slLU, W_rev, W_call, W_callk, W_blt, W_isi, W_mth, W_mtc, W_zip, zip_t, zip_r, nr_non, nr_bl, nr_int, nr_str, nr_tup, nr_rol, nr_frl, nr_dct, nr_loc, rc_index, rc_count, w_rng1, w_trub, w_trur, w_trut, src_g, W_evnil, W_evcons, W_set, W_setL, rolP_rol, W_par, W_par3, W_unp, bind_t, bind_r, bind_1, bind_0, c_isb, W_enu, enum_t, enum_r, W_lcNE, W_srtS, W_srtL, W_srtF, W_lzip, W_lenS, W_last, W_cl, W_sset, W_expr, W_ret, W_if, W_pass, W_brk, W_cnt, W_for, W_lc, W_lcIf, W_seq, W_rng1, W_rng2, W_cons, W_nil, seqP_nx, seqP_rt, seqP_bk, seqP_ct, retP_rt, retP_nx, onB_true, onB_false, notB_bl, onS_some, getP_some, intP_int, tupP_tup, strP_str, List.getElem?_cons_zero, List.getElem?_cons_succ, List.set_cons_zero, List.set_cons_succ, List.length_cons, List.length_nil, List.map_cons, List.map_nil, List.cons_append, List.nil_append, List.replicate_succ, List.replicate_zero, w_add, w_sub, w_mul, w_fdiv, w_mod, w_addB, w_subB, w_adds, w_addt, w_addr, w_mulr, w_mult, w_ixt, w_ixr, w_ixf, w_ixl, it0, it1, it2, it3, it4, w_lent, w_lenr, w_lenf, w_lens, w_lenl, w_abs, w_inti, w_intb, w_max, w_min, w_tupt, w_tupr, w_tupl, w_listt, w_listr, w_listMt, w_slt, w_slr, w_sls, w_app, w_sset, ite_bl, ite_nb, onO_d, onO_n, Ev.wipe, c_gt, c_lt, c_ge, c_le, c_eq, c_ne, c_eqs, c_nes, c_les, c_ins, src_s, src_t, src_r, src_f, set_set, w_pow10, room, Nat.reduceAdd, Nat.reduceLeDiff, Nat.zero_add, Int.reduceLE, Int.reduceLT, Int.reduceNeg, true_and, and_true])
      refine (sp_urn (by decide) (by omega) (by omega)).mono fun d μ2 ⟨ed, x, e2, U⟩ => ?_
      subst ed e2
      refine (sp_right14 (by decide) U (by decide)).mono fun d μ3 ⟨ed, _, _⟩ => ?_
      subst ed
      exact ⟨by simp [room]; omega, by rw [← List.replicate_succ, List.replicate_succ']⟩
    · subst h
      have e : List.replicate j.toNat (D.bl true) = (List.replicate j.toNat ()).map fun _ => D.bl true := by simp
      rw [e, w_all (p := fun _ => true)]
      have : (List.replicate j.toNat ()).all (fun _ => true) = true := by simp
      rw [this]
  obtain ⟨a, μ', e, rfl⟩ := this.ex
  exact ⟨μ', e⟩
end Ev

namespace Ev
open PySem
theorem law_true : ∀ ns : List Int, ns.length ≤ 63 → ∃ μ', run fnsL kwL 200 139 [.frl (ns.map .int)] [] = .ok (.bl true) μ' := law04
end Ev

namespace Ev
open PySem PySem.Spec L2
/-! ### the defs of the program, one by one -/
abbrev topS (i : Nat) : Stmt := PySem.Challenge.pw_ringfences_k04_errors_by_themselves.main.body.getD i (.Pass ⟨0, 0, 0, 0⟩)
def cfg : Cfg := ⟨[(("_law_urn" : Str), 2), (("_law_take" : Str), 3), (("_law_of" : Str), 4), (("_law_odd" : Str), 6), (("_law_sorts" : Str), 134), (("_law_made" : Str), 135), (("_law_named" : Str), 136), (("_law_kept" : Str), 137), (("_law_right" : Str), 138), (("law" : Str), 139)], [], [], [], [(("BadStep" : Str), 0), (("NoThread" : Str), 1), (("Finished" : Str), 2), (("Blocked" : Str), 3), (("Full" : Str), 4), (("NothingWaits" : Str), 5), (("NotOldest" : Str), 6), (("NotLive" : Str), 7), (("TooLong" : Str), 8), (("TooMany" : Str), 9), (("BadProgram" : Str), 10), (("BadBuffers" : Str), 11), (("BadRemedies" : Str), 12), (("NotThere" : Str), 13), (("NoNumber" : Str), 14), (("BadText" : Str), 15), (("BadLine" : Str), 16), (("Incomplete" : Str), 17), (("Unfaithful" : Str), 18), (("NothingToUndo" : Str), 19), (("NoMachine" : Str), 20), (("FenceError" : Str), 21)]⟩
def n0 : List Str := ["_law_script", "_law_k", "_law_cell", "_law_own"]
theorem sc0 : FnScope n0 ["_law_script", "_law_k"] (defScope (topS 24)) := ⟨rfl, rfl, rfl, by decide +kernel, rfl, by decide +kernel, by decide +kernel⟩
theorem cv0 : cSs cfg n0 ["return"] (defScope (topS 24)) 100 (defBody (topS 24)) = some f_law_urn.body := by kernel_rfl
def n1 : List Str := ["_law_urn_here", "_law_many", "_law_prime", "_law_mixed", "_law_digit"]
theorem sc1 : FnScope n1 ["_law_urn_here", "_law_many"] (defScope (topS 25)) := ⟨rfl, rfl, rfl, by decide +kernel, rfl, by decide +kernel, by decide +kernel⟩
theorem cv1 : cSs cfg n1 [] (defScope (topS 25)) 100 (defBody (topS 25)) = some f_law_take.body := by kernel_rfl
def n2 : List Str := ["_law_urn_here", "_law_some"]
theorem sc2 : FnScope n2 ["_law_urn_here", "_law_some"] (defScope (topS 26)) := ⟨rfl, rfl, rfl, by decide +kernel, rfl, by decide +kernel, by decide +kernel⟩
theorem cv2 : cSs cfg n2 [] (defScope (topS 26)) 100 (defBody (topS 26)) = some f_law_of.body := by kernel_rfl
def n3 : List Str := ["_law_urn_here", "_law_some", "_law_found", "_law_turn"]
theorem sc3 : FnScope n3 ["_law_urn_here"] (defScope (topS 27)) := ⟨rfl, rfl, rfl, by decide +kernel, rfl, by decide +kernel, by decide +kernel⟩
theorem cv3 : cSs cfg n3 [] (defScope (topS 27)) 100 (defBody (topS 27)) = some f_law_odd.body := by kernel_rfl
def n4 : List Str := ["_law_error", "_law_found"]
theorem sc4 : FnScope n4 ["_law_error"] (defScope (topS 28)) := ⟨rfl, rfl, rfl, by decide +kernel, rfl, by decide +kernel, by decide +kernel⟩
theorem cv4 : cSs cfg n4 [] (defScope (topS 28)) 100 (defBody (topS 28)) = some f_law_sorts.body := by kernel_rfl
def n5 : List Str := ["_law_thing", "_law_found"]
theorem sc5 : FnScope n5 ["_law_thing"] (defScope (topS 29)) := ⟨rfl, rfl, rfl, by decide +kernel, rfl, by decide +kernel, by decide +kernel⟩
theorem cv5 : cSs cfg n5 [] (defScope (topS 29)) 100 (defBody (topS 29)) = some f_law_made.body := by kernel_rfl
def n6 : List Str := ["_law_thing", "_law_found"]
theorem sc6 : FnScope n6 ["_law_thing"] (defScope (topS 30)) := ⟨rfl, rfl, rfl, by decide +kernel, rfl, by decide +kernel, by decide +kernel⟩
theorem cv6 : cSs cfg n6 [] (defScope (topS 30)) 100 (defBody (topS 30)) = some f_law_named.body := by kernel_rfl
def n7 : List Str := ["_law_made_here", "_law_found"]
theorem sc7 : FnScope n7 ["_law_made_here"] (defScope (topS 31)) := ⟨rfl, rfl, rfl, by decide +kernel, rfl, by decide +kernel, by decide +kernel⟩
theorem cv7 : cSs cfg n7 [] (defScope (topS 31)) 100 (defBody (topS 31)) = some f_law_kept.body := by kernel_rfl
def n8 : List Str := ["_law_urn_here", "_law_thing", "_law_before", "_law_made_here", "_law_at", "_law_error", "_law_turn", "_law_other"]
theorem sc8 : FnScope n8 ["_law_urn_here"] (defScope (topS 32)) := ⟨rfl, rfl, rfl, by decide +kernel, rfl, by decide +kernel, by decide +kernel⟩
theorem cv8 : cSs cfg n8 [] (defScope (topS 32)) 100 (defBody (topS 32)) = some f_law_right_14.body := by kernel_rfl
def n9 : List Str := ["_law_script", "_law_k"]
theorem sc9 : FnScope n9 ["_law_script"] (defScope (topS 33)) := ⟨rfl, rfl, rfl, by decide +kernel, rfl, by decide +kernel, by decide +kernel⟩
theorem cv9 : cSs cfg n9 [] (defScope (topS 33)) 100 (defBody (topS 33)) = some f_law_14.body := by kernel_rfl
abbrev stI0 : Stmt := inClass (topS 2) 0
theorem scI0 : FnScope ["self", "step"] ["self", "step"] (defScope stI0) := ⟨rfl, rfl, rfl, by decide +kernel, rfl, by decide +kernel, by decide +kernel⟩
abbrev stI1 : Stmt := inClass (topS 3) 0
theorem scI1 : FnScope ["self", "thread"] ["self", "thread"] (defScope stI1) := ⟨rfl, rfl, rfl, by decide +kernel, rfl, by decide +kernel, by decide +kernel⟩
abbrev stI2 : Stmt := inClass (topS 4) 0
theorem scI2 : FnScope ["self", "thread"] ["self", "thread"] (defScope stI2) := ⟨rfl, rfl, rfl, by decide +kernel, rfl, by decide +kernel, by decide +kernel⟩
abbrev stI3 : Stmt := inClass (topS 5) 0
theorem scI3 : FnScope ["self", "thread"] ["self", "thread"] (defScope stI3) := ⟨rfl, rfl, rfl, by decide +kernel, rfl, by decide +kernel, by decide +kernel⟩
abbrev stI4 : Stmt := inClass (topS 6) 0
theorem scI4 : FnScope ["self", "thread"] ["self", "thread"] (defScope stI4) := ⟨rfl, rfl, rfl, by decide +kernel, rfl, by decide +kernel, by decide +kernel⟩
abbrev stI5 : Stmt := inClass (topS 7) 0
theorem scI5 : FnScope ["self", "variable"] ["self", "variable"] (defScope stI5) := ⟨rfl, rfl, rfl, by decide +kernel, rfl, by decide +kernel, by decide +kernel⟩
abbrev stI6 : Stmt := inClass (topS 8) 0
theorem scI6 : FnScope ["self", "variable"] ["self", "variable"] (defScope stI6) := ⟨rfl, rfl, rfl, by decide +kernel, rfl, by decide +kernel, by decide +kernel⟩
abbrev stI7 : Stmt := inClass (topS 10) 0
theorem scI7 : FnScope ["self", "pair"] ["self", "pair"] (defScope stI7) := ⟨rfl, rfl, rfl, by decide +kernel, rfl, by decide +kernel, by decide +kernel⟩
abbrev stI8 : Stmt := inClass (topS 11) 0
theorem scI8 : FnScope ["self", "limit"] ["self", "limit"] (defScope stI8) := ⟨rfl, rfl, rfl, by decide +kernel, rfl, by decide +kernel, by decide +kernel⟩
abbrev stI9 : Stmt := inClass (topS 13) 0
theorem scI9 : FnScope ["self", "limit"] ["self", "limit"] (defScope stI9) := ⟨rfl, rfl, rfl, by decide +kernel, rfl, by decide +kernel, by decide +kernel⟩
abbrev stI10 : Stmt := inClass (topS 14) 0
theorem scI10 : FnScope ["self", "value"] ["self", "value"] (defScope stI10) := ⟨rfl, rfl, rfl, by decide +kernel, rfl, by decide +kernel, by decide +kernel⟩
abbrev stI11 : Stmt := inClass (topS 15) 0
theorem scI11 : FnScope ["self", "value"] ["self", "value"] (defScope stI11) := ⟨rfl, rfl, rfl, by decide +kernel, rfl, by decide +kernel, by decide +kernel⟩
abbrev stI12 : Stmt := inClass (topS 16) 0
theorem scI12 : FnScope ["self", "value"] ["self", "value"] (defScope stI12) := ⟨rfl, rfl, rfl, by decide +kernel, rfl, by decide +kernel, by decide +kernel⟩
abbrev stI13 : Stmt := inClass (topS 17) 0
theorem scI13 : FnScope ["self", "remedy"] ["self", "remedy"] (defScope stI13) := ⟨rfl, rfl, rfl, by decide +kernel, rfl, by decide +kernel, by decide +kernel⟩
abbrev stI14 : Stmt := inClass (topS 19) 0
theorem scI14 : FnScope ["self", "number"] ["self", "number"] (defScope stI14) := ⟨rfl, rfl, rfl, by decide +kernel, rfl, by decide +kernel, by decide +kernel⟩
abbrev stI15 : Stmt := inClass (topS 21) 0
theorem scI15 : FnScope ["self", "row"] ["self", "row"] (defScope stI15) := ⟨rfl, rfl, rfl, by decide +kernel, rfl, by decide +kernel, by decide +kernel⟩
abbrev stI16 : Stmt := inClass (topS 22) 0
theorem scI16 : FnScope ["self", "line"] ["self", "line"] (defScope stI16) := ⟨rfl, rfl, rfl, by decide +kernel, rfl, by decide +kernel, by decide +kernel⟩
theorem exs_mk {K : PySem.W.Frag} {h : Heap} {mg : Str → Option Value} (X : K.In h) (G : h.Ns mainGlobals mg)
    {xC0 xN0 xC1 xN1 xC2 xN2 xC3 xN3 xC4 xN4 xC5 xN5 xC6 xN6 xC7 xN7 xC8 xN8 xC9 xN9 xC10 xN10 xC11 xN11 xC12 xN12 xC13 xN13 xC14 xN14 xC15 xN15 xC16 xN16 xC17 xN17 xC18 xN18 xC19 xN19 xC20 xN20 xC21 xN21 : Addr} {xm0 xq0 xm1 xq1 xm2 xq2 xm3 xq3 xm4 xq4 xm5 xq5 xm6 xq6 xm7 xq7 xm8 xq8 xm9 xq9 xm10 xq10 xm11 xq11 xm12 xq12 xm13 xq13 xm14 xq14 xm15 xq15 xm16 xq16 xm17 xq17 xm18 xq18 xm19 xq19 xm20 xq20 xm21 xq21 : Str} {xb0 xu0 xb1 xu1 xb2 xu2 xb3 xu3 xb4 xu4 xb5 xu5 xb6 xu6 xb7 xu7 xb8 xu8 xb9 xu9 xb10 xu10 xb11 xu11 xb12 xu12 xb13 xu13 xb14 xu14 xb15 xu15 xb16 xu16 xb17 xu17 xb18 xu18 xb19 xu19 xb20 xu20 xb21 xu21 : List Value} {xs0 xs1 xs2 xs3 xs4 xs5 xs6 xs7 xs8 xs9 xs10 xs11 xs12 xs13 xs14 xs15 xs16 xs17 xs18 xs19 xs20 xs21 : List Str} {xv0 xv1 xv2 xv3 xv4 xv5 xv6 xv7 xv8 xv9 xv10 xv11 xv12 xv13 xv14 xv15 xv16 xv17 xv18 xv19 xv20 xv21 : Bool} {xo0 xo1 xo2 xo3 xo4 xo5 xo6 xo7 xo8 xo9 xo10 xo11 xo12 xo13 xo14 xo15 xo16 xo17 xo18 xo19 xo20 xo21 : Option Bool} {xw0 xw1 xw2 xw3 xw4 xw5 xw6 xw7 xw8 xw9 xw10 xw11 xw12 xw13 xw14 xw15 xw16 xw17 xw18 xw19 xw20 xw21 : Option Addr} {xka0 xkb0 xkc0 xkd0 xke0 xka1 xkb1 xkc1 xkd1 xke1 xka2 xkb2 xkc2 xkd2 xke2 xka3 xkb3 xkc3 xkd3 xke3 xka4 xkb4 xkc4 xkd4 xke4 xka5 xkb5 xkc5 xkd5 xke5 xka6 xkb6 xkc6 xkd6 xke6 xka7 xkb7 xkc7 xkd7 xke7 xka8 xkb8 xkc8 xkd8 xke8 xka9 xkb9 xkc9 xkd9 xke9 xka10 xkb10 xkc10 xkd10 xke10 xka11 xkb11 xkc11 xkd11 xke11 xka12 xkb12 xkc12 xkd12 xke12 xka13 xkb13 xkc13 xkd13 xke13 xka14 xkb14 xkc14 xkd14 xke14 xka15 xkb15 xkc15 xkd15 xke15 xka16 xkb16 xkc16 xkd16 xke16 xka17 xkb17 xkc17 xkd17 xke17 xka18 xkb18 xkc18 xkd18 xke18 xka19 xkb19 xkc19 xkd19 xke19 xka20 xkb20 xkc20 xkd20 xke20 xka21 xkb21 xkc21 xkd21 xke21 : Option Value}
    {bmF : List Value} {fI0 fI1 fI2 fI3 fI4 fI5 fI6 fI7 fI8 fI9 fI10 fI11 fI12 fI13 fI14 fI15 fI16 : Addr} {odI0 anI0 odI1 anI1 odI2 anI2 odI3 anI3 odI4 anI4 odI5 anI5 odI6 anI6 odI7 anI7 odI8 anI8 odI9 anI9 odI10 anI10 odI11 anI11 odI12 anI12 odI13 anI13 odI14 anI14 odI15 anI15 odI16 anI16 : Option Addr} {slI0 slI1 slI2 slI3 slI4 slI5 slI6 slI7 slI8 slI9 slI10 slI11 slI12 slI13 slI14 slI15 slI16 : Array (Option Value)} {ocI0 kVI0 dcI0 pmI0 cdI0 ctI0 ocI1 kVI1 dcI1 pmI1 cdI1 ctI1 ocI2 kVI2 dcI2 pmI2 cdI2 ctI2 ocI3 kVI3 dcI3 pmI3 cdI3 ctI3 ocI4 kVI4 dcI4 pmI4 cdI4 ctI4 ocI5 kVI5 dcI5 pmI5 cdI5 ctI5 ocI6 kVI6 dcI6 pmI6 cdI6 ctI6 ocI7 kVI7 dcI7 pmI7 cdI7 ctI7 ocI8 kVI8 dcI8 pmI8 cdI8 ctI8 ocI9 kVI9 dcI9 pmI9 cdI9 ctI9 ocI10 kVI10 dcI10 pmI10 cdI10 ctI10 ocI11 kVI11 dcI11 pmI11 cdI11 ctI11 ocI12 kVI12 dcI12 pmI12 cdI12 ctI12 ocI13 kVI13 dcI13 pmI13 cdI13 ctI13 ocI14 kVI14 dcI14 pmI14 cdI14 ctI14 ocI15 kVI15 dcI15 pmI15 cdI15 ctI15 ocI16 kVI16 dcI16 pmI16 cdI16 ctI16 : Value}
    (ya0 : PySem.W.nsIn K mainGlobals "BadStep" = some (some (.ref xC0)))
    (ya1 : PySem.W.nsIn K mainGlobals "NoThread" = some (some (.ref xC1)))
    (ya2 : PySem.W.nsIn K mainGlobals "Finished" = some (some (.ref xC2)))
    (ya3 : PySem.W.nsIn K mainGlobals "Blocked" = some (some (.ref xC3)))
    (ya4 : PySem.W.nsIn K mainGlobals "Full" = some (some (.ref xC4)))
    (ya5 : PySem.W.nsIn K mainGlobals "NothingWaits" = some (some (.ref xC5)))
    (ya6 : PySem.W.nsIn K mainGlobals "NotOldest" = some (some (.ref xC6)))
    (ya7 : PySem.W.nsIn K mainGlobals "NotLive" = some (some (.ref xC7)))
    (ya8 : PySem.W.nsIn K mainGlobals "TooLong" = some (some (.ref xC8)))
    (ya9 : PySem.W.nsIn K mainGlobals "TooMany" = some (some (.ref xC9)))
    (ya10 : PySem.W.nsIn K mainGlobals "BadProgram" = some (some (.ref xC10)))
    (ya11 : PySem.W.nsIn K mainGlobals "BadBuffers" = some (some (.ref xC11)))
    (ya12 : PySem.W.nsIn K mainGlobals "BadRemedies" = some (some (.ref xC12)))
    (ya13 : PySem.W.nsIn K mainGlobals "NotThere" = some (some (.ref xC13)))
    (ya14 : PySem.W.nsIn K mainGlobals "NoNumber" = some (some (.ref xC14)))
    (ya15 : PySem.W.nsIn K mainGlobals "BadText" = some (some (.ref xC15)))
    (ya16 : PySem.W.nsIn K mainGlobals "BadLine" = some (some (.ref xC16)))
    (ya17 : PySem.W.nsIn K mainGlobals "Incomplete" = some (some (.ref xC17)))
    (ya18 : PySem.W.nsIn K mainGlobals "Unfaithful" = some (some (.ref xC18)))
    (ya19 : PySem.W.nsIn K mainGlobals "NothingToUndo" = some (some (.ref xC19)))
    (ya20 : PySem.W.nsIn K mainGlobals "NoMachine" = some (some (.ref xC20)))
    (ya21 : PySem.W.nsIn K mainGlobals "FenceError" = some (some (.ref xC21)))
    (yx0 : K.lookup xC0 = some (excClassObj xm0 xq0 xC0 xN0 xb0 [.ref xC21, .type "ValueError", .type "Exception", .type "BaseException", .type "object"] true xs0 xu0 xv0 xo0 xw0 xka0 xkb0 xkc0 xkd0 xke0 "ValueError.__new__"))
    (ys0 : PySem.W.findIn K (.ref xC0) "__setattr__" = some (some (.builtin "object.__setattr__")))
    (yg0 : PySem.W.findIn K (.ref xC0) "__getattribute__" = some (some (.builtin "BaseException.__getattribute__")))
    (yh0 : PySem.W.findIn K (.ref xC0) "__getattr__" = some none)
    (yc0 : PySem.W.findIn K (.ref xC0) "__class__" = some (some (.builtin "object.__class__")))
    (yk0 : PySem.W.keepIn K (.ref xC0) = true)
    (yn0 : PySem.W.findIn K (.ref xC0) "step" = some none)
    (yi0 : PySem.W.findIn K (.ref xC0) "__init__" = some (some (.ref fI0)))
    (yt0 : PySem.W.typeIn K (.ref fI0) = some (.type "function"))
    (yl0 : K.lookup fI0 = some ⟨ocI0, odI0, .func (PySem.W.fnOf "__init__" "BadStep.__init__" (defArgs stI0) (defBody stI0) (defScope stI0) .none kVI0 dcI0 pmI0 anI0 cdI0 ctI0), slI0⟩)
    (yd0 : PySem.W.codeIn K cdI0 "BadStep.__init__" = true)
    (yj0 : PySem.W.keepIn K (.ref fI0) = true)
    (yx1 : K.lookup xC1 = some (excClassObj xm1 xq1 xC1 xN1 xb1 [.ref xC21, .type "ValueError", .type "Exception", .type "BaseException", .type "object"] true xs1 xu1 xv1 xo1 xw1 xka1 xkb1 xkc1 xkd1 xke1 "ValueError.__new__"))
    (ys1 : PySem.W.findIn K (.ref xC1) "__setattr__" = some (some (.builtin "object.__setattr__")))
    (yg1 : PySem.W.findIn K (.ref xC1) "__getattribute__" = some (some (.builtin "BaseException.__getattribute__")))
    (yh1 : PySem.W.findIn K (.ref xC1) "__getattr__" = some none)
    (yc1 : PySem.W.findIn K (.ref xC1) "__class__" = some (some (.builtin "object.__class__")))
    (yk1 : PySem.W.keepIn K (.ref xC1) = true)
    (yn1 : PySem.W.findIn K (.ref xC1) "thread" = some none)
    (yi1 : PySem.W.findIn K (.ref xC1) "__init__" = some (some (.ref fI1)))
    (yt1 : PySem.W.typeIn K (.ref fI1) = some (.type "function"))
    (yl1 : K.lookup fI1 = some ⟨ocI1, odI1, .func (PySem.W.fnOf "__init__" "NoThread.__init__" (defArgs stI1) (defBody stI1) (defScope stI1) .none kVI1 dcI1 pmI1 anI1 cdI1 ctI1), slI1⟩)
    (yd1 : PySem.W.codeIn K cdI1 "NoThread.__init__" = true)
    (yj1 : PySem.W.keepIn K (.ref fI1) = true)
    (yx2 : K.lookup xC2 = some (excClassObj xm2 xq2 xC2 xN2 xb2 [.ref xC21, .type "ValueError", .type "Exception", .type "BaseException", .type "object"] true xs2 xu2 xv2 xo2 xw2 xka2 xkb2 xkc2 xkd2 xke2 "ValueError.__new__"))
    (ys2 : PySem.W.findIn K (.ref xC2) "__setattr__" = some (some (.builtin "object.__setattr__")))
    (yg2 : PySem.W.findIn K (.ref xC2) "__getattribute__" = some (some (.builtin "BaseException.__getattribute__")))
    (yh2 : PySem.W.findIn K (.ref xC2) "__getattr__" = some none)
    (yc2 : PySem.W.findIn K (.ref xC2) "__class__" = some (some (.builtin "object.__class__")))
    (yk2 : PySem.W.keepIn K (.ref xC2) = true)
    (yn2 : PySem.W.findIn K (.ref xC2) "thread" = some none)
    (yi2 : PySem.W.findIn K (.ref xC2) "__init__" = some (some (.ref fI2)))
    (yt2 : PySem.W.typeIn K (.ref fI2) = some (.type "function"))
    (yl2 : K.lookup fI2 = some ⟨ocI2, odI2, .func (PySem.W.fnOf "__init__" "Finished.__init__" (defArgs stI2) (defBody stI2) (defScope stI2) .none kVI2 dcI2 pmI2 anI2 cdI2 ctI2), slI2⟩)
    (yd2 : PySem.W.codeIn K cdI2 "Finished.__init__" = true)
    (yj2 : PySem.W.keepIn K (.ref fI2) = true)
    (yx3 : K.lookup xC3 = some (excClassObj xm3 xq3 xC3 xN3 xb3 [.ref xC21, .type "ValueError", .type "Exception", .type "BaseException", .type "object"] true xs3 xu3 xv3 xo3 xw3 xka3 xkb3 xkc3 xkd3 xke3 "ValueError.__new__"))
    (ys3 : PySem.W.findIn K (.ref xC3) "__setattr__" = some (some (.builtin "object.__setattr__")))
    (yg3 : PySem.W.findIn K (.ref xC3) "__getattribute__" = some (some (.builtin "BaseException.__getattribute__")))
    (yh3 : PySem.W.findIn K (.ref xC3) "__getattr__" = some none)
    (yc3 : PySem.W.findIn K (.ref xC3) "__class__" = some (some (.builtin "object.__class__")))
    (yk3 : PySem.W.keepIn K (.ref xC3) = true)
    (yn3 : PySem.W.findIn K (.ref xC3) "thread" = some none)
    (yi3 : PySem.W.findIn K (.ref xC3) "__init__" = some (some (.ref fI3)))
    (yt3 : PySem.W.typeIn K (.ref fI3) = some (.type "function"))
    (yl3 : K.lookup fI3 = some ⟨ocI3, odI3, .func (PySem.W.fnOf "__init__" "Blocked.__init__" (defArgs stI3) (defBody stI3) (defScope stI3) .none kVI3 dcI3 pmI3 anI3 cdI3 ctI3), slI3⟩)
    (yd3 : PySem.W.codeIn K cdI3 "Blocked.__init__" = true)
    (yj3 : PySem.W.keepIn K (.ref fI3) = true)
    (yx4 : K.lookup xC4 = some (excClassObj xm4 xq4 xC4 xN4 xb4 [.ref xC21, .type "ValueError", .type "Exception", .type "BaseException", .type "object"] true xs4 xu4 xv4 xo4 xw4 xka4 xkb4 xkc4 xkd4 xke4 "ValueError.__new__"))
    (ys4 : PySem.W.findIn K (.ref xC4) "__setattr__" = some (some (.builtin "object.__setattr__")))
    (yg4 : PySem.W.findIn K (.ref xC4) "__getattribute__" = some (some (.builtin "BaseException.__getattribute__")))
    (yh4 : PySem.W.findIn K (.ref xC4) "__getattr__" = some none)
    (yc4 : PySem.W.findIn K (.ref xC4) "__class__" = some (some (.builtin "object.__class__")))
    (yk4 : PySem.W.keepIn K (.ref xC4) = true)
    (yn4 : PySem.W.findIn K (.ref xC4) "thread" = some none)
    (yi4 : PySem.W.findIn K (.ref xC4) "__init__" = some (some (.ref fI4)))
    (yt4 : PySem.W.typeIn K (.ref fI4) = some (.type "function"))
    (yl4 : K.lookup fI4 = some ⟨ocI4, odI4, .func (PySem.W.fnOf "__init__" "Full.__init__" (defArgs stI4) (defBody stI4) (defScope stI4) .none kVI4 dcI4 pmI4 anI4 cdI4 ctI4), slI4⟩)
    (yd4 : PySem.W.codeIn K cdI4 "Full.__init__" = true)
    (yj4 : PySem.W.keepIn K (.ref fI4) = true)
    (yx5 : K.lookup xC5 = some (excClassObj xm5 xq5 xC5 xN5 xb5 [.ref xC21, .type "ValueError", .type "Exception", .type "BaseException", .type "object"] true xs5 xu5 xv5 xo5 xw5 xka5 xkb5 xkc5 xkd5 xke5 "ValueError.__new__"))
    (ys5 : PySem.W.findIn K (.ref xC5) "__setattr__" = some (some (.builtin "object.__setattr__")))
    (yg5 : PySem.W.findIn K (.ref xC5) "__getattribute__" = some (some (.builtin "BaseException.__getattribute__")))
    (yh5 : PySem.W.findIn K (.ref xC5) "__getattr__" = some none)
    (yc5 : PySem.W.findIn K (.ref xC5) "__class__" = some (some (.builtin "object.__class__")))
    (yk5 : PySem.W.keepIn K (.ref xC5) = true)
    (yn5 : PySem.W.findIn K (.ref xC5) "variable" = some none)
    (yi5 : PySem.W.findIn K (.ref xC5) "__init__" = some (some (.ref fI5)))
    (yt5 : PySem.W.typeIn K (.ref fI5) = some (.type "function"))
    (yl5 : K.lookup fI5 = some ⟨ocI5, odI5, .func (PySem.W.fnOf "__init__" "NothingWaits.__init__" (defArgs stI5) (defBody stI5) (defScope stI5) .none kVI5 dcI5 pmI5 anI5 cdI5 ctI5), slI5⟩)
    (yd5 : PySem.W.codeIn K cdI5 "NothingWaits.__init__" = true)
    (yj5 : PySem.W.keepIn K (.ref fI5) = true)
    (yx6 : K.lookup xC6 = some (excClassObj xm6 xq6 xC6 xN6 xb6 [.ref xC21, .type "ValueError", .type "Exception", .type "BaseException", .type "object"] true xs6 xu6 xv6 xo6 xw6 xka6 xkb6 xkc6 xkd6 xke6 "ValueError.__new__"))
    (ys6 : PySem.W.findIn K (.ref xC6) "__setattr__" = some (some (.builtin "object.__setattr__")))
    (yg6 : PySem.W.findIn K (.ref xC6) "__getattribute__" = some (some (.builtin "BaseException.__getattribute__")))
    (yh6 : PySem.W.findIn K (.ref xC6) "__getattr__" = some none)
    (yc6 : PySem.W.findIn K (.ref xC6) "__class__" = some (some (.builtin "object.__class__")))
    (yk6 : PySem.W.keepIn K (.ref xC6) = true)
    (yn6 : PySem.W.findIn K (.ref xC6) "variable" = some none)
    (yi6 : PySem.W.findIn K (.ref xC6) "__init__" = some (some (.ref fI6)))
    (yt6 : PySem.W.typeIn K (.ref fI6) = some (.type "function"))
    (yl6 : K.lookup fI6 = some ⟨ocI6, odI6, .func (PySem.W.fnOf "__init__" "NotOldest.__init__" (defArgs stI6) (defBody stI6) (defScope stI6) .none kVI6 dcI6 pmI6 anI6 cdI6 ctI6), slI6⟩)
    (yd6 : PySem.W.codeIn K cdI6 "NotOldest.__init__" = true)
    (yj6 : PySem.W.keepIn K (.ref fI6) = true)
    (yx7 : K.lookup xC7 = some (excClassObj xm7 xq7 xC7 xN7 xb7 [.ref xC21, .type "ValueError", .type "Exception", .type "BaseException", .type "object"] true xs7 xu7 xv7 xo7 xw7 xka7 xkb7 xkc7 xkd7 xke7 "ValueError.__new__"))
    (ys7 : PySem.W.findIn K (.ref xC7) "__setattr__" = some (some (.builtin "object.__setattr__")))
    (yg7 : PySem.W.findIn K (.ref xC7) "__getattribute__" = some (some (.builtin "BaseException.__getattribute__")))
    (yh7 : PySem.W.findIn K (.ref xC7) "__getattr__" = some none)
    (yc7 : PySem.W.findIn K (.ref xC7) "__class__" = some (some (.builtin "object.__class__")))
    (yk7 : PySem.W.keepIn K (.ref xC7) = true)
    (yn7 : PySem.W.findIn K (.ref xC7) "pair" = some none)
    (yi7 : PySem.W.findIn K (.ref xC7) "__init__" = some (some (.ref fI7)))
    (yt7 : PySem.W.typeIn K (.ref fI7) = some (.type "function"))
    (yl7 : K.lookup fI7 = some ⟨ocI7, odI7, .func (PySem.W.fnOf "__init__" "NotLive.__init__" (defArgs stI7) (defBody stI7) (defScope stI7) .none kVI7 dcI7 pmI7 anI7 cdI7 ctI7), slI7⟩)
    (yd7 : PySem.W.codeIn K cdI7 "NotLive.__init__" = true)
    (yj7 : PySem.W.keepIn K (.ref fI7) = true)
    (yx8 : K.lookup xC8 = some (excClassObj xm8 xq8 xC8 xN8 xb8 [.ref xC21, .type "ValueError", .type "Exception", .type "BaseException", .type "object"] true xs8 xu8 xv8 xo8 xw8 xka8 xkb8 xkc8 xkd8 xke8 "ValueError.__new__"))
    (ys8 : PySem.W.findIn K (.ref xC8) "__setattr__" = some (some (.builtin "object.__setattr__")))
    (yg8 : PySem.W.findIn K (.ref xC8) "__getattribute__" = some (some (.builtin "BaseException.__getattribute__")))
    (yh8 : PySem.W.findIn K (.ref xC8) "__getattr__" = some none)
    (yc8 : PySem.W.findIn K (.ref xC8) "__class__" = some (some (.builtin "object.__class__")))
    (yk8 : PySem.W.keepIn K (.ref xC8) = true)
    (yn8 : PySem.W.findIn K (.ref xC8) "limit" = some none)
    (yi8 : PySem.W.findIn K (.ref xC8) "__init__" = some (some (.ref fI8)))
    (yt8 : PySem.W.typeIn K (.ref fI8) = some (.type "function"))
    (yl8 : K.lookup fI8 = some ⟨ocI8, odI8, .func (PySem.W.fnOf "__init__" "TooLong.__init__" (defArgs stI8) (defBody stI8) (defScope stI8) .none kVI8 dcI8 pmI8 anI8 cdI8 ctI8), slI8⟩)
    (yd8 : PySem.W.codeIn K cdI8 "TooLong.__init__" = true)
    (yj8 : PySem.W.keepIn K (.ref fI8) = true)
    (yx9 : K.lookup xC9 = some (excClassObj xm9 xq9 xC9 xN9 xb9 [.ref xC21, .type "ValueError", .type "Exception", .type "BaseException", .type "object"] true xs9 xu9 xv9 xo9 xw9 xka9 xkb9 xkc9 xkd9 xke9 "ValueError.__new__"))
    (ys9 : PySem.W.findIn K (.ref xC9) "__setattr__" = some (some (.builtin "object.__setattr__")))
    (yg9 : PySem.W.findIn K (.ref xC9) "__getattribute__" = some (some (.builtin "BaseException.__getattribute__")))
    (yh9 : PySem.W.findIn K (.ref xC9) "__getattr__" = some none)
    (yc9 : PySem.W.findIn K (.ref xC9) "__class__" = some (some (.builtin "object.__class__")))
    (yk9 : PySem.W.keepIn K (.ref xC9) = true)
    (yn9 : PySem.W.findIn K (.ref xC9) "limit" = some none)
    (yi9 : PySem.W.findIn K (.ref xC9) "__init__" = some (some (.ref fI9)))
    (yt9 : PySem.W.typeIn K (.ref fI9) = some (.type "function"))
    (yl9 : K.lookup fI9 = some ⟨ocI9, odI9, .func (PySem.W.fnOf "__init__" "TooMany.__init__" (defArgs stI9) (defBody stI9) (defScope stI9) .none kVI9 dcI9 pmI9 anI9 cdI9 ctI9), slI9⟩)
    (yd9 : PySem.W.codeIn K cdI9 "TooMany.__init__" = true)
    (yj9 : PySem.W.keepIn K (.ref fI9) = true)
    (yx10 : K.lookup xC10 = some (excClassObj xm10 xq10 xC10 xN10 xb10 [.ref xC21, .type "ValueError", .type "Exception", .type "BaseException", .type "object"] true xs10 xu10 xv10 xo10 xw10 xka10 xkb10 xkc10 xkd10 xke10 "ValueError.__new__"))
    (ys10 : PySem.W.findIn K (.ref xC10) "__setattr__" = some (some (.builtin "object.__setattr__")))
    (yg10 : PySem.W.findIn K (.ref xC10) "__getattribute__" = some (some (.builtin "BaseException.__getattribute__")))
    (yh10 : PySem.W.findIn K (.ref xC10) "__getattr__" = some none)
    (yc10 : PySem.W.findIn K (.ref xC10) "__class__" = some (some (.builtin "object.__class__")))
    (yk10 : PySem.W.keepIn K (.ref xC10) = true)
    (yn10 : PySem.W.findIn K (.ref xC10) "value" = some none)
    (yi10 : PySem.W.findIn K (.ref xC10) "__init__" = some (some (.ref fI10)))
    (yt10 : PySem.W.typeIn K (.ref fI10) = some (.type "function"))
    (yl10 : K.lookup fI10 = some ⟨ocI10, odI10, .func (PySem.W.fnOf "__init__" "BadProgram.__init__" (defArgs stI10) (defBody stI10) (defScope stI10) .none kVI10 dcI10 pmI10 anI10 cdI10 ctI10), slI10⟩)
    (yd10 : PySem.W.codeIn K cdI10 "BadProgram.__init__" = true)
    (yj10 : PySem.W.keepIn K (.ref fI10) = true)
    (yx11 : K.lookup xC11 = some (excClassObj xm11 xq11 xC11 xN11 xb11 [.ref xC21, .type "ValueError", .type "Exception", .type "BaseException", .type "object"] true xs11 xu11 xv11 xo11 xw11 xka11 xkb11 xkc11 xkd11 xke11 "ValueError.__new__"))
    (ys11 : PySem.W.findIn K (.ref xC11) "__setattr__" = some (some (.builtin "object.__setattr__")))
    (yg11 : PySem.W.findIn K (.ref xC11) "__getattribute__" = some (some (.builtin "BaseException.__getattribute__")))
    (yh11 : PySem.W.findIn K (.ref xC11) "__getattr__" = some none)
    (yc11 : PySem.W.findIn K (.ref xC11) "__class__" = some (some (.builtin "object.__class__")))
    (yk11 : PySem.W.keepIn K (.ref xC11) = true)
    (yn11 : PySem.W.findIn K (.ref xC11) "value" = some none)
    (yi11 : PySem.W.findIn K (.ref xC11) "__init__" = some (some (.ref fI11)))
    (yt11 : PySem.W.typeIn K (.ref fI11) = some (.type "function"))
    (yl11 : K.lookup fI11 = some ⟨ocI11, odI11, .func (PySem.W.fnOf "__init__" "BadBuffers.__init__" (defArgs stI11) (defBody stI11) (defScope stI11) .none kVI11 dcI11 pmI11 anI11 cdI11 ctI11), slI11⟩)
    (yd11 : PySem.W.codeIn K cdI11 "BadBuffers.__init__" = true)
    (yj11 : PySem.W.keepIn K (.ref fI11) = true)
    (yx12 : K.lookup xC12 = some (excClassObj xm12 xq12 xC12 xN12 xb12 [.ref xC21, .type "ValueError", .type "Exception", .type "BaseException", .type "object"] true xs12 xu12 xv12 xo12 xw12 xka12 xkb12 xkc12 xkd12 xke12 "ValueError.__new__"))
    (ys12 : PySem.W.findIn K (.ref xC12) "__setattr__" = some (some (.builtin "object.__setattr__")))
    (yg12 : PySem.W.findIn K (.ref xC12) "__getattribute__" = some (some (.builtin "BaseException.__getattribute__")))
    (yh12 : PySem.W.findIn K (.ref xC12) "__getattr__" = some none)
    (yc12 : PySem.W.findIn K (.ref xC12) "__class__" = some (some (.builtin "object.__class__")))
    (yk12 : PySem.W.keepIn K (.ref xC12) = true)
    (yn12 : PySem.W.findIn K (.ref xC12) "value" = some none)
    (yi12 : PySem.W.findIn K (.ref xC12) "__init__" = some (some (.ref fI12)))
    (yt12 : PySem.W.typeIn K (.ref fI12) = some (.type "function"))
    (yl12 : K.lookup fI12 = some ⟨ocI12, odI12, .func (PySem.W.fnOf "__init__" "BadRemedies.__init__" (defArgs stI12) (defBody stI12) (defScope stI12) .none kVI12 dcI12 pmI12 anI12 cdI12 ctI12), slI12⟩)
    (yd12 : PySem.W.codeIn K cdI12 "BadRemedies.__init__" = true)
    (yj12 : PySem.W.keepIn K (.ref fI12) = true)
    (yx13 : K.lookup xC13 = some (excClassObj xm13 xq13 xC13 xN13 xb13 [.ref xC21, .type "ValueError", .type "Exception", .type "BaseException", .type "object"] true xs13 xu13 xv13 xo13 xw13 xka13 xkb13 xkc13 xkd13 xke13 "ValueError.__new__"))
    (ys13 : PySem.W.findIn K (.ref xC13) "__setattr__" = some (some (.builtin "object.__setattr__")))
    (yg13 : PySem.W.findIn K (.ref xC13) "__getattribute__" = some (some (.builtin "BaseException.__getattribute__")))
    (yh13 : PySem.W.findIn K (.ref xC13) "__getattr__" = some none)
    (yc13 : PySem.W.findIn K (.ref xC13) "__class__" = some (some (.builtin "object.__class__")))
    (yk13 : PySem.W.keepIn K (.ref xC13) = true)
    (yn13 : PySem.W.findIn K (.ref xC13) "remedy" = some none)
    (yi13 : PySem.W.findIn K (.ref xC13) "__init__" = some (some (.ref fI13)))
    (yt13 : PySem.W.typeIn K (.ref fI13) = some (.type "function"))
    (yl13 : K.lookup fI13 = some ⟨ocI13, odI13, .func (PySem.W.fnOf "__init__" "NotThere.__init__" (defArgs stI13) (defBody stI13) (defScope stI13) .none kVI13 dcI13 pmI13 anI13 cdI13 ctI13), slI13⟩)
    (yd13 : PySem.W.codeIn K cdI13 "NotThere.__init__" = true)
    (yj13 : PySem.W.keepIn K (.ref fI13) = true)
    (yx14 : K.lookup xC14 = some (excClassObj xm14 xq14 xC14 xN14 xb14 [.ref xC21, .type "ValueError", .type "Exception", .type "BaseException", .type "object"] true xs14 xu14 xv14 xo14 xw14 xka14 xkb14 xkc14 xkd14 xke14 "ValueError.__new__"))
    (ys14 : PySem.W.findIn K (.ref xC14) "__setattr__" = some (some (.builtin "object.__setattr__")))
    (yg14 : PySem.W.findIn K (.ref xC14) "__getattribute__" = some (some (.builtin "BaseException.__getattribute__")))
    (yh14 : PySem.W.findIn K (.ref xC14) "__getattr__" = some none)
    (yc14 : PySem.W.findIn K (.ref xC14) "__class__" = some (some (.builtin "object.__class__")))
    (yk14 : PySem.W.keepIn K (.ref xC14) = true)
    (yn14 : PySem.W.findIn K (.ref xC14) "number" = some none)
    (yi14 : PySem.W.findIn K (.ref xC14) "__init__" = some (some (.ref fI14)))
    (yt14 : PySem.W.typeIn K (.ref fI14) = some (.type "function"))
    (yl14 : K.lookup fI14 = some ⟨ocI14, odI14, .func (PySem.W.fnOf "__init__" "NoNumber.__init__" (defArgs stI14) (defBody stI14) (defScope stI14) .none kVI14 dcI14 pmI14 anI14 cdI14 ctI14), slI14⟩)
    (yd14 : PySem.W.codeIn K cdI14 "NoNumber.__init__" = true)
    (yj14 : PySem.W.keepIn K (.ref fI14) = true)
    (yx15 : K.lookup xC15 = some (excClassObj xm15 xq15 xC15 xN15 xb15 [.ref xC21, .type "ValueError", .type "Exception", .type "BaseException", .type "object"] true xs15 xu15 xv15 xo15 xw15 xka15 xkb15 xkc15 xkd15 xke15 "ValueError.__new__"))
    (ys15 : PySem.W.findIn K (.ref xC15) "__setattr__" = some (some (.builtin "object.__setattr__")))
    (yg15 : PySem.W.findIn K (.ref xC15) "__getattribute__" = some (some (.builtin "BaseException.__getattribute__")))
    (yh15 : PySem.W.findIn K (.ref xC15) "__getattr__" = some none)
    (yc15 : PySem.W.findIn K (.ref xC15) "__class__" = some (some (.builtin "object.__class__")))
    (yk15 : PySem.W.keepIn K (.ref xC15) = true)
    (yn15 : PySem.W.findIn K (.ref xC15) "row" = some none)
    (yi15 : PySem.W.findIn K (.ref xC15) "__init__" = some (some (.ref fI15)))
    (yt15 : PySem.W.typeIn K (.ref fI15) = some (.type "function"))
    (yl15 : K.lookup fI15 = some ⟨ocI15, odI15, .func (PySem.W.fnOf "__init__" "BadText.__init__" (defArgs stI15) (defBody stI15) (defScope stI15) .none kVI15 dcI15 pmI15 anI15 cdI15 ctI15), slI15⟩)
    (yd15 : PySem.W.codeIn K cdI15 "BadText.__init__" = true)
    (yj15 : PySem.W.keepIn K (.ref fI15) = true)
    (yx16 : K.lookup xC16 = some (excClassObj xm16 xq16 xC16 xN16 xb16 [.ref xC21, .type "ValueError", .type "Exception", .type "BaseException", .type "object"] true xs16 xu16 xv16 xo16 xw16 xka16 xkb16 xkc16 xkd16 xke16 "ValueError.__new__"))
    (ys16 : PySem.W.findIn K (.ref xC16) "__setattr__" = some (some (.builtin "object.__setattr__")))
    (yg16 : PySem.W.findIn K (.ref xC16) "__getattribute__" = some (some (.builtin "BaseException.__getattribute__")))
    (yh16 : PySem.W.findIn K (.ref xC16) "__getattr__" = some none)
    (yc16 : PySem.W.findIn K (.ref xC16) "__class__" = some (some (.builtin "object.__class__")))
    (yk16 : PySem.W.keepIn K (.ref xC16) = true)
    (yn16 : PySem.W.findIn K (.ref xC16) "line" = some none)
    (yi16 : PySem.W.findIn K (.ref xC16) "__init__" = some (some (.ref fI16)))
    (yt16 : PySem.W.typeIn K (.ref fI16) = some (.type "function"))
    (yl16 : K.lookup fI16 = some ⟨ocI16, odI16, .func (PySem.W.fnOf "__init__" "BadLine.__init__" (defArgs stI16) (defBody stI16) (defScope stI16) .none kVI16 dcI16 pmI16 anI16 cdI16 ctI16), slI16⟩)
    (yd16 : PySem.W.codeIn K cdI16 "BadLine.__init__" = true)
    (yj16 : PySem.W.keepIn K (.ref fI16) = true)
    (yx17 : K.lookup xC17 = some (excClassObj xm17 xq17 xC17 xN17 xb17 [.ref xC21, .type "ValueError", .type "Exception", .type "BaseException", .type "object"] true xs17 xu17 xv17 xo17 xw17 xka17 xkb17 xkc17 xkd17 xke17 "ValueError.__new__"))
    (ys17 : PySem.W.findIn K (.ref xC17) "__setattr__" = some (some (.builtin "object.__setattr__")))
    (yg17 : PySem.W.findIn K (.ref xC17) "__getattribute__" = some (some (.builtin "BaseException.__getattribute__")))
    (yh17 : PySem.W.findIn K (.ref xC17) "__getattr__" = some none)
    (yc17 : PySem.W.findIn K (.ref xC17) "__class__" = some (some (.builtin "object.__class__")))
    (yk17 : PySem.W.keepIn K (.ref xC17) = true)
    (ye17 : PySem.W.excIn K xC17 [.type "ValueError", .type "Exception", .type "BaseException", .type "object"] "ValueError.__new__" = true)
    (yx18 : K.lookup xC18 = some (excClassObj xm18 xq18 xC18 xN18 xb18 [.ref xC21, .type "ValueError", .type "Exception", .type "BaseException", .type "object"] true xs18 xu18 xv18 xo18 xw18 xka18 xkb18 xkc18 xkd18 xke18 "ValueError.__new__"))
    (ys18 : PySem.W.findIn K (.ref xC18) "__setattr__" = some (some (.builtin "object.__setattr__")))
    (yg18 : PySem.W.findIn K (.ref xC18) "__getattribute__" = some (some (.builtin "BaseException.__getattribute__")))
    (yh18 : PySem.W.findIn K (.ref xC18) "__getattr__" = some none)
    (yc18 : PySem.W.findIn K (.ref xC18) "__class__" = some (some (.builtin "object.__class__")))
    (yk18 : PySem.W.keepIn K (.ref xC18) = true)
    (ye18 : PySem.W.excIn K xC18 [.type "ValueError", .type "Exception", .type "BaseException", .type "object"] "ValueError.__new__" = true)
    (yx19 : K.lookup xC19 = some (excClassObj xm19 xq19 xC19 xN19 xb19 [.ref xC21, .type "ValueError", .type "Exception", .type "BaseException", .type "object"] true xs19 xu19 xv19 xo19 xw19 xka19 xkb19 xkc19 xkd19 xke19 "ValueError.__new__"))
    (ys19 : PySem.W.findIn K (.ref xC19) "__setattr__" = some (some (.builtin "object.__setattr__")))
    (yg19 : PySem.W.findIn K (.ref xC19) "__getattribute__" = some (some (.builtin "BaseException.__getattribute__")))
    (yh19 : PySem.W.findIn K (.ref xC19) "__getattr__" = some none)
    (yc19 : PySem.W.findIn K (.ref xC19) "__class__" = some (some (.builtin "object.__class__")))
    (yk19 : PySem.W.keepIn K (.ref xC19) = true)
    (ye19 : PySem.W.excIn K xC19 [.type "ValueError", .type "Exception", .type "BaseException", .type "object"] "ValueError.__new__" = true)
    (yx20 : K.lookup xC20 = some (excClassObj xm20 xq20 xC20 xN20 xb20 [.ref xC21, .type "ValueError", .type "Exception", .type "BaseException", .type "object"] true xs20 xu20 xv20 xo20 xw20 xka20 xkb20 xkc20 xkd20 xke20 "ValueError.__new__"))
    (ys20 : PySem.W.findIn K (.ref xC20) "__setattr__" = some (some (.builtin "object.__setattr__")))
    (yg20 : PySem.W.findIn K (.ref xC20) "__getattribute__" = some (some (.builtin "BaseException.__getattribute__")))
    (yh20 : PySem.W.findIn K (.ref xC20) "__getattr__" = some none)
    (yc20 : PySem.W.findIn K (.ref xC20) "__class__" = some (some (.builtin "object.__class__")))
    (yk20 : PySem.W.keepIn K (.ref xC20) = true)
    (ye20 : PySem.W.excIn K xC20 [.type "ValueError", .type "Exception", .type "BaseException", .type "object"] "ValueError.__new__" = true)
    (yx21 : K.lookup xC21 = some (excClassObj xm21 xq21 xC21 xN21 xb21 bmF true xs21 xu21 xv21 xo21 xw21 xka21 xkb21 xkc21 xkd21 xke21 "ValueError.__new__"))
    (yV : PySem.W.nsIn K mainGlobals "ValueError" = some none)
    (yN : List.Nodup [xC0, xC1, xC2, xC3, xC4, xC5, xC6, xC7, xC8, xC9, xC10, xC11, xC12, xC13, xC14, xC15, xC16, xC17, xC18, xC19, xC20, xC21])
    : ExsOk K mg cfg.exs := by
  have cf0 : ClsF K xC21 0 xC0 := ⟨ya0, ⟨_, _, _, _, _, _, _, _, _, _, _, _, _, _, yx0⟩, ys0, yg0, yh0, yc0, yk0⟩
  have cf1 : ClsF K xC21 1 xC1 := ⟨ya1, ⟨_, _, _, _, _, _, _, _, _, _, _, _, _, _, yx1⟩, ys1, yg1, yh1, yc1, yk1⟩
  have cf2 : ClsF K xC21 2 xC2 := ⟨ya2, ⟨_, _, _, _, _, _, _, _, _, _, _, _, _, _, yx2⟩, ys2, yg2, yh2, yc2, yk2⟩
  have cf3 : ClsF K xC21 3 xC3 := ⟨ya3, ⟨_, _, _, _, _, _, _, _, _, _, _, _, _, _, yx3⟩, ys3, yg3, yh3, yc3, yk3⟩
  have cf4 : ClsF K xC21 4 xC4 := ⟨ya4, ⟨_, _, _, _, _, _, _, _, _, _, _, _, _, _, yx4⟩, ys4, yg4, yh4, yc4, yk4⟩
  have cf5 : ClsF K xC21 5 xC5 := ⟨ya5, ⟨_, _, _, _, _, _, _, _, _, _, _, _, _, _, yx5⟩, ys5, yg5, yh5, yc5, yk5⟩
  have cf6 : ClsF K xC21 6 xC6 := ⟨ya6, ⟨_, _, _, _, _, _, _, _, _, _, _, _, _, _, yx6⟩, ys6, yg6, yh6, yc6, yk6⟩
  have cf7 : ClsF K xC21 7 xC7 := ⟨ya7, ⟨_, _, _, _, _, _, _, _, _, _, _, _, _, _, yx7⟩, ys7, yg7, yh7, yc7, yk7⟩
  have cf8 : ClsF K xC21 8 xC8 := ⟨ya8, ⟨_, _, _, _, _, _, _, _, _, _, _, _, _, _, yx8⟩, ys8, yg8, yh8, yc8, yk8⟩
  have cf9 : ClsF K xC21 9 xC9 := ⟨ya9, ⟨_, _, _, _, _, _, _, _, _, _, _, _, _, _, yx9⟩, ys9, yg9, yh9, yc9, yk9⟩
  have cf10 : ClsF K xC21 10 xC10 := ⟨ya10, ⟨_, _, _, _, _, _, _, _, _, _, _, _, _, _, yx10⟩, ys10, yg10, yh10, yc10, yk10⟩
  have cf11 : ClsF K xC21 11 xC11 := ⟨ya11, ⟨_, _, _, _, _, _, _, _, _, _, _, _, _, _, yx11⟩, ys11, yg11, yh11, yc11, yk11⟩
  have cf12 : ClsF K xC21 12 xC12 := ⟨ya12, ⟨_, _, _, _, _, _, _, _, _, _, _, _, _, _, yx12⟩, ys12, yg12, yh12, yc12, yk12⟩
  have cf13 : ClsF K xC21 13 xC13 := ⟨ya13, ⟨_, _, _, _, _, _, _, _, _, _, _, _, _, _, yx13⟩, ys13, yg13, yh13, yc13, yk13⟩
  have cf14 : ClsF K xC21 14 xC14 := ⟨ya14, ⟨_, _, _, _, _, _, _, _, _, _, _, _, _, _, yx14⟩, ys14, yg14, yh14, yc14, yk14⟩
  have cf15 : ClsF K xC21 15 xC15 := ⟨ya15, ⟨_, _, _, _, _, _, _, _, _, _, _, _, _, _, yx15⟩, ys15, yg15, yh15, yc15, yk15⟩
  have cf16 : ClsF K xC21 16 xC16 := ⟨ya16, ⟨_, _, _, _, _, _, _, _, _, _, _, _, _, _, yx16⟩, ys16, yg16, yh16, yc16, yk16⟩
  have cf17 : ClsF K xC21 17 xC17 := ⟨ya17, ⟨_, _, _, _, _, _, _, _, _, _, _, _, _, _, yx17⟩, ys17, yg17, yh17, yc17, yk17⟩
  have cf18 : ClsF K xC21 18 xC18 := ⟨ya18, ⟨_, _, _, _, _, _, _, _, _, _, _, _, _, _, yx18⟩, ys18, yg18, yh18, yc18, yk18⟩
  have cf19 : ClsF K xC21 19 xC19 := ⟨ya19, ⟨_, _, _, _, _, _, _, _, _, _, _, _, _, _, yx19⟩, ys19, yg19, yh19, yc19, yk19⟩
  have cf20 : ClsF K xC21 20 xC20 := ⟨ya20, ⟨_, _, _, _, _, _, _, _, _, _, _, _, _, _, yx20⟩, ys20, yg20, yh20, yc20, yk20⟩
  have FI0 := fun_mk (x := "__init__") (st := stI0) yl0 yd0 yj0
  have if0 : InitF K mg 0 xC0 := ⟨yn0, _, _, yi0, yt0, FI0.binds (ps := ["self", "step"]) fun _ _ _ _ _ _ us hl => match us, hl with | [_, _], _ => rfl, kwField FI0 fun _ _ _ _ _ _ _ _ => rfl, fun T P w base => init_ok FI0 scI0 rfl (by decide +kernel) (by decide +kernel) (by decide) (by decide) T yn0⟩
  have FI1 := fun_mk (x := "__init__") (st := stI1) yl1 yd1 yj1
  have if1 : InitF K mg 1 xC1 := ⟨yn1, _, _, yi1, yt1, FI1.binds (ps := ["self", "thread"]) fun _ _ _ _ _ _ us hl => match us, hl with | [_, _], _ => rfl, kwField FI1 fun _ _ _ _ _ _ _ _ => rfl, fun T P w base => init_ok FI1 scI1 rfl (by decide +kernel) (by decide +kernel) (by decide) (by decide) T yn1⟩
  have FI2 := fun_mk (x := "__init__") (st := stI2) yl2 yd2 yj2
  have if2 : InitF K mg 2 xC2 := ⟨yn2, _, _, yi2, yt2, FI2.binds (ps := ["self", "thread"]) fun _ _ _ _ _ _ us hl => match us, hl with | [_, _], _ => rfl, kwField FI2 fun _ _ _ _ _ _ _ _ => rfl, fun T P w base => init_ok FI2 scI2 rfl (by decide +kernel) (by decide +kernel) (by decide) (by decide) T yn2⟩
  have FI3 := fun_mk (x := "__init__") (st := stI3) yl3 yd3 yj3
  have if3 : InitF K mg 3 xC3 := ⟨yn3, _, _, yi3, yt3, FI3.binds (ps := ["self", "thread"]) fun _ _ _ _ _ _ us hl => match us, hl with | [_, _], _ => rfl, kwField FI3 fun _ _ _ _ _ _ _ _ => rfl, fun T P w base => init_ok FI3 scI3 rfl (by decide +kernel) (by decide +kernel) (by decide) (by decide) T yn3⟩
  have FI4 := fun_mk (x := "__init__") (st := stI4) yl4 yd4 yj4
  have if4 : InitF K mg 4 xC4 := ⟨yn4, _, _, yi4, yt4, FI4.binds (ps := ["self", "thread"]) fun _ _ _ _ _ _ us hl => match us, hl with | [_, _], _ => rfl, kwField FI4 fun _ _ _ _ _ _ _ _ => rfl, fun T P w base => init_ok FI4 scI4 rfl (by decide +kernel) (by decide +kernel) (by decide) (by decide) T yn4⟩
  have FI5 := fun_mk (x := "__init__") (st := stI5) yl5 yd5 yj5
  have if5 : InitF K mg 5 xC5 := ⟨yn5, _, _, yi5, yt5, FI5.binds (ps := ["self", "variable"]) fun _ _ _ _ _ _ us hl => match us, hl with | [_, _], _ => rfl, kwField FI5 fun _ _ _ _ _ _ _ _ => rfl, fun T P w base => init_ok FI5 scI5 rfl (by decide +kernel) (by decide +kernel) (by decide) (by decide) T yn5⟩
  have FI6 := fun_mk (x := "__init__") (st := stI6) yl6 yd6 yj6
  have if6 : InitF K mg 6 xC6 := ⟨yn6, _, _, yi6, yt6, FI6.binds (ps := ["self", "variable"]) fun _ _ _ _ _ _ us hl => match us, hl with | [_, _], _ => rfl, kwField FI6 fun _ _ _ _ _ _ _ _ => rfl, fun T P w base => init_ok FI6 scI6 rfl (by decide +kernel) (by decide +kernel) (by decide) (by decide) T yn6⟩
  have FI7 := fun_mk (x := "__init__") (st := stI7) yl7 yd7 yj7
  have if7 : InitF K mg 7 xC7 := ⟨yn7, _, _, yi7, yt7, FI7.binds (ps := ["self", "pair"]) fun _ _ _ _ _ _ us hl => match us, hl with | [_, _], _ => rfl, kwField FI7 fun _ _ _ _ _ _ _ _ => rfl, fun T P w base => init_ok FI7 scI7 rfl (by decide +kernel) (by decide +kernel) (by decide) (by decide) T yn7⟩
  have FI8 := fun_mk (x := "__init__") (st := stI8) yl8 yd8 yj8
  have if8 : InitF K mg 8 xC8 := ⟨yn8, _, _, yi8, yt8, FI8.binds (ps := ["self", "limit"]) fun _ _ _ _ _ _ us hl => match us, hl with | [_, _], _ => rfl, kwField FI8 fun _ _ _ _ _ _ _ _ => rfl, fun T P w base => init_ok FI8 scI8 rfl (by decide +kernel) (by decide +kernel) (by decide) (by decide) T yn8⟩
  have FI9 := fun_mk (x := "__init__") (st := stI9) yl9 yd9 yj9
  have if9 : InitF K mg 9 xC9 := ⟨yn9, _, _, yi9, yt9, FI9.binds (ps := ["self", "limit"]) fun _ _ _ _ _ _ us hl => match us, hl with | [_, _], _ => rfl, kwField FI9 fun _ _ _ _ _ _ _ _ => rfl, fun T P w base => init_ok FI9 scI9 rfl (by decide +kernel) (by decide +kernel) (by decide) (by decide) T yn9⟩
  have FI10 := fun_mk (x := "__init__") (st := stI10) yl10 yd10 yj10
  have if10 : InitF K mg 10 xC10 := ⟨yn10, _, _, yi10, yt10, FI10.binds (ps := ["self", "value"]) fun _ _ _ _ _ _ us hl => match us, hl with | [_, _], _ => rfl, kwField FI10 fun _ _ _ _ _ _ _ _ => rfl, fun T P w base => init_ok FI10 scI10 rfl (by decide +kernel) (by decide +kernel) (by decide) (by decide) T yn10⟩
  have FI11 := fun_mk (x := "__init__") (st := stI11) yl11 yd11 yj11
  have if11 : InitF K mg 11 xC11 := ⟨yn11, _, _, yi11, yt11, FI11.binds (ps := ["self", "value"]) fun _ _ _ _ _ _ us hl => match us, hl with | [_, _], _ => rfl, kwField FI11 fun _ _ _ _ _ _ _ _ => rfl, fun T P w base => init_ok FI11 scI11 rfl (by decide +kernel) (by decide +kernel) (by decide) (by decide) T yn11⟩
  have FI12 := fun_mk (x := "__init__") (st := stI12) yl12 yd12 yj12
  have if12 : InitF K mg 12 xC12 := ⟨yn12, _, _, yi12, yt12, FI12.binds (ps := ["self", "value"]) fun _ _ _ _ _ _ us hl => match us, hl with | [_, _], _ => rfl, kwField FI12 fun _ _ _ _ _ _ _ _ => rfl, fun T P w base => init_ok FI12 scI12 rfl (by decide +kernel) (by decide +kernel) (by decide) (by decide) T yn12⟩
  have FI13 := fun_mk (x := "__init__") (st := stI13) yl13 yd13 yj13
  have if13 : InitF K mg 13 xC13 := ⟨yn13, _, _, yi13, yt13, FI13.binds (ps := ["self", "remedy"]) fun _ _ _ _ _ _ us hl => match us, hl with | [_, _], _ => rfl, kwField FI13 fun _ _ _ _ _ _ _ _ => rfl, fun T P w base => init_ok FI13 scI13 rfl (by decide +kernel) (by decide +kernel) (by decide) (by decide) T yn13⟩
  have FI14 := fun_mk (x := "__init__") (st := stI14) yl14 yd14 yj14
  have if14 : InitF K mg 14 xC14 := ⟨yn14, _, _, yi14, yt14, FI14.binds (ps := ["self", "number"]) fun _ _ _ _ _ _ us hl => match us, hl with | [_, _], _ => rfl, kwField FI14 fun _ _ _ _ _ _ _ _ => rfl, fun T P w base => init_ok FI14 scI14 rfl (by decide +kernel) (by decide +kernel) (by decide) (by decide) T yn14⟩
  have FI15 := fun_mk (x := "__init__") (st := stI15) yl15 yd15 yj15
  have if15 : InitF K mg 15 xC15 := ⟨yn15, _, _, yi15, yt15, FI15.binds (ps := ["self", "row"]) fun _ _ _ _ _ _ us hl => match us, hl with | [_, _], _ => rfl, kwField FI15 fun _ _ _ _ _ _ _ _ => rfl, fun T P w base => init_ok FI15 scI15 rfl (by decide +kernel) (by decide +kernel) (by decide) (by decide) T yn15⟩
  have FI16 := fun_mk (x := "__init__") (st := stI16) yl16 yd16 yj16
  have if16 : InitF K mg 16 xC16 := ⟨yn16, _, _, yi16, yt16, FI16.binds (ps := ["self", "line"]) fun _ _ _ _ _ _ us hl => match us, hl with | [_, _], _ => rfl, kwField FI16 fun _ _ _ _ _ _ _ _ => rfl, fun T P w base => init_ok FI16 scI16 rfl (by decide +kernel) (by decide +kernel) (by decide) (by decide) T yn16⟩
  refine exs_ok X G (Cs := [xC0, xC1, xC2, xC3, xC4, xC5, xC6, xC7, xC8, xC9, xC10, xC11, xC12, xC13, xC14, xC15, xC16, xC17, xC18, xC19, xC20, xC21]) (fun x cl hf => ?_) yN rfl ya21 (by unfold PySem.W.clsIn; rw [yx21]; rfl) (by show (List.lookup xC21 K).map (·.cls) = _; rw [yx21]; rfl) yV (fun cl hl => ?_) (fun cl C e hl => ?_) (fun cl C e h17 hl => ?_)
  · have hm : (x, cl) ∈ cfg.exs := fidOf_mem hf
    simp only [cfg, List.mem_cons, List.not_mem_nil, or_false, Prod.mk.injEq] at hm
    rcases hm with ⟨rfl, rfl⟩ | ⟨rfl, rfl⟩ | ⟨rfl, rfl⟩ | ⟨rfl, rfl⟩ | ⟨rfl, rfl⟩ | ⟨rfl, rfl⟩ | ⟨rfl, rfl⟩ | ⟨rfl, rfl⟩ | ⟨rfl, rfl⟩ | ⟨rfl, rfl⟩ | ⟨rfl, rfl⟩ | ⟨rfl, rfl⟩ | ⟨rfl, rfl⟩ | ⟨rfl, rfl⟩ | ⟨rfl, rfl⟩ | ⟨rfl, rfl⟩ | ⟨rfl, rfl⟩ | ⟨rfl, rfl⟩ | ⟨rfl, rfl⟩ | ⟨rfl, rfl⟩ | ⟨rfl, rfl⟩ | ⟨rfl, rfl⟩
    all_goals exact ⟨rfl, by decide⟩
  · match cl, hl with
    | 0, _ => exact ⟨_, rfl, cf0⟩
    | 1, _ => exact ⟨_, rfl, cf1⟩
    | 2, _ => exact ⟨_, rfl, cf2⟩
    | 3, _ => exact ⟨_, rfl, cf3⟩
    | 4, _ => exact ⟨_, rfl, cf4⟩
    | 5, _ => exact ⟨_, rfl, cf5⟩
    | 6, _ => exact ⟨_, rfl, cf6⟩
    | 7, _ => exact ⟨_, rfl, cf7⟩
    | 8, _ => exact ⟨_, rfl, cf8⟩
    | 9, _ => exact ⟨_, rfl, cf9⟩
    | 10, _ => exact ⟨_, rfl, cf10⟩
    | 11, _ => exact ⟨_, rfl, cf11⟩
    | 12, _ => exact ⟨_, rfl, cf12⟩
    | 13, _ => exact ⟨_, rfl, cf13⟩
    | 14, _ => exact ⟨_, rfl, cf14⟩
    | 15, _ => exact ⟨_, rfl, cf15⟩
    | 16, _ => exact ⟨_, rfl, cf16⟩
    | 17, _ => exact ⟨_, rfl, cf17⟩
    | 18, _ => exact ⟨_, rfl, cf18⟩
    | 19, _ => exact ⟨_, rfl, cf19⟩
    | 20, _ => exact ⟨_, rfl, cf20⟩
    | n + 21, h => exact absurd h (by omega)
  · match cl, e, hl with
    | 0, e, _ =>
      have e : some xC0 = some C := e
      cases e
      exact if0
    | 1, e, _ =>
      have e : some xC1 = some C := e
      cases e
      exact if1
    | 2, e, _ =>
      have e : some xC2 = some C := e
      cases e
      exact if2
    | 3, e, _ =>
      have e : some xC3 = some C := e
      cases e
      exact if3
    | 4, e, _ =>
      have e : some xC4 = some C := e
      cases e
      exact if4
    | 5, e, _ =>
      have e : some xC5 = some C := e
      cases e
      exact if5
    | 6, e, _ =>
      have e : some xC6 = some C := e
      cases e
      exact if6
    | 7, e, _ =>
      have e : some xC7 = some C := e
      cases e
      exact if7
    | 8, e, _ =>
      have e : some xC8 = some C := e
      cases e
      exact if8
    | 9, e, _ =>
      have e : some xC9 = some C := e
      cases e
      exact if9
    | 10, e, _ =>
      have e : some xC10 = some C := e
      cases e
      exact if10
    | 11, e, _ =>
      have e : some xC11 = some C := e
      cases e
      exact if11
    | 12, e, _ =>
      have e : some xC12 = some C := e
      cases e
      exact if12
    | 13, e, _ =>
      have e : some xC13 = some C := e
      cases e
      exact if13
    | 14, e, _ =>
      have e : some xC14 = some C := e
      cases e
      exact if14
    | 15, e, _ =>
      have e : some xC15 = some C := e
      cases e
      exact if15
    | 16, e, _ =>
      have e : some xC16 = some C := e
      cases e
      exact if16
    | n + 17, _, h => exact absurd h (by omega)
  · match cl, e, h17, hl with
    | 0, _, h, _ => exact absurd h (by omega)
    | 1, _, h, _ => exact absurd h (by omega)
    | 2, _, h, _ => exact absurd h (by omega)
    | 3, _, h, _ => exact absurd h (by omega)
    | 4, _, h, _ => exact absurd h (by omega)
    | 5, _, h, _ => exact absurd h (by omega)
    | 6, _, h, _ => exact absurd h (by omega)
    | 7, _, h, _ => exact absurd h (by omega)
    | 8, _, h, _ => exact absurd h (by omega)
    | 9, _, h, _ => exact absurd h (by omega)
    | 10, _, h, _ => exact absurd h (by omega)
    | 11, _, h, _ => exact absurd h (by omega)
    | 12, _, h, _ => exact absurd h (by omega)
    | 13, _, h, _ => exact absurd h (by omega)
    | 14, _, h, _ => exact absurd h (by omega)
    | 15, _, h, _ => exact absurd h (by omega)
    | 16, _, h, _ => exact absurd h (by omega)
    | 17, e, _, _ =>
      have e : some xC17 = some C := e
      cases e
      exact ye17
    | 18, e, _, _ =>
      have e : some xC18 = some C := e
      cases e
      exact ye18
    | 19, e, _, _ =>
      have e : some xC19 = some C := e
      cases e
      exact ye19
    | 20, e, _, _ =>
      have e : some xC20 = some C := e
      cases e
      exact ye20
    | n + 21, _, _, h => exact absurd h (by omega)
theorem top_mk {K : PySem.W.Frag} {h : Heap} {mg : Str → Option Value} (X : K.In h) (G : h.Ns mainGlobals mg) (EX : ExsOk K mg cfg.exs)
    {f0 f1 f2 f3 f4 f5 f6 f7 f8 f9 : Addr} {od0 an0 od1 an1 od2 an2 od3 an3 od4 an4 od5 an5 od6 an6 od7 an7 od8 an8 od9 an9 : Option Addr} {sl0 sl1 sl2 sl3 sl4 sl5 sl6 sl7 sl8 sl9 : Array (Option Value)} {oc0 kV0 dc0 pm0 cd0 ct0 oc1 kV1 dc1 pm1 cd1 ct1 oc2 kV2 dc2 pm2 cd2 ct2 oc3 kV3 dc3 pm3 cd3 ct3 oc4 kV4 dc4 pm4 cd4 ct4 oc5 kV5 dc5 pm5 cd5 ct5 oc6 kV6 dc6 pm6 cd6 ct6 oc7 kV7 dc7 pm7 cd7 ct7 oc8 kV8 dc8 pm8 cd8 ct8 oc9 kV9 dc9 pm9 cd9 ct9 : Value}
    (a0 : PySem.W.nsIn K mainGlobals "_law_urn" = some (some (.ref f0))) (l0 : K.lookup f0 = some ⟨oc0, od0, .func (PySem.W.fnOf "_law_urn" "_law_urn" (defArgs (topS 24)) (defBody (topS 24)) (defScope (topS 24)) .none kV0 dc0 pm0 an0 cd0 ct0), sl0⟩) (c0 : PySem.W.codeIn K cd0 "_law_urn" = true) (k0 : PySem.W.keepIn K (.ref f0) = true)
    (a1 : PySem.W.nsIn K mainGlobals "_law_take" = some (some (.ref f1))) (l1 : K.lookup f1 = some ⟨oc1, od1, .func (PySem.W.fnOf "_law_take" "_law_take" (defArgs (topS 25)) (defBody (topS 25)) (defScope (topS 25)) .none kV1 dc1 pm1 an1 cd1 ct1), sl1⟩) (c1 : PySem.W.codeIn K cd1 "_law_take" = true) (k1 : PySem.W.keepIn K (.ref f1) = true)
    (a2 : PySem.W.nsIn K mainGlobals "_law_of" = some (some (.ref f2))) (l2 : K.lookup f2 = some ⟨oc2, od2, .func (PySem.W.fnOf "_law_of" "_law_of" (defArgs (topS 26)) (defBody (topS 26)) (defScope (topS 26)) .none kV2 dc2 pm2 an2 cd2 ct2), sl2⟩) (c2 : PySem.W.codeIn K cd2 "_law_of" = true) (k2 : PySem.W.keepIn K (.ref f2) = true)
    (a3 : PySem.W.nsIn K mainGlobals "_law_odd" = some (some (.ref f3))) (l3 : K.lookup f3 = some ⟨oc3, od3, .func (PySem.W.fnOf "_law_odd" "_law_odd" (defArgs (topS 27)) (defBody (topS 27)) (defScope (topS 27)) .none kV3 dc3 pm3 an3 cd3 ct3), sl3⟩) (c3 : PySem.W.codeIn K cd3 "_law_odd" = true) (k3 : PySem.W.keepIn K (.ref f3) = true)
    (a4 : PySem.W.nsIn K mainGlobals "_law_sorts" = some (some (.ref f4))) (l4 : K.lookup f4 = some ⟨oc4, od4, .func (PySem.W.fnOf "_law_sorts" "_law_sorts" (defArgs (topS 28)) (defBody (topS 28)) (defScope (topS 28)) .none kV4 dc4 pm4 an4 cd4 ct4), sl4⟩) (c4 : PySem.W.codeIn K cd4 "_law_sorts" = true) (k4 : PySem.W.keepIn K (.ref f4) = true)
    (a5 : PySem.W.nsIn K mainGlobals "_law_made" = some (some (.ref f5))) (l5 : K.lookup f5 = some ⟨oc5, od5, .func (PySem.W.fnOf "_law_made" "_law_made" (defArgs (topS 29)) (defBody (topS 29)) (defScope (topS 29)) .none kV5 dc5 pm5 an5 cd5 ct5), sl5⟩) (c5 : PySem.W.codeIn K cd5 "_law_made" = true) (k5 : PySem.W.keepIn K (.ref f5) = true)
    (a6 : PySem.W.nsIn K mainGlobals "_law_named" = some (some (.ref f6))) (l6 : K.lookup f6 = some ⟨oc6, od6, .func (PySem.W.fnOf "_law_named" "_law_named" (defArgs (topS 30)) (defBody (topS 30)) (defScope (topS 30)) .none kV6 dc6 pm6 an6 cd6 ct6), sl6⟩) (c6 : PySem.W.codeIn K cd6 "_law_named" = true) (k6 : PySem.W.keepIn K (.ref f6) = true)
    (a7 : PySem.W.nsIn K mainGlobals "_law_kept" = some (some (.ref f7))) (l7 : K.lookup f7 = some ⟨oc7, od7, .func (PySem.W.fnOf "_law_kept" "_law_kept" (defArgs (topS 31)) (defBody (topS 31)) (defScope (topS 31)) .none kV7 dc7 pm7 an7 cd7 ct7), sl7⟩) (c7 : PySem.W.codeIn K cd7 "_law_kept" = true) (k7 : PySem.W.keepIn K (.ref f7) = true)
    (a8 : PySem.W.nsIn K mainGlobals "_law_right" = some (some (.ref f8))) (l8 : K.lookup f8 = some ⟨oc8, od8, .func (PySem.W.fnOf "_law_right" "_law_right" (defArgs (topS 32)) (defBody (topS 32)) (defScope (topS 32)) .none kV8 dc8 pm8 an8 cd8 ct8), sl8⟩) (c8 : PySem.W.codeIn K cd8 "_law_right" = true) (k8 : PySem.W.keepIn K (.ref f8) = true)
    (a9 : PySem.W.nsIn K mainGlobals "law" = some (some (.ref f9))) (l9 : K.lookup f9 = some ⟨oc9, od9, .func (PySem.W.fnOf "law" "law" (defArgs (topS 33)) (defBody (topS 33)) (defScope (topS 33)) .none kV9 dc9 pm9 an9 cd9 ct9), sl9⟩) (c9 : PySem.W.codeIn K cd9 "law" = true) (k9 : PySem.W.keepIn K (.ref f9) = true)
    (z_len : PySem.W.nsIn K mainGlobals "len" = some none)
    (z_repr : PySem.W.nsIn K mainGlobals "repr" = some none)
    (z_abs : PySem.W.nsIn K mainGlobals "abs" = some none)
    (z_int : PySem.W.nsIn K mainGlobals "int" = some none)
    (z_str : PySem.W.nsIn K mainGlobals "str" = some none)
    (z_list : PySem.W.nsIn K mainGlobals "list" = some none)
    (z_tuple : PySem.W.nsIn K mainGlobals "tuple" = some none)
    (z_all : PySem.W.nsIn K mainGlobals "all" = some none)
    (z_any : PySem.W.nsIn K mainGlobals "any" = some none)
    (z_max : PySem.W.nsIn K mainGlobals "max" = some none)
    (z_min : PySem.W.nsIn K mainGlobals "min" = some none)
    (z_range : PySem.W.nsIn K mainGlobals "range" = some none)
    (z_isinstance : PySem.W.nsIn K mainGlobals "isinstance" = some none)
    (z_bool : PySem.W.nsIn K mainGlobals "bool" = some none)
    (z_dict : PySem.W.nsIn K mainGlobals "dict" = some none)
    (z_sorted : PySem.W.nsIn K mainGlobals "sorted" = some none)
    (z_set : PySem.W.nsIn K mainGlobals "set" = some none)
    (z_enumerate : PySem.W.nsIn K mainGlobals "enumerate" = some none)
    (z_zip : PySem.W.nsIn K mainGlobals "zip" = some none)
    (z_sum : PySem.W.nsIn K mainGlobals "sum" = some none)
    : TopOk K mg cfg fnsL := by
  refine ⟨blt_all (PySem.W.mg_none_of X G z_len) (PySem.W.mg_none_of X G z_repr) (PySem.W.mg_none_of X G z_abs) (PySem.W.mg_none_of X G z_int) (PySem.W.mg_none_of X G z_str) (PySem.W.mg_none_of X G z_list) (PySem.W.mg_none_of X G z_tuple) (PySem.W.mg_none_of X G z_all) (PySem.W.mg_none_of X G z_any) (PySem.W.mg_none_of X G z_max) (PySem.W.mg_none_of X G z_min) (PySem.W.mg_none_of X G z_range) (PySem.W.mg_none_of X G z_isinstance) (PySem.W.mg_none_of X G z_bool) (PySem.W.mg_none_of X G z_dict) (PySem.W.mg_none_of X G z_sorted) (PySem.W.mg_none_of X G z_set) (PySem.W.mg_none_of X G z_enumerate) (PySem.W.mg_none_of X G z_zip) (PySem.W.mg_none_of X G z_sum), fun x d hx => ?_, EX, fun i x hi => ?_⟩
  · cases hx
  · have hm : (x, i) ∈ cfg.fns := fidOf_mem hi
    simp only [cfg, List.mem_cons, List.not_mem_nil, or_false] at hm
    clear hi
    rcases hm with hm | hm | hm | hm | hm | hm | hm | hm | hm | hm
    · obtain ⟨rfl, rfl⟩ := Prod.mk.inj hm
      have F := fun_mk (st := topS 24) l0 c0 k0
      refine ⟨f_law_urn, rfl, ⟨f0, _, n0, ["_law_script", "_law_k"], ["return"], _, topS 24, PySem.W.mg_of X G a0, k0, F, sc0, rfl, rfl, sc0.nd, cv0, (fun z => absurd z (by decide)), F.binds (ps := ["_law_script", "_law_k"]) fun _ _ _ _ _ _ us hl => match us, hl with | [_, _], _ => rfl, fun np ks p hw => ?_⟩⟩
      simp only [cfg, List.mem_cons, List.not_mem_nil, or_false, Prod.mk.injEq, Nat.reduceEqDiff, false_and, false_or, or_false, true_and] at hw
      try exact hw.elim
    · obtain ⟨rfl, rfl⟩ := Prod.mk.inj hm
      have F := fun_mk (st := topS 25) l1 c1 k1
      refine ⟨f_law_take, rfl, ⟨f1, _, n1, ["_law_urn_here", "_law_many"], [], _, topS 25, PySem.W.mg_of X G a1, k1, F, sc1, rfl, rfl, sc1.nd, cv1, (fun z => absurd z (by decide)), F.binds (ps := ["_law_urn_here", "_law_many"]) fun _ _ _ _ _ _ us hl => match us, hl with | [_, _], _ => rfl, fun np ks p hw => ?_⟩⟩
      simp only [cfg, List.mem_cons, List.not_mem_nil, or_false, Prod.mk.injEq, Nat.reduceEqDiff, false_and, false_or, or_false, true_and] at hw
      try exact hw.elim
    · obtain ⟨rfl, rfl⟩ := Prod.mk.inj hm
      have F := fun_mk (st := topS 26) l2 c2 k2
      refine ⟨f_law_of, rfl, ⟨f2, _, n2, ["_law_urn_here", "_law_some"], [], _, topS 26, PySem.W.mg_of X G a2, k2, F, sc2, rfl, rfl, sc2.nd, cv2, (fun z => absurd z (by decide)), F.binds (ps := ["_law_urn_here", "_law_some"]) fun _ _ _ _ _ _ us hl => match us, hl with | [_, _], _ => rfl, fun np ks p hw => ?_⟩⟩
      simp only [cfg, List.mem_cons, List.not_mem_nil, or_false, Prod.mk.injEq, Nat.reduceEqDiff, false_and, false_or, or_false, true_and] at hw
      try exact hw.elim
    · obtain ⟨rfl, rfl⟩ := Prod.mk.inj hm
      have F := fun_mk (st := topS 27) l3 c3 k3
      refine ⟨f_law_odd, rfl, ⟨f3, _, n3, ["_law_urn_here"], [], _, topS 27, PySem.W.mg_of X G a3, k3, F, sc3, rfl, rfl, sc3.nd, cv3, (fun z => absurd z (by decide)), F.binds (ps := ["_law_urn_here"]) fun _ _ _ _ _ _ us hl => match us, hl with | [_], _ => rfl, fun np ks p hw => ?_⟩⟩
      simp only [cfg, List.mem_cons, List.not_mem_nil, or_false, Prod.mk.injEq, Nat.reduceEqDiff, false_and, false_or, or_false, true_and] at hw
      try exact hw.elim
    · obtain ⟨rfl, rfl⟩ := Prod.mk.inj hm
      have F := fun_mk (st := topS 28) l4 c4 k4
      refine ⟨f_law_sorts, rfl, ⟨f4, _, n4, ["_law_error"], [], _, topS 28, PySem.W.mg_of X G a4, k4, F, sc4, rfl, rfl, sc4.nd, cv4, (fun z => absurd z (by decide)), F.binds (ps := ["_law_error"]) fun _ _ _ _ _ _ us hl => match us, hl with | [_], _ => rfl, fun np ks p hw => ?_⟩⟩
      simp only [cfg, List.mem_cons, List.not_mem_nil, or_false, Prod.mk.injEq, Nat.reduceEqDiff, false_and, false_or, or_false, true_and] at hw
      try exact hw.elim
    · obtain ⟨rfl, rfl⟩ := Prod.mk.inj hm
      have F := fun_mk (st := topS 29) l5 c5 k5
      refine ⟨f_law_made, rfl, ⟨f5, _, n5, ["_law_thing"], [], _, topS 29, PySem.W.mg_of X G a5, k5, F, sc5, rfl, rfl, sc5.nd, cv5, (fun z => absurd z (by decide)), F.binds (ps := ["_law_thing"]) fun _ _ _ _ _ _ us hl => match us, hl with | [_], _ => rfl, fun np ks p hw => ?_⟩⟩
      simp only [cfg, List.mem_cons, List.not_mem_nil, or_false, Prod.mk.injEq, Nat.reduceEqDiff, false_and, false_or, or_false, true_and] at hw
      try exact hw.elim
    · obtain ⟨rfl, rfl⟩ := Prod.mk.inj hm
      have F := fun_mk (st := topS 30) l6 c6 k6
      refine ⟨f_law_named, rfl, ⟨f6, _, n6, ["_law_thing"], [], _, topS 30, PySem.W.mg_of X G a6, k6, F, sc6, rfl, rfl, sc6.nd, cv6, (fun z => absurd z (by decide)), F.binds (ps := ["_law_thing"]) fun _ _ _ _ _ _ us hl => match us, hl with | [_], _ => rfl, fun np ks p hw => ?_⟩⟩
      simp only [cfg, List.mem_cons, List.not_mem_nil, or_false, Prod.mk.injEq, Nat.reduceEqDiff, false_and, false_or, or_false, true_and] at hw
      try exact hw.elim
    · obtain ⟨rfl, rfl⟩ := Prod.mk.inj hm
      have F := fun_mk (st := topS 31) l7 c7 k7
      refine ⟨f_law_kept, rfl, ⟨f7, _, n7, ["_law_made_here"], [], _, topS 31, PySem.W.mg_of X G a7, k7, F, sc7, rfl, rfl, sc7.nd, cv7, (fun z => absurd z (by decide)), F.binds (ps := ["_law_made_here"]) fun _ _ _ _ _ _ us hl => match us, hl with | [_], _ => rfl, fun np ks p hw => ?_⟩⟩
      simp only [cfg, List.mem_cons, List.not_mem_nil, or_false, Prod.mk.injEq, Nat.reduceEqDiff, false_and, false_or, or_false, true_and] at hw
      try exact hw.elim
    · obtain ⟨rfl, rfl⟩ := Prod.mk.inj hm
      have F := fun_mk (st := topS 32) l8 c8 k8
      refine ⟨f_law_right_14, rfl, ⟨f8, _, n8, ["_law_urn_here"], [], _, topS 32, PySem.W.mg_of X G a8, k8, F, sc8, rfl, rfl, sc8.nd, cv8, (fun z => absurd z (by decide)), F.binds (ps := ["_law_urn_here"]) fun _ _ _ _ _ _ us hl => match us, hl with | [_], _ => rfl, fun np ks p hw => ?_⟩⟩
      simp only [cfg, List.mem_cons, List.not_mem_nil, or_false, Prod.mk.injEq, Nat.reduceEqDiff, false_and, false_or, or_false, true_and] at hw
      try exact hw.elim
    · obtain ⟨rfl, rfl⟩ := Prod.mk.inj hm
      have F := fun_mk (st := topS 33) l9 c9 k9
      refine ⟨f_law_14, rfl, ⟨f9, _, n9, ["_law_script"], [], _, topS 33, PySem.W.mg_of X G a9, k9, F, sc9, rfl, rfl, sc9.nd, cv9, (fun z => absurd z (by decide)), F.binds (ps := ["_law_script"]) fun _ _ _ _ _ _ us hl => match us, hl with | [_], _ => rfl, fun np ks p hw => ?_⟩⟩
      simp only [cfg, List.mem_cons, List.not_mem_nil, or_false, Prod.mk.injEq, Nat.reduceEqDiff, false_and, false_or, or_false, true_and] at hw
      try exact hw.elim
end Ev
open PySem PySem.W PyProof.Rows in
set_option maxRecDepth 100000 in
set_option maxHeartbeats 0 in
theorem PySem.Challenge.cw_ringfences_k04_errors_by_themselves_holds : PySem.Challenge.rw_ringfences_k04_errors_by_themselves.Holds := by
  w_on; o_law; k_head; (case hw => w_witness2)
  k_fill
  refine Ev.walk_g (l := PySem.Challenge.rw_ringfences_k04_errors_by_themselves) (G := Ev.cfg) (kw := Ev.kwL) (fns := Ev.fnsL) (k := 200) (i := 139) rfl rfl ⟨rfl, by decide, by decide⟩ (fun w h Y => PySem.W.kIn_of Y) rfl ?F Ev.law_true
  case F =>
    intro w mg h KX G
    refine' Ev.top_mk KX G (Ev.exs_mk KX G ?ya0 ?ya1 ?ya2 ?ya3 ?ya4 ?ya5 ?ya6 ?ya7 ?ya8 ?ya9 ?ya10 ?ya11 ?ya12 ?ya13 ?ya14 ?ya15 ?ya16 ?ya17 ?ya18 ?ya19 ?ya20 ?ya21 ?yx0 ?ys0 ?yg0 ?yh0 ?yc0 ?yk0 ?yn0 ?yi0 ?yt0 ?yl0 ?yd0 ?yj0 ?yx1 ?ys1 ?yg1 ?yh1 ?yc1 ?yk1 ?yn1 ?yi1 ?yt1 ?yl1 ?yd1 ?yj1 ?yx2 ?ys2 ?yg2 ?yh2 ?yc2 ?yk2 ?yn2 ?yi2 ?yt2 ?yl2 ?yd2 ?yj2 ?yx3 ?ys3 ?yg3 ?yh3 ?yc3 ?yk3 ?yn3 ?yi3 ?yt3 ?yl3 ?yd3 ?yj3 ?yx4 ?ys4 ?yg4 ?yh4 ?yc4 ?yk4 ?yn4 ?yi4 ?yt4 ?yl4 ?yd4 ?yj4 ?yx5 ?ys5 ?yg5 ?yh5 ?yc5 ?yk5 ?yn5 ?yi5 ?yt5 ?yl5 ?yd5 ?yj5 ?yx6 ?ys6 ?yg6 ?yh6 ?yc6 ?yk6 ?yn6 ?yi6 ?yt6 ?yl6 ?yd6 ?yj6 ?yx7 ?ys7 ?yg7 ?yh7 ?yc7 ?yk7 ?yn7 ?yi7 ?yt7 ?yl7 ?yd7 ?yj7 ?yx8 ?ys8 ?yg8 ?yh8 ?yc8 ?yk8 ?yn8 ?yi8 ?yt8 ?yl8 ?yd8 ?yj8 ?yx9 ?ys9 ?yg9 ?yh9 ?yc9 ?yk9 ?yn9 ?yi9 ?yt9 ?yl9 ?yd9 ?yj9 ?yx10 ?ys10 ?yg10 ?yh10 ?yc10 ?yk10 ?yn10 ?yi10 ?yt10 ?yl10 ?yd10 ?yj10 ?yx11 ?ys11 ?yg11 ?yh11 ?yc11 ?yk11 ?yn11 ?yi11 ?yt11 ?yl11 ?yd11 ?yj11 ?yx12 ?ys12 ?yg12 ?yh12 ?yc12 ?yk12 ?yn12 ?yi12 ?yt12 ?yl12 ?yd12 ?yj12 ?yx13 ?ys13 ?yg13 ?yh13 ?yc13 ?yk13 ?yn13 ?yi13 ?yt13 ?yl13 ?yd13 ?yj13 ?yx14 ?ys14 ?yg14 ?yh14 ?yc14 ?yk14 ?yn14 ?yi14 ?yt14 ?yl14 ?yd14 ?yj14 ?yx15 ?ys15 ?yg15 ?yh15 ?yc15 ?yk15 ?yn15 ?yi15 ?yt15 ?yl15 ?yd15 ?yj15 ?yx16 ?ys16 ?yg16 ?yh16 ?yc16 ?yk16 ?yn16 ?yi16 ?yt16 ?yl16 ?yd16 ?yj16 ?yx17 ?ys17 ?yg17 ?yh17 ?yc17 ?yk17 ?ye17 ?yx18 ?ys18 ?yg18 ?yh18 ?yc18 ?yk18 ?ye18 ?yx19 ?ys19 ?yg19 ?yh19 ?yc19 ?yk19 ?ye19 ?yx20 ?ys20 ?yg20 ?yh20 ?yc20 ?yk20 ?ye20 ?yx21 ?yV ?yN) ?a0 ?l0 ?c0 ?k0 ?a1 ?l1 ?c1 ?k1 ?a2 ?l2 ?c2 ?k2 ?a3 ?l3 ?c3 ?k3 ?a4 ?l4 ?c4 ?k4 ?a5 ?l5 ?c5 ?k5 ?a6 ?l6 ?c6 ?k6 ?a7 ?l7 ?c7 ?k7 ?a8 ?l8 ?c8 ?k8 ?a9 ?l9 ?c9 ?k9 ?z_len ?z_repr ?z_abs ?z_int ?z_str ?z_list ?z_tuple ?z_all ?z_any ?z_max ?z_min ?z_range ?z_isinstance ?z_bool ?z_dict ?z_sorted ?z_set ?z_enumerate ?z_zip ?z_sum
    (case ya0 => k_is)
    (case ya1 => k_is)
    (case ya2 => k_is)
    (case ya3 => k_is)
    (case ya4 => k_is)
    (case ya5 => k_is)
    (case ya6 => k_is)
    (case ya7 => k_is)
    (case ya8 => k_is)
    (case ya9 => k_is)
    (case ya10 => k_is)
    (case ya11 => k_is)
    (case ya12 => k_is)
    (case ya13 => k_is)
    (case ya14 => k_is)
    (case ya15 => k_is)
    (case ya16 => k_is)
    (case ya17 => k_is)
    (case ya18 => k_is)
    (case ya19 => k_is)
    (case ya20 => k_is)
    (case ya21 => k_is)
    (case yx0 => k_is)
    (case ys0 => k_is)
    (case yg0 => k_is)
    (case yh0 => k_is)
    (case yc0 => k_is)
    (case yk0 => k_is)
    (case yn0 => k_is)
    (case yi0 => k_is)
    (case yt0 => k_is)
    (case yl0 => k_is)
    (case yd0 => k_is)
    (case yj0 => k_is)
    (case yx1 => k_is)
    (case ys1 => k_is)
    (case yg1 => k_is)
    (case yh1 => k_is)
    (case yc1 => k_is)
    (case yk1 => k_is)
    (case yn1 => k_is)
    (case yi1 => k_is)
    (case yt1 => k_is)
    (case yl1 => k_is)
    (case yd1 => k_is)
    (case yj1 => k_is)
    (case yx2 => k_is)
    (case ys2 => k_is)
    (case yg2 => k_is)
    (case yh2 => k_is)
    (case yc2 => k_is)
    (case yk2 => k_is)
    (case yn2 => k_is)
    (case yi2 => k_is)
    (case yt2 => k_is)
    (case yl2 => k_is)
    (case yd2 => k_is)
    (case yj2 => k_is)
    (case yx3 => k_is)
    (case ys3 => k_is)
    (case yg3 => k_is)
    (case yh3 => k_is)
    (case yc3 => k_is)
    (case yk3 => k_is)
    (case yn3 => k_is)
    (case yi3 => k_is)
    (case yt3 => k_is)
    (case yl3 => k_is)
    (case yd3 => k_is)
    (case yj3 => k_is)
    (case yx4 => k_is)
    (case ys4 => k_is)
    (case yg4 => k_is)
    (case yh4 => k_is)
    (case yc4 => k_is)
    (case yk4 => k_is)
    (case yn4 => k_is)
    (case yi4 => k_is)
    (case yt4 => k_is)
    (case yl4 => k_is)
    (case yd4 => k_is)
    (case yj4 => k_is)
    (case yx5 => k_is)
    (case ys5 => k_is)
    (case yg5 => k_is)
    (case yh5 => k_is)
    (case yc5 => k_is)
    (case yk5 => k_is)
    (case yn5 => k_is)
    (case yi5 => k_is)
    (case yt5 => k_is)
    (case yl5 => k_is)
    (case yd5 => k_is)
    (case yj5 => k_is)
    (case yx6 => k_is)
    (case ys6 => k_is)
    (case yg6 => k_is)
    (case yh6 => k_is)
    (case yc6 => k_is)
    (case yk6 => k_is)
    (case yn6 => k_is)
    (case yi6 => k_is)
    (case yt6 => k_is)
    (case yl6 => k_is)
    (case yd6 => k_is)
    (case yj6 => k_is)
    (case yx7 => k_is)
    (case ys7 => k_is)
    (case yg7 => k_is)
    (case yh7 => k_is)
    (case yc7 => k_is)
    (case yk7 => k_is)
    (case yn7 => k_is)
    (case yi7 => k_is)
    (case yt7 => k_is)
    (case yl7 => k_is)
    (case yd7 => k_is)
    (case yj7 => k_is)
    (case yx8 => k_is)
    (case ys8 => k_is)
    (case yg8 => k_is)
    (case yh8 => k_is)
    (case yc8 => k_is)
    (case yk8 => k_is)
    (case yn8 => k_is)
    (case yi8 => k_is)
    (case yt8 => k_is)
    (case yl8 => k_is)
    (case yd8 => k_is)
    (case yj8 => k_is)
    (case yx9 => k_is)
    (case ys9 => k_is)
    (case yg9 => k_is)
    (case yh9 => k_is)
    (case yc9 => k_is)
    (case yk9 => k_is)
    (case yn9 => k_is)
    (case yi9 => k_is)
    (case yt9 => k_is)
    (case yl9 => k_is)
    (case yd9 => k_is)
    (case yj9 => k_is)
    (case yx10 => k_is)
    (case ys10 => k_is)
    (case yg10 => k_is)
    (case yh10 => k_is)
    (case yc10 => k_is)
    (case yk10 => k_is)
    (case yn10 => k_is)
    (case yi10 => k_is)
    (case yt10 => k_is)
    (case yl10 => k_is)
    (case yd10 => k_is)
    (case yj10 => k_is)
    (case yx11 => k_is)
    (case ys11 => k_is)
    (case yg11 => k_is)
    (case yh11 => k_is)
    (case yc11 => k_is)
    (case yk11 => k_is)
    (case yn11 => k_is)
    (case yi11 => k_is)
    (case yt11 => k_is)
    (case yl11 => k_is)
    (case yd11 => k_is)
    (case yj11 => k_is)
    (case yx12 => k_is)
    (case ys12 => k_is)
    (case yg12 => k_is)
    (case yh12 => k_is)
    (case yc12 => k_is)
    (case yk12 => k_is)
    (case yn12 => k_is)
    (case yi12 => k_is)
    (case yt12 => k_is)
    (case yl12 => k_is)
    (case yd12 => k_is)
    (case yj12 => k_is)
    (case yx13 => k_is)
    (case ys13 => k_is)
    (case yg13 => k_is)
    (case yh13 => k_is)
    (case yc13 => k_is)
    (case yk13 => k_is)
    (case yn13 => k_is)
    (case yi13 => k_is)
    (case yt13 => k_is)
    (case yl13 => k_is)
    (case yd13 => k_is)
    (case yj13 => k_is)
    (case yx14 => k_is)
    (case ys14 => k_is)
    (case yg14 => k_is)
    (case yh14 => k_is)
    (case yc14 => k_is)
    (case yk14 => k_is)
    (case yn14 => k_is)
    (case yi14 => k_is)
    (case yt14 => k_is)
    (case yl14 => k_is)
    (case yd14 => k_is)
    (case yj14 => k_is)
    (case yx15 => k_is)
    (case ys15 => k_is)
    (case yg15 => k_is)
    (case yh15 => k_is)
    (case yc15 => k_is)
    (case yk15 => k_is)
    (case yn15 => k_is)
    (case yi15 => k_is)
    (case yt15 => k_is)
    (case yl15 => k_is)
    (case yd15 => k_is)
    (case yj15 => k_is)
    (case yx16 => k_is)
    (case ys16 => k_is)
    (case yg16 => k_is)
    (case yh16 => k_is)
    (case yc16 => k_is)
    (case yk16 => k_is)
    (case yn16 => k_is)
    (case yi16 => k_is)
    (case yt16 => k_is)
    (case yl16 => k_is)
    (case yd16 => k_is)
    (case yj16 => k_is)
    (case yx17 => k_is)
    (case ys17 => k_is)
    (case yg17 => k_is)
    (case yh17 => k_is)
    (case yc17 => k_is)
    (case yk17 => k_is)
    (case ye17 => first | kernel_rfl | rfl)
    (case yx18 => k_is)
    (case ys18 => k_is)
    (case yg18 => k_is)
    (case yh18 => k_is)
    (case yc18 => k_is)
    (case yk18 => k_is)
    (case ye18 => first | kernel_rfl | rfl)
    (case yx19 => k_is)
    (case ys19 => k_is)
    (case yg19 => k_is)
    (case yh19 => k_is)
    (case yc19 => k_is)
    (case yk19 => k_is)
    (case ye19 => first | kernel_rfl | rfl)
    (case yx20 => k_is)
    (case ys20 => k_is)
    (case yg20 => k_is)
    (case yh20 => k_is)
    (case yc20 => k_is)
    (case yk20 => k_is)
    (case ye20 => first | kernel_rfl | rfl)
    (case yx21 => k_is)
    (case yV => k_is)
    (case yN => decide +kernel)
    (case a0 => k_is)
    (case l0 => k_is)
    (case c0 => k_is)
    (case k0 => k_is)
    (case a1 => k_is)
    (case l1 => k_is)
    (case c1 => k_is)
    (case k1 => k_is)
    (case a2 => k_is)
    (case l2 => k_is)
    (case c2 => k_is)
    (case k2 => k_is)
    (case a3 => k_is)
    (case l3 => k_is)
    (case c3 => k_is)
    (case k3 => k_is)
    (case a4 => k_is)
    (case l4 => k_is)
    (case c4 => k_is)
    (case k4 => k_is)
    (case a5 => k_is)
    (case l5 => k_is)
    (case c5 => k_is)
    (case k5 => k_is)
    (case a6 => k_is)
    (case l6 => k_is)
    (case c6 => k_is)
    (case k6 => k_is)
    (case a7 => k_is)
    (case l7 => k_is)
    (case c7 => k_is)
    (case k7 => k_is)
    (case a8 => k_is)
    (case l8 => k_is)
    (case c8 => k_is)
    (case k8 => k_is)
    (case a9 => k_is)
    (case l9 => k_is)
    (case c9 => k_is)
    (case k9 => k_is)
    (case z_len => k_is)
    (case z_repr => k_is)
    (case z_abs => k_is)
    (case z_int => k_is)
    (case z_str => k_is)
    (case z_list => k_is)
    (case z_tuple => k_is)
    (case z_all => k_is)
    (case z_any => k_is)
    (case z_max => k_is)
    (case z_min => k_is)
    (case z_range => k_is)
    (case z_isinstance => k_is)
    (case z_bool => k_is)
    (case z_dict => k_is)
    (case z_sorted => k_is)
    (case z_set => k_is)
    (case z_enumerate => k_is)
    (case z_zip => k_is)
    (case z_sum => k_is)
