import PyProof.Rows.All
import Wide.All
import OpenK.AllK
import Wide.FinOn
import PyProof.EqAt
import PyProof.EqKinds
import PyProof.TupleCall
import KE.KLam
import HandS.ForMost
import HandS.Wide
import HandS.StrMore
import HandS.Replace
import HandS.FStr
import HandS.Exc
import HandS.ExcOwn
import HandS.TryMany
import HandS.WordsExc
import HandS.Small
import HandS.RaiseMore
import HandS.Deep
import HandS.DeepEq
import HandS.CallRecv
import HandS.Lambda
import HandS.EndBits
import HandS.EndTab
import HandS.HeadWalk
import HandS.Defaults
import HandS.Head0
import HandS.Head1
import HandS.Head2
import HandS.HeadHook1
import HandS.HeadHook2
import HandS.HeadHook3
import HandS.HeadHook4
import HandS.ReplaceLit
import HandS.Star
import HandS.Style
import HandS.IsInst
import HandS.TupAny
import HandS.TupMul
import PyProof.AutoSeq1
import KE.GoesMore
import KE.GoesEnum
import HandS.Zip
import PyProof.ListRange
import HandS.More
import HandS.RaiseFrom
import HandS.MapSum
import PyProof.CallType
import PyProof.RangeIter
import HandS.AnyAll
import HandS.Nested
import HandS.DictComp
import HandS.Walk
import HandS.Steps
import KE.LtData
import KE.KSortTupG
import KE.KSortTupUse
import KE.KDictPairs
import HandS.TupLen
import HandS.TupSets
import HandS.SortRule
import PySem.Challenge.RW_tablestack_k28_what_is_known_of_columns
section
-- part Fw
set_option Elab.async false
set_option linter.all false
set_option maxRecDepth 100000
set_option maxHeartbeats 2000000
/-! Fw: words of our own over the hand layer: a def that may be called by its name, what is kept of a heap, dice. -/
namespace Fw
open PySem PySem.Spec PyProof.Rows L2

/-- a def of the module that may be called by its name x; it may raise -/
structure Cl (P : Program) (w : World) (K : PySem.W.Frag) (mg : Str → Option Value) (base : Heap) (k : Nat) (x : Str) (sp : Sp) : Prop where
  ex : ∃ (f : Addr) (fd : FuncData) (ps : List Str), FnOk P w K mg base (L2.CX P w) k f fd ps sp ∧ mg x = some (.ref f) ∧ PySem.W.keepIn K (.ref f) = true ∧ Binds K fd ps []
abbrev FnP (K : PySem.W.Frag) (mg : Str → Option Value) (x : Str) (st : Stmt) : Prop := ∃ (f : Addr) (fd : FuncData), FunD K x x (defArgs st) (defBody st) (defScope st) [] [] f fd ∧ mg x = some (.ref f)
section
variable {P : Program} {w : World} {K : PySem.W.Frag} {mg : Str → Option Value} {base : Heap} {x : Str} {st : Stmt}
theorem cl_mk {N ps : List Str} {k : Nat} {sp : Sp} (F : FnP K mg x st) (S : FnScope N ps (defScope st))
    (b : ∀ (kV doc pm : Value) (an : Option Addr) (cdv ct : Value) (us : List Value), us.length = ps.length → bindArgs (PySem.W.fnOf x x (defArgs st) (defBody st) (defScope st) .none kV doc pm an cdv ct) ⟨us, []⟩ = pure (ps.zip us))
    (len : ∀ vs H Q E, sp vs H Q E → vs.length = ps.length)
    (hbody : ∀ (f : Addr) (cdv : Value) (A : Around) (outer : List Env) (s : Shared) (H : Hp) (vs : List V) (Q : VK) (E : XK), Room k (A.deeper (envOfC x (defScope st) s.heap.objs.size f cdv)) → sp vs H Q E →
      ∃ t, PSs (cxOf (L2.CX P w) P w K mg base N x (defScope st) f cdv A outer s H E) (defBody st) t ∧ t { nx := fun _ H' => Q .non H', rt := Q } (start N vs) H) : Cl P w K mg base (k + 1) x sp := by
  obtain ⟨f, fd, F, m⟩ := F
  exact ⟨f, fd, ps, F.ok S len (hbody f), m, F.kp, F.bindsN b⟩
theorem Cl.mono {j k : Nat} {sp : Sp} (c : Cl P w K mg base j x sp) (h : j ≤ k) : Cl P w K mg base k x sp := by
  obtain ⟨f, fd, ps, F, m, kp, b⟩ := c.ex
  exact ⟨f, fd, ps, F.mono h, m, kp, b⟩
/-- a promise that says more -/
theorem Cl.imp {k : Nat} {sp sp' : Sp} (c : Cl P w K mg base k x sp) (h : ∀ vs H Q E, sp' vs H Q E → sp vs H Q E) : Cl P w K mg base k x sp' := by
  obtain ⟨f, fd, ps, F, m, kp, b⟩ := c.ex
  exact ⟨f, fd, ps, ⟨fun vs H Q E q => F.len vs H Q E (h _ _ _ _ q), fun A outer s H args us vs Q E hr e0 hb r q => F.run A outer s H args us vs Q E hr e0 hb r (h _ _ _ _ q)⟩, m, kp, b⟩
end
def tCl (sp : Sp) (E : XK) (t : TA) : TE := fun σ H Q => t σ H fun vs H1 => sp vs H1 Q E
section
variable {X : Cx} {k j : Nat} {C : Addr} {x m : Str} {sp : Sp} {E : XK} {p pos apos : Pos} {e o : Expr} {es : List Expr} {ta : TE} {t : TA}
theorem pe_cl (c : Cl X.prog X.w X.K X.mg X.base k x sp) (hr : Room j X.A) (hk : k ≤ j) (hg : Gl X x) (hx : Passes (L2.CX X.prog X.w) X E) (ha : PA X (e :: es) t)
    (hdb : (x == ("__debug__" : Str)) = false := by decide) (he : starEach (e :: es) X.env = (false, eval e X.env) :: starEach es X.env := by rfl) (hpl : (backTo pos (starEach es X.env)).any (·.1) = false := by rfl) :
    PE X (.Call (.Name x p) (e :: es) [] pos) (tCl sp E t) := by
  obtain ⟨f, fd, ps, F, hm, kp, b⟩ := c.ex
  refine ⟨fun pins s σ H Q I h => ?_⟩
  refine (pe_call F (hr.mono hk) hg hm kp b .nil hx ha hdb he hpl).run pins s σ H Q I ?_
  have q : t σ H fun vs H1 => sp vs H1 Q E := h
  show t σ H fun vs H1 => sp (vs ++ []) H1 Q E
  have e0 : (fun (vs : List V) (H1 : Hp) => sp (vs ++ []) H1 Q E) = fun vs H1 => sp vs H1 Q E := by
    funext vs H1
    rw [List.append_nil]
  rw [e0]
  exact q
/-- what leaves a def's own body -/
theorem passD {P : Program} {w : World} {K : PySem.W.Frag} {mg : Str → Option Value} {base : Heap} {N : List Str} {x : Str} {sc : Scope} {f : Addr} {cdv : Value} {A : Around} {outer : List Env} {s : Shared} {H : Hp} {E : XK} :
    Passes (L2.CX P w) (cxOf (L2.CX P w) P w K mg base N x sc f cdv A outer s H E) E := passes_call (takes_of rfl rfl rfl rfl) fun _ _ _ _ h => h
end

/-! ### texts as lists of signs -/
abbrev T (l : List Nat) : V := .str ⟨l.toArray⟩
theorem tl_mk (l : List Nat) : ((⟨l.toArray⟩ : Str).cps.toList) = l := by simp
theorem len_mk (l : List Nat) : (⟨l.toArray⟩ : Str).length = l.length := by simp [Str.length]

/-! ### heaps: all but one object is kept -/
def Kp (d : Addr) (H H' : Hp) : Prop := ∀ b o, b ≠ d → H b = some o → H' b = some o
theorem Kp.refl (d : Addr) (H : Hp) : Kp d H H := fun _ _ _ h => h
theorem Kp.trans {d : Addr} {H H1 H2 : Hp} (a : Kp d H H1) (b : Kp d H1 H2) : Kp d H H2 := fun c o n h => b c o n (a c o n h)
theorem Kp.at_ {d : Addr} {H : Hp} {o : HO} : Kp d H (upd H d o) := fun b u n h => by rw [upd_ne n]; exact h
theorem Kp.of {d : Addr} {H H' : Hp} (h : Same H H') : Kp d H H' := fun b o _ e => h b o e
theorem same_new {H : Hp} {p : Addr} (h : H p = none) (o : HO) : Same H (upd H p o) := fun b u q => by rw [upd_ne (ne_of_none q h)]; exact q
theorem Kp.new {d : Addr} {H : Hp} {p : Addr} {o : HO} (h : H p = none) : Kp d H (upd H p o) := Kp.of (same_new h o)
/-- three ints at d -/
def Dice (H : Hp) (d : Addr) : Prop := ∃ a b c : Int, H d = some (.lst [.int a, .int b, .int c])
theorem Dice.new {H : Hp} {d p : Addr} {o : HO} (h : Dice H d) (hp : H p = none) : Dice (upd H p o) d := by
  obtain ⟨a, b, c, e⟩ := h
  exact ⟨a, b, c, by rw [upd_ne (ne_of_none e hp)]; exact e⟩
/-! ### classes -/
/-- a class that may be made by its name x -/
structure Mc (P : Program) (w : World) (K : PySem.W.Frag) (mg : Str → Option Value) (base : Heap) (k : Nat) (x : Str) (C : Addr) (sp : Sp) : Prop where
  ex : ∃ (f : Addr) (fd : FuncData) (ps : List Str), Mk K C f ∧ FnOk P w K mg base (L2.CX P w) k f fd ps sp ∧ mg x = some (.ref C) ∧ Binds K fd ps []
/-- a method m of the class at C -/
structure Me (P : Program) (w : World) (K : PySem.W.Frag) (mg : Str → Option Value) (base : Heap) (k : Nat) (C : Addr) (m : Str) (sp : Sp) : Prop where
  ex : ∃ (f : Addr) (fd : FuncData) (ps : List Str), Cls K C ∧ Meth K C m f ∧ FnOk P w K mg base (L2.CX P w) k f fd ps sp ∧ Binds K fd ps []
/-- a method's text as it stands -/
abbrev FnM (K : PySem.W.Frag) (C : Addr) (m qual : Str) (st : Stmt) : Prop := ∃ (f : Addr) (fd : FuncData), FunD K m qual (defArgs st) (defBody st) (defScope st) [] [] f fd ∧ Meth K C m f
section
variable {P : Program} {w : World} {K : PySem.W.Frag} {mg : Str → Option Value} {base : Heap} {x m qual : Str} {st : Stmt} {C : Addr}
theorem fn_m {N ps : List Str} {k : Nat} {sp : Sp} {f : Addr} {fd : FuncData} (F : FunD K m qual (defArgs st) (defBody st) (defScope st) [] [] f fd) (S : FnScope N ps (defScope st))
    (len : ∀ vs H Q E, sp vs H Q E → vs.length = ps.length)
    (hbody : ∀ (f : Addr) (cdv : Value) (A : Around) (outer : List Env) (s : Shared) (H : Hp) (vs : List V) (Q : VK) (E : XK), Room k (A.deeper (envOfC qual (defScope st) s.heap.objs.size f cdv)) → sp vs H Q E →
      ∃ t, PSs (cxOf (L2.CX P w) P w K mg base N qual (defScope st) f cdv A outer s H E) (defBody st) t ∧ t { nx := fun _ H' => Q .non H', rt := Q } (start N vs) H) : FnOk P w K mg base (L2.CX P w) (k + 1) f fd ps sp := F.ok S len (hbody f)
theorem mc_mk {N ps : List Str} {k : Nat} {sp : Sp} (F : ∃ (f : Addr) (fd : FuncData), FunD K "__init__" qual (defArgs st) (defBody st) (defScope st) [] [] f fd ∧ Mk K C f) (hm : mg x = some (.ref C)) (S : FnScope N ps (defScope st))
    (b : ∀ (kV doc pm : Value) (an : Option Addr) (cdv ct : Value) (us : List Value), us.length = ps.length → bindArgs (PySem.W.fnOf "__init__" qual (defArgs st) (defBody st) (defScope st) .none kV doc pm an cdv ct) ⟨us, []⟩ = pure (ps.zip us))
    (len : ∀ vs H Q E, sp vs H Q E → vs.length = ps.length)
    (hbody : ∀ (f : Addr) (cdv : Value) (A : Around) (outer : List Env) (s : Shared) (H : Hp) (vs : List V) (Q : VK) (E : XK), Room k (A.deeper (envOfC qual (defScope st) s.heap.objs.size f cdv)) → sp vs H Q E →
      ∃ t, PSs (cxOf (L2.CX P w) P w K mg base N qual (defScope st) f cdv A outer s H E) (defBody st) t ∧ t { nx := fun _ H' => Q .non H', rt := Q } (start N vs) H) : Mc P w K mg base (k + 1) x C sp := by
  obtain ⟨f, fd, F, M⟩ := F
  exact ⟨f, fd, ps, M, fn_m F S len hbody, hm, F.bindsN b⟩
theorem me_mk {N ps : List Str} {k : Nat} {sp : Sp} (F : FnM K C m qual st) (c : Cls K C) (S : FnScope N ps (defScope st))
    (b : ∀ (kV doc pm : Value) (an : Option Addr) (cdv ct : Value) (us : List Value), us.length = ps.length → bindArgs (PySem.W.fnOf m qual (defArgs st) (defBody st) (defScope st) .none kV doc pm an cdv ct) ⟨us, []⟩ = pure (ps.zip us))
    (len : ∀ vs H Q E, sp vs H Q E → vs.length = ps.length)
    (hbody : ∀ (f : Addr) (cdv : Value) (A : Around) (outer : List Env) (s : Shared) (H : Hp) (vs : List V) (Q : VK) (E : XK), Room k (A.deeper (envOfC qual (defScope st) s.heap.objs.size f cdv)) → sp vs H Q E →
      ∃ t, PSs (cxOf (L2.CX P w) P w K mg base N qual (defScope st) f cdv A outer s H E) (defBody st) t ∧ t { nx := fun _ H' => Q .non H', rt := Q } (start N vs) H) : Me P w K mg base (k + 1) C m sp := by
  obtain ⟨f, fd, F, M⟩ := F
  exact ⟨f, fd, ps, c, M, fn_m F S len hbody, F.bindsN b⟩
end
def tMk (C : Addr) (sp : Sp) (E : XK) (t : TA) : TE := fun σ H Q => t σ H fun vs H1 => ∀ x dx, H1 x = none → H1 dx = none → dx ≠ x → sp (.ref x :: vs) (upd (upd H1 dx (.own x)) x (.ins C dx [])) (fun v H2 => v = .non ∧ Q (.ref x) H2) E
def tMe (C : Addr) (m : Str) (sp : Sp) (E : XK) (ta : TE) (t : TA) : TE := fun σ H Q => ta σ H fun x H1 => ∃ a dx fs, x = .ref a ∧ H1 a = some (.ins C dx fs) ∧ fs.lookup m = none ∧ t σ H1 fun vs H2 => sp (x :: vs) H2 Q E
section
variable {X : Cx} {k j : Nat} {C : Addr} {x m : Str} {sp : Sp} {E : XK} {p pos apos : Pos} {e o : Expr} {es : List Expr} {ta : TE} {t : TA}
theorem pe_mc (c : Mc X.prog X.w X.K X.mg X.base k x C sp) (hr : Room j X.A) (hk : k + 1 ≤ j) (hg : Gl X x) (hx : Passes (L2.CX X.prog X.w) X E) (ha : PA X (e :: es) t)
    (hdb : (x == ("__debug__" : Str)) = false := by decide) (he : starEach (e :: es) X.env = (false, eval e X.env) :: starEach es X.env := by rfl) (hpl : (backTo pos (starEach es X.env)).any (·.1) = false := by rfl) :
    PE X (.Call (.Name x p) (e :: es) [] pos) (tMk C sp E t) := by
  obtain ⟨f, fd, ps, M, F, hm, b⟩ := c.ex
  refine ⟨fun pins s σ H Q I h => ?_⟩
  refine (pe_make M F (hr.mono hk) hg hm b .nil hx ha hdb he hpl).run pins s σ H Q I ?_
  have q : t σ H fun vs H1 => ∀ x dx, H1 x = none → H1 dx = none → dx ≠ x → sp (.ref x :: vs) (upd (upd H1 dx (.own x)) x (.ins C dx [])) (fun v H2 => v = .non ∧ Q (.ref x) H2) E := h
  have e0 : (fun (vs : List V) (H1 : Hp) => ∀ x dx, H1 x = none → H1 dx = none → dx ≠ x → sp (.ref x :: (vs ++ [])) (upd (upd H1 dx (.own x)) x (.ins C dx [])) (fun v H2 => v = .non ∧ Q (.ref x) H2) E) =
      fun vs H1 => ∀ x dx, H1 x = none → H1 dx = none → dx ≠ x → sp (.ref x :: vs) (upd (upd H1 dx (.own x)) x (.ins C dx [])) (fun v H2 => v = .non ∧ Q (.ref x) H2) E := by
    funext vs H1
    rw [List.append_nil]
  show t σ H fun vs H1 => ∀ x dx, H1 x = none → H1 dx = none → dx ≠ x → sp (.ref x :: (vs ++ [])) (upd (upd H1 dx (.own x)) x (.ins C dx [])) (fun v H2 => v = .non ∧ Q (.ref x) H2) E
  rw [e0]
  exact q
theorem pe_me {pl : Sem Bool} (c : Me X.prog X.w X.K X.mg X.base k C m sp) (hr : Room j X.A) (hk : k ≤ j) (hx : Passes (L2.CX X.prog X.w) X E) (he : PE X o ta) (ha : PA X (e :: es) t)
    (hst : starEach (e :: es) X.env = (false, eval e X.env) :: starEach es X.env := by rfl) (hpl : (backTo pos (starEach es X.env)).any (·.1) = false := by rfl)
    (ht : eval (.Call (.Attribute o m apos) (e :: es) [] pos) X.env = (do
      let ov ← eval o X.env
      standAt apos.atName
      let (f, first) ← holding [ov] (getMethod ov m pl)
      callWith pos f first (backTo pos (starEach (e :: es) X.env)) (backToKw pos (keywordEach [] X.env))) := by rfl) :
    PE X (.Call (.Attribute o m apos) (e :: es) [] pos) (tMe C m sp E ta t) := by
  obtain ⟨f, fd, ps, hc, hm, F, b⟩ := c.ex
  refine ⟨fun pins s σ H Q I h => ?_⟩
  refine (pe_meth (pl := pl) he hc hm F (hr.mono hk) b .nil hx ha hst hpl ht).run pins s σ H Q I ?_
  have e0 : (fun (x : V) (H1 : Hp) => ∃ a dx fs, x = .ref a ∧ H1 a = some (.ins C dx fs) ∧ fs.lookup m = none ∧ t σ H1 fun vs H2 => sp (x :: (vs ++ [])) H2 Q E) =
      fun x H1 => ∃ a dx fs, x = .ref a ∧ H1 a = some (.ins C dx fs) ∧ fs.lookup m = none ∧ t σ H1 fun vs H2 => sp (x :: vs) H2 Q E := by
    funext x H1
    simp only [List.append_nil]
  show ta σ H fun x H1 => ∃ a dx fs, x = .ref a ∧ H1 a = some (.ins C dx fs) ∧ fs.lookup m = none ∧ t σ H1 fun vs H2 => sp (x :: (vs ++ [])) H2 Q E
  rw [e0]
  exact h
theorem pe_me0 {pl : Sem Bool} (c : Me X.prog X.w X.K X.mg X.base k C m sp) (hr : Room j X.A) (hk : k ≤ j) (hx : Passes (L2.CX X.prog X.w) X E) (he : PE X o ta)
    (ht : eval (.Call (.Attribute o m apos) [] [] pos) X.env = (do
      let ov ← eval o X.env
      standAt apos.atName
      let (f, first) ← holding [ov] (getMethod ov m pl)
      callWith pos f first (backTo pos (starEach [] X.env)) (backToKw pos (keywordEach [] X.env))) := by rfl) :
    PE X (.Call (.Attribute o m apos) [] [] pos) (tMe C m sp E ta tNil) := by
  obtain ⟨f, fd, ps, hc, hm, F, b⟩ := c.ex
  exact pe_meth0 (pl := pl) he hc hm F (hr.mono hk) b .nil hx ht
end
end Fw
end

section
-- part Fs
set_option Elab.async false
set_option linter.all false
set_option maxRecDepth 100000
set_option maxHeartbeats 2000000
/-! Fs: readings, step by step -/
namespace Fw
open PySem PySem.Spec PyProof.Rows L2
section
variable {K : PySem.W.Frag} {σ : L2.St} {H : Hp} {Q : VK} {ta tb te tc : TE} {t u : TS} {D : Ends} {v x y : V} {i : Nat} {r : R2} {tt tu : TT} {QT : Bool → Hp → Prop} {tr : TA} {QA : List V → Hp → Prop} {E : XK} {sp : Sp}
theorem w_seq (h : t { D with nx := u D } σ H) : tSeq t u D σ H := h
theorem w_asg {g : TG} (h : te σ H fun x H1 => g x σ H1 D.nx) : tAsg te g D σ H := h
theorem w_ret (h : te σ H D.rt) : tRet te D σ H := h
theorem w_drop (h : te σ H fun _ H1 => D.nx σ H1) : tDrop te D σ H := h
theorem w_next (h : D.nx σ H) : tNext D σ H := h
theorem w_ifs (h : tt σ H fun b H1 => if b = true then t D σ H1 else u D σ H1) : tIfS tt t u D σ H := h
theorem w_var (h : σ[i]? = some (some v)) (q : Q v H) : tVar i σ H Q := ⟨v, h, q⟩
theorem w_c (q : Q v H) : tC v σ H Q := q
theorem w_op (h : ta σ H fun x H1 => tb σ H1 fun y H2 => r x y H2 Q) : tOp r ta tb σ H Q := h
theorem w_un {r : V → Hp → VK → Prop} (h : ta σ H fun x H1 => r x H1 Q) : tUn r ta σ H Q := h
theorem w_cons (h : ta σ H fun x H1 => tr σ H1 fun xs H2 => QA (x :: xs) H2) : tCons ta tr σ H QA := h
theorem w_nil (q : QA [] H) : tNil σ H QA := q
theorem w_cl (h : tr σ H fun vs H1 => sp vs H1 Q E) : tCl sp E tr σ H Q := h
theorem w_cb {r : List V → Hp → VK → Prop} (h : tr σ H fun vs H1 => r vs H1 Q) : tCB r tr σ H Q := h
theorem w_gname {Q : L2.St → Hp → Prop} (h : Q (σ.set i (some v)) H) : gName i v σ H Q := h
theorem w_gsub {Q : L2.St → Hp → Prop} {s : TSet} (h : ta σ H fun o H1 => tb σ H1 fun i H2 => s o i v H2 fun H3 => Q σ H3) : gSub ta tb s v σ H Q := h
theorem w_test (h : te σ H fun x H1 => ∃ k, x = .bl k ∧ QT k H1) : tTest te σ H QT := h
theorem w_B (h : te σ H fun x H1 => ∃ k, x = .bl k ∧ QT k H1) : tB te σ H QT := h
theorem w_bl {b : Bool} {P : Bool → Prop} (h : P b) : ∃ k, V.bl b = V.bl k ∧ P k := ⟨b, rfl, h⟩
theorem w_and (h : tt σ H fun b H1 => if b = true then tu σ H1 QT else QT false H1) : tAnd tt tu σ H QT := h
theorem w_or (h : tt σ H fun b H1 => if b = true then QT true H1 else tu σ H1 QT) : tOr tt tu σ H QT := h
theorem w_not (h : tt σ H fun b H1 => QT (!b) H1) : tNot tt σ H QT := h
theorem w_if (h : tt σ H fun b H1 => if b = true then ta σ H1 Q else tb σ H1 Q) : tIf tt ta tb σ H Q := h
theorem w_I0 {g : Int → Int → V} {i j : Int} (q : Q (g i j) H) : rI0 g (.int i) (.int j) H Q := ⟨i, j, rfl, rfl, q⟩
theorem w_I {C : Int → Int → Prop} {g : Int → Int → V} {i j : Int} (c : C i j) (q : Q (g i j) H) : rI C g (.int i) (.int j) H Q := ⟨i, j, rfl, rfl, c, q⟩
theorem w_eq (s : scal x y = true) (q : Q (.bl (decide (x = y))) H) : rEq x y H Q := ⟨s, q⟩
theorem w_ne (s : scal x y = true) (q : Q (.bl (!decide (x = y))) H) : rNe x y H Q := ⟨s, q⟩
theorem w_ixL {p : Addr} {xs : List V} {i : Int} (h : H p = some (.lst xs)) (a : atI xs i = some v) (q : Q v H) : rIxL K (.ref p) (.int i) H Q := ⟨p, xs, i, v, rfl, rfl, .inl (.inl h), a, q⟩
theorem w_setL {p : Addr} {xs : List V} {k : Int} {j : Nat} {Q : Hp → Prop} (h : H p = some (.lst xs)) (a : ixN xs.length k = some j) (q : Q (upd H p (.lst (xs.set j v)))) : rSetL (.ref p) (.int k) v H Q := ⟨p, xs, k, j, rfl, rfl, h, a, q⟩
theorem w_lst (h : tr σ H fun xs H1 => xs.length ≤ sizeLine ∧ ∀ p, H1 p = none → Q (.ref p) (upd H1 p (.lst xs))) : tLst tr σ H Q := h
theorem w_tup (h : tr σ H fun xs H1 => xs.length ≤ sizeLine ∧ ∀ p, H1 p = none → Q (.ref p) (upd H1 p (.tup xs))) : tTup tr σ H Q := h
theorem w_iteD {p : Prop} [Decidable p] {A B : Prop} (h1 : p → A) (h2 : ¬ p → B) : if decide p = true then A else B := by
  by_cases c : p
  · rw [if_pos (decide_eq_true c)]
    exact h1 c
  · rw [if_neg (by simp [c])]
    exact h2 c
theorem w_ite {b : Bool} {A B : Prop} (h1 : b = true → A) (h2 : b = false → B) : if b = true then A else B := by
  cases b with
  | true => rw [if_pos rfl]; exact h1 rfl
  | false => rw [if_neg Bool.false_ne_true]; exact h2 rfl
theorem w_iteT {A B : Prop} (h : A) : if true = true then A else B := by rw [if_pos rfl]; exact h
theorem w_iteF {A B : Prop} (h : B) : if false = true then A else B := by rw [if_neg Bool.false_ne_true]; exact h
theorem w_fld {f : Str} (h : ta σ H fun x H1 => ∃ a C dx fs v, x = .ref a ∧ H1 a = some (.ins C dx fs) ∧ Cls K C ∧ NoAttr K C f ∧ fs.lookup f = some v ∧ Q v H1) : tFld K ta f σ H Q := h
theorem w_mk {C : Addr} (h : tr σ H fun vs H1 => ∀ x dx, H1 x = none → H1 dx = none → dx ≠ x → sp (.ref x :: vs) (upd (upd H1 dx (.own x)) x (.ins C dx [])) (fun v H2 => v = .non ∧ Q (.ref x) H2) E) : tMk C sp E tr σ H Q := h
theorem w_me {C : Addr} {m : Str} (h : ta σ H fun x H1 => ∃ a dx fs, x = .ref a ∧ H1 a = some (.ins C dx fs) ∧ fs.lookup m = none ∧ tr σ H1 fun vs H2 => sp (x :: vs) H2 Q E) : tMe C m sp E ta tr σ H Q := h
theorem w_sfld {tv : TE} {f : Str} (h : tv σ H fun y H1 => ta σ H1 fun x H2 => ∃ a C dx fs, x = .ref a ∧ H2 a = some (.ins C dx fs) ∧ Cls K C ∧ NoAttr K C f ∧ fs.length < 1000 ∧ D.nx σ (upd H2 a (.ins C dx (putF f y fs)))) : sFld K ta tv f D σ H := h
theorem w_bm {T : String} {r : V → List V → Hp → VK → Prop} (h : ta σ H fun x H1 => tyV K T x H1 ∧ tr σ H1 fun xs H2 => r x xs H2 Q) : tBM K T r ta tr σ H Q := h
theorem w_bm0 {T : String} {r : V → List V → Hp → VK → Prop} (h : ta σ H fun x H1 => tyV K T x H1 ∧ r x [] H1 Q) : tBM0 K T r ta σ H Q := h
theorem w_sl {r : V → Option Int → Option Int → Hp → VK → Prop} {tl th : TO} (h : te σ H fun x H1 => tl σ H1 fun l H2 => th σ H2 fun u H3 => r x l u H3 Q) : tSl r te tl th σ H Q := h
theorem w_part {Q : Option Int → Hp → Prop} (h : te σ H fun x H1 => ∃ i, x = .int i ∧ Q (some i) H1) : tPart te σ H Q := h
theorem w_nopart {Q : Option Int → Hp → Prop} (h : Q none H) : tNoPart σ H Q := h
theorem w_partI {n : Int} {P : Int → Prop} (h : P n) : ∃ i, V.int n = V.int i ∧ P i := ⟨n, rfl, h⟩
theorem w_aug {ti : TIp} (h : σ[i]? = some (some x)) (q : te σ H fun y H1 => ti x y H1 fun z H2 => D.nx (σ.set i (some z)) H2) : tAug i te ti D σ H := ⟨x, h, q⟩
theorem w_ipI {f : Int → Int → Int} {i j : Int} (q : Q (.int (f i j)) H) : ipI f (.int i) (.int j) H Q := ⟨i, j, rfl, rfl, q⟩
end
theorem hu64 {k : Nat} {A : Around} (r : Room k A) : A.units + 64 < cLine := by have := r.un; omega
theorem hu1 {k : Nat} {A : Around} (r : Room k A) : A.units < cLine := by have := r.un; omega
section
variable {K : PySem.W.Frag} {σ : L2.St} {H : Hp} {Q : VK} {ta tb tc : TE} {r r' : R2} {v x y : V}
theorem w_chain (h : ta σ H fun x H1 => tb σ H1 fun y H2 => r x y H2 fun z H3 => ∃ k, z = .bl k ∧ (if k = true then tc σ H3 fun w' H4 => r' y w' H4 Q else Q (.bl false) H3)) : tChain r r' ta tb tc σ H Q := h
theorem w_x1i {c : Int} {P : Int → Prop} (h : P c) : ∃ i, [V.int c] = [V.int i] ∧ P i := ⟨c, rfl, h⟩
theorem w_x1b {c : Bool} {P : Bool → Prop} (h : P c) : ∃ i, [V.bl c] = [V.bl i] ∧ P i := ⟨c, rfl, h⟩
theorem w_x1s {c : Str} {P : Str → Prop} (h : P c) : ∃ i, [V.str c] = [V.str i] ∧ P i := ⟨c, rfl, h⟩
theorem w_int1i {c : Int} {P : Int → Prop} {R : Prop} (h : P c) : (∃ i, [V.int c] = [V.int i] ∧ P i) ∨ R := .inl ⟨c, rfl, h⟩
theorem w_int1b {c : Bool} {P : Bool → Prop} {R : Prop} (h : P c) : R ∨ ∃ i, [V.bl c] = [V.bl i] ∧ P i := .inr ⟨c, rfl, h⟩
theorem w_mod {i j : Int} (c : 0 < j) (q : Q (.int (i % j)) H) : rI (fun _ j => 0 < j) (fun i j => V.int (i % j)) (.int i) (.int j) H Q := ⟨i, j, rfl, rfl, c, q⟩
theorem w_mul {i j : Int} (c : CMul i j) (q : Q (.int (i * j)) H) : rI CMul (fun i j => V.int (i * j)) (.int i) (.int j) H Q := ⟨i, j, rfl, rfl, c, q⟩
theorem w_fdivW {i j : Int} (c : 0 < j) (c2 : j < 2 ^ 60) (q : Q (.int (i / j)) H) : rI CDivW (fun i j => V.int (i / j)) (.int i) (.int j) H Q :=
  ⟨i, j, rfl, rfl, wide_div (b := 60) c (by omega) (by decide) (by decide), q⟩
theorem w_pow {i j : Int} (c : CPow i j) (q : Q (.int (i ^ j.toNat)) H) : rI CPow (fun i j => V.int (i ^ j.toNat)) (.int i) (.int j) H Q := ⟨i, j, rfl, rfl, c, q⟩
end
section
variable {K : PySem.W.Frag} {σ : L2.St} {H : Hp} {Q : VK} {v x y : V}
theorem w_setLu {p : Addr} {xs : List V} {k : Int} {j : Nat} {Q : Hp → Prop} (a : ixN xs.length k = some j) (q : Q (upd H p (.lst (xs.set j v)))) : rSetL (.ref p) (.int k) v (upd H p (.lst xs)) Q := ⟨p, xs, k, j, rfl, rfl, upd_same, a, by rw [upd_upd]; exact q⟩
theorem w_new {n : Nat} {B : Prop} (hz : Nat.ble n 1000 = true) (h : B) : n ≤ sizeLine ∧ B := ⟨Nat.le_trans (Nat.le_of_ble_eq_true hz) (by decide), h⟩
theorem mod_b {a m : Int} (h : 0 < m) : 0 ≤ a % m ∧ a % m < m := ⟨Int.emod_nonneg a (by omega), Int.emod_lt_of_pos a h⟩
end
section
variable {K : PySem.W.Frag} {σ : L2.St} {H : Hp} {Q : VK} {tl te : TE} {ta : TA} {j : Nat} {vs : List Nat} {tt : TT} {g : TG} {wi : TI}
theorem w_lc (h : wi σ H fun J H1 => ∀ D, H1 D = none → ∃ W : Nat → Nat → Hp → Prop, (∃ m, W 0 m (upd H1 D (.lst []))) ∧ ∀ i m H, W i m H →
  (J.stop i H ∧ Q (.ref D) H) ∨ (J.go i H ∧ ∃ Nx : Hp → Prop, (∀ H', Nx H' → ∃ m', m' < m ∧ W (i + 1) m' H') ∧ ∀ x H', J.yld i H x H' → g x (wipe σ vs) H' fun σ2 H2 => wipe σ2 vs = wipe σ vs ∧ tt σ2 H2 fun b H3 =>
    if b = true then te σ2 H3 fun y H4 => ∃ acc, H4 D = some (.lst acc) ∧ acc.length < sizeLine ∧ Nx (upd H4 D (.lst (acc ++ [y]))) else Nx H3)) : tLc wi g tt te vs σ H Q := h
theorem w_iL {R : It → Hp → Prop} (h : tl σ H fun x H1 => ∃ a, x = .ref a ∧ (∃ xs, SqL K H1 a xs) ∧ R (Itl K a) H1) : iList K tl σ H R := h
theorem w_iT {R : It → Hp → Prop} (h : tl σ H fun x H1 => ∃ a, x = .ref a ∧ (∃ xs, SqT K H1 a xs) ∧ R (Itt K a) H1) : iTup K tl σ H R := h
theorem w_iR1 {R : It → Hp → Prop} (h : ta σ H fun vs H1 => ∃ j : Int, vs = [.int j] ∧ -(2 ^ 62) ≤ j ∧ j < 2 ^ 62 ∧ R (Itr 0 j.toNat) H1) : iRng1 ta σ H R := h
theorem w_iR2 {R : It → Hp → Prop} (h : ta σ H fun vs H1 => ∃ i j : Int, vs = [.int i, .int j] ∧ (-(2 ^ 62) ≤ i ∧ i < 2 ^ 62 ∧ -(2 ^ 62) ≤ j ∧ j < 2 ^ 62) ∧ R (Itr i (j - i).toNat) H1) : iRng2 ta σ H R := h
theorem w_yes {Q : Bool → Hp → Prop} (h : Q true H) : tYes σ H Q := h
/-- a comprehension over a list: the turn's word Pv -/
theorem w_lcL {p : Addr} {xs : List V} (hS : SqL K H p xs) (h : ∀ D, H D = none → ∃ Pv : Nat → Hp → Prop, Pv 0 (upd H D (.lst [])) ∧ (∀ i H2, i ≤ xs.length → Pv i H2 → SqL K H2 p xs) ∧
      (∀ i x H2, xs[i]? = some x → Pv i H2 → g x (wipe σ vs) H2 fun σ2 H2 => wipe σ2 vs = wipe σ vs ∧ tt σ2 H2 fun b H3 =>
        if b = true then te σ2 H3 fun y H4 => ∃ acc, H4 D = some (.lst acc) ∧ acc.length < sizeLine ∧ Pv (i + 1) (upd H4 D (.lst (acc ++ [y]))) else Pv (i + 1) H3) ∧ (∀ H2, Pv xs.length H2 → Q (.ref D) H2)) :
    ∃ a, V.ref p = .ref a ∧ (∃ xs, SqL K H a xs) ∧ ∀ D, H D = none → ∃ W : Nat → Nat → Hp → Prop, (∃ m, W 0 m (upd H D (.lst []))) ∧ ∀ i m H, W i m H →
      ((Itl K a).stop i H ∧ Q (.ref D) H) ∨ ((Itl K a).go i H ∧ ∃ Nx : Hp → Prop, (∀ H', Nx H' → ∃ m', m' < m ∧ W (i + 1) m' H') ∧ ∀ x H', (Itl K a).yld i H x H' → g x (wipe σ vs) H' fun σ2 H2 => wipe σ2 vs = wipe σ vs ∧ tt σ2 H2 fun b H3 =>
        if b = true then te σ2 H3 fun y H4 => ∃ acc, H4 D = some (.lst acc) ∧ acc.length < sizeLine ∧ Nx (upd H4 D (.lst (acc ++ [y]))) else Nx H3) :=
  ⟨p, rfl, ⟨xs, hS⟩, fun D hD => by
    obtain ⟨Pv, h0, hl, hs, hd⟩ := h D hD
    exact lc_list Pv h0 hl hs hd⟩
/-- .. over range(n) -/
theorem w_lcR {n : Int} (hn : 0 ≤ n ∧ n < 2 ^ 62) (h : ∀ D, H D = none → ∃ Pv : Nat → Hp → Prop, Pv 0 (upd H D (.lst [])) ∧
      (∀ (i : Nat) H2, (i : Int) < n → Pv i H2 → g (.int (0 + (i : Int))) (wipe σ vs) H2 fun σ2 H2 => wipe σ2 vs = wipe σ vs ∧ tt σ2 H2 fun b H3 =>
        if b = true then te σ2 H3 fun y H4 => ∃ acc, H4 D = some (.lst acc) ∧ acc.length < sizeLine ∧ Pv (i + 1) (upd H4 D (.lst (acc ++ [y]))) else Pv (i + 1) H3) ∧ (∀ H2, Pv n.toNat H2 → Q (.ref D) H2)) :
    ∃ j : Int, [V.int n] = [.int j] ∧ -(2 ^ 62) ≤ j ∧ j < 2 ^ 62 ∧ ∀ D, H D = none → ∃ W : Nat → Nat → Hp → Prop, (∃ m, W 0 m (upd H D (.lst []))) ∧ ∀ i m H, W i m H →
      ((Itr 0 j.toNat).stop i H ∧ Q (.ref D) H) ∨ ((Itr 0 j.toNat).go i H ∧ ∃ Nx : Hp → Prop, (∀ H', Nx H' → ∃ m', m' < m ∧ W (i + 1) m' H') ∧ ∀ x H', (Itr 0 j.toNat).yld i H x H' → g x (wipe σ vs) H' fun σ2 H2 => wipe σ2 vs = wipe σ vs ∧ tt σ2 H2 fun b H3 =>
        if b = true then te σ2 H3 fun y H4 => ∃ acc, H4 D = some (.lst acc) ∧ acc.length < sizeLine ∧ Nx (upd H4 D (.lst (acc ++ [y]))) else Nx H3) :=
  ⟨n, rfl, by omega, hn.2, fun D hD => by
    obtain ⟨Pv, h0, hs, hd⟩ := h D hD
    exact lc_range Pv h0 (fun i H hi p => hs i H (by omega) p) hd⟩
theorem w_for {wi : TI} {g : TG} {tb : TS} {D : Ends} (h : wi σ H fun J H1 => ∃ W : Nat → Nat → L2.St → Hp → Prop, (∃ m, W 0 m σ H1) ∧ ∀ i m σ H, W i m σ H →
  (J.stop i H ∧ D.nx σ H) ∨ (J.go i H ∧ ∃ N : L2.St → Hp → Prop, (∀ σ' H', N σ' H' → ∃ m', m' < m ∧ W (i + 1) m' σ' H') ∧ ∀ x H', J.yld i H x H' → g x σ H' fun σ2 H2 => tb { D with nx := N, ct := N, bk := D.nx } σ2 H2)) : tFor wi g tb D σ H := h
theorem w_forL {g : TG} {tb : TS} {D : Ends} {p : Addr} {xs : List V} (hS : SqL K H p xs) (Pv : Nat → L2.St → Hp → Prop) (h0 : Pv 0 σ H) (hl : ∀ i σ H, i ≤ xs.length → Pv i σ H → SqL K H p xs)
    (hs : ∀ i x σ H, xs[i]? = some x → Pv i σ H → g x σ H fun σ2 H2 => tb { D with nx := Pv (i + 1), ct := Pv (i + 1), bk := D.nx } σ2 H2) (hd : ∀ σ H, Pv xs.length σ H → D.nx σ H) :
    ∃ a, V.ref p = .ref a ∧ (∃ xs, SqL K H a xs) ∧ ∃ W : Nat → Nat → L2.St → Hp → Prop, (∃ m, W 0 m σ H) ∧ ∀ i m σ H, W i m σ H →
      ((Itl K a).stop i H ∧ D.nx σ H) ∨ ((Itl K a).go i H ∧ ∃ N : L2.St → Hp → Prop, (∀ σ' H', N σ' H' → ∃ m', m' < m ∧ W (i + 1) m' σ' H') ∧ ∀ x H', (Itl K a).yld i H x H' → g x σ H' fun σ2 H2 => tb { D with nx := N, ct := N, bk := D.nx } σ2 H2) :=
  ⟨p, rfl, ⟨xs, hS⟩, for_list Pv h0 hl hs hd⟩
theorem w_forT {g : TG} {tb : TS} {D : Ends} {p : Addr} {xs : List V} (hS : SqT K H p xs) (Pv : Nat → L2.St → Hp → Prop) (h0 : Pv 0 σ H) (hl : ∀ i σ H, i ≤ xs.length → Pv i σ H → SqT K H p xs)
    (hs : ∀ i x σ H, xs[i]? = some x → Pv i σ H → g x σ H fun σ2 H2 => tb { D with nx := Pv (i + 1), ct := Pv (i + 1), bk := D.nx } σ2 H2) (hd : ∀ σ H, Pv xs.length σ H → D.nx σ H) :
    ∃ a, V.ref p = .ref a ∧ (∃ xs, SqT K H a xs) ∧ ∃ W : Nat → Nat → L2.St → Hp → Prop, (∃ m, W 0 m σ H) ∧ ∀ i m σ H, W i m σ H →
      ((Itt K a).stop i H ∧ D.nx σ H) ∨ ((Itt K a).go i H ∧ ∃ N : L2.St → Hp → Prop, (∀ σ' H', N σ' H' → ∃ m', m' < m ∧ W (i + 1) m' σ' H') ∧ ∀ x H', (Itt K a).yld i H x H' → g x σ H' fun σ2 H2 => tb { D with nx := N, ct := N, bk := D.nx } σ2 H2) :=
  ⟨p, rfl, ⟨xs, hS⟩, for_tup Pv h0 hl hs hd⟩
theorem w_forR {g : TG} {tb : TS} {D : Ends} {n : Int} (hn : 0 ≤ n ∧ n < 2 ^ 62) (Pv : Nat → L2.St → Hp → Prop) (h0 : Pv 0 σ H)
    (hs : ∀ (i : Nat) σ H, (i : Int) < n → Pv i σ H → g (.int (0 + (i : Int))) σ H fun σ2 H2 => tb { D with nx := Pv (i + 1), ct := Pv (i + 1), bk := D.nx } σ2 H2) (hd : ∀ σ H, Pv n.toNat σ H → D.nx σ H) :
    ∃ j : Int, [V.int n] = [.int j] ∧ -(2 ^ 62) ≤ j ∧ j < 2 ^ 62 ∧ ∃ W : Nat → Nat → L2.St → Hp → Prop, (∃ m, W 0 m σ H) ∧ ∀ i m σ H, W i m σ H →
      ((Itr 0 j.toNat).stop i H ∧ D.nx σ H) ∨ ((Itr 0 j.toNat).go i H ∧ ∃ N : L2.St → Hp → Prop, (∀ σ' H', N σ' H' → ∃ m', m' < m ∧ W (i + 1) m' σ' H') ∧ ∀ x H', (Itr 0 j.toNat).yld i H x H' → g x σ H' fun σ2 H2 => tb { D with nx := N, ct := N, bk := D.nx } σ2 H2) :=
  ⟨n, rfl, by omega, hn.2, for_range Pv h0 (fun i σ H hi p => hs i σ H (by omega) p) hd⟩
/-- while: a word with a measure; the test is read in the word -/
theorem w_while {c : TT} {tb : TS} {D : Ends} (W : Nat → L2.St → Hp → Prop) (m : Nat) (h0 : W m σ H)
    (hs : ∀ m σ H, W m σ H → c σ H fun b H1 => if b = true then ∃ N : L2.St → Hp → Prop, (∀ σ' H', N σ' H' → ∃ m', m' < m ∧ W m' σ' H') ∧ tb { D with nx := N, ct := N, bk := D.nx } σ H1 else D.nx σ H1) : tWhile c tb D σ H :=
  ⟨W, ⟨m, h0⟩, hs⟩
theorem w_gtup {n : Nat} {t : TGs} {a : Addr} {xs : List V} {Q : L2.St → Hp → Prop} (h : H a = some (.tup xs)) (hn : xs.length = n) (q : t xs σ H Q) : gTup K n t (.ref a) σ H Q := ⟨a, xs, rfl, SqT.of h, hn, q⟩
theorem w_gcons {t : TG} {u : TGs} {v : V} {r : List V} {Q : L2.St → Hp → Prop} (h : t v σ H fun σ' H' => u r σ' H' Q) : gCons t u (v :: r) σ H Q := ⟨v, r, rfl, h⟩
theorem w_gnil {Q : L2.St → Hp → Prop} (h : Q σ H) : gNil [] σ H Q := ⟨rfl, h⟩
theorem w_app {l : Addr} {xs : List V} {y : V} {Q : VK} (h : H l = some (.lst xs)) (hz : xs.length < sizeLine) (q : Q .non (upd H l (.lst (xs ++ [y])))) : rAppend (.ref l) [y] H Q := ⟨l, xs, y, rfl, rfl, h, hz, q⟩
end
end Fw
end

section
-- part Fd
set_option Elab.async false
set_option linter.all false
set_option maxRecDepth 100000
set_option maxHeartbeats 2000000
/-! Fd: data -/
namespace Fw
open PySem PySem.Spec PyProof.Rows L2
section
variable {K : PySem.W.Frag} {H H' : Hp}
theorem dp_ints : ∀ ns : List Int, DpAll K H (ns.map V.int) (ns.map PyData.int)
  | [] => .nil
  | n :: r => .cons (.int n) (dp_ints r)
theorem lay_ints : ∀ ns : List Int, PyData.canLayAll0 (ns.map PyData.int) = true
  | [] => rfl
  | _ :: r => lay_ints r
theorem dep_ints (ns : List Int) : PyData.depth (.list (ns.map PyData.int)) ≤ 64 := by
  have h : ∀ ns : List Int, PyData.depthAll (ns.map PyData.int) ≤ 1 := by
    intro ns
    induction ns with
    | nil => simp [PyData.depthAll]
    | cons n r ih => simp only [List.map_cons, PyData.depthAll, PyData.depth]; omega
  have := h ns
  simp only [PyData.depth]
  omega
theorem shaped_ints (ns : List Int) : SeqAt.shaped (.list (ns.map PyData.int)) = true := by
  unfold SeqAt.shaped
  rw [Bool.and_eq_true]
  exact ⟨lay_ints ns, decide_eq_true (dep_ints ns)⟩
theorem eqv_nil (ns : List Int) : PyData.eqv (.list (ns.map PyData.int)) (.list []) = decide (ns = []) := by
  cases ns <;> rfl
theorem cut_ints (ns : List Int) (lo hi : Option Int) : ∃ ms : List Int, cutV (ns.map V.int) lo hi = ms.map V.int ∧ ms.length ≤ ns.length := by
  refine ⟨(ns.drop (HT.sIx (ns.map V.int).length 0 lo)).take (HT.sIx (ns.map V.int).length (ns.map V.int).length hi - HT.sIx (ns.map V.int).length 0 lo), ?_, ?_⟩
  · unfold cutV
    rw [List.map_take, List.map_drop]
  · rw [List.length_take, List.length_drop]
    omega
end
end Fw
end

section
-- part Fx
set_option Elab.async false
set_option linter.all false
set_option maxRecDepth 100000
set_option maxHeartbeats 2000000
/-! Fx: texts as lists of signs -/
namespace Fw
open PySem PySem.Spec PyProof.Rows L2 SX
open Builtin.Str PySem.StrLaws
abbrev S (l : List Nat) : Str := SX.S l
theorem fromIx {n p : Nat} : fromIndex n (p : Int) = p := by
  unfold fromIndex
  rw [if_neg (by omega)]
  omega
theorem at_pre (l b : List Nat) (i : Nat) : At (S l) (S b) (S l).length i ↔ (i + b.length ≤ l.length ∧ (l.drop i).take b.length = b) := by
  unfold At
  rw [S_len, S_len, subAt_eq, S_len]
  simp [SX.S]
theorem starts3 (l b : List Nat) (p : Nat) : Txt.startswith3 (S l) (S b) (p : Int) = decide ((l.drop p).take b.length = b ∧ p + b.length ≤ l.length) := by
  unfold Txt.startswith3
  rw [fromIx, S_len, S_len, subAt_eq, S_len]
  have e : (S l).cps.toList = l := by simp [SX.S]
  have e2 : (S b).cps.toList = b := by simp [SX.S]
  rw [e, e2]
  by_cases h : p + b.length ≤ l.length
  · by_cases h2 : (l.drop p).take b.length = b
    · simp [h, h2]
    · simp [h, h2]
  · simp [h]
/-- the place of the first c from p on -/
theorem find3_one (l : List Nat) (c p : Nat) : Txt.find3 (S l) (S [c]) (p : Int) = (match (l.drop p).findIdx? (· == c) with | some k => ((p + k : Nat) : Int) | none => -1) := by
  unfold Txt.find3
  rw [fromIx]
  have one : ∀ i, At (S l) (S [c]) (S l).length i ↔ l[i]? = some c := by
    intro i
    rw [at_pre]
    constructor
    · rintro ⟨h1, h2⟩
      simp only [List.length_singleton] at h1 h2
      have hi : i < l.length := by omega
      rw [List.getElem?_eq_getElem hi]
      have e3 : List.take 1 (List.drop i l) = [l[i]] := by rw [List.drop_eq_getElem_cons hi]; rfl
      rw [e3] at h2
      exact congrArg some (List.cons.inj h2).1
    · intro h
      obtain ⟨hi, e⟩ := List.getElem?_eq_some_iff.mp h
      refine ⟨by simp; omega, ?_⟩
      rw [List.drop_eq_getElem_cons hi]
      simp [e]
  rcases occ_head_from (S l) (S [c]) p 1 (by decide) with ⟨h0, hn⟩ | ⟨i, r, h0, hi, ha, hn⟩
  · rw [h0]
    have : (l.drop p).findIdx? (· == c) = none := by
      rw [List.findIdx?_eq_none_iff]
      intro x hx
      obtain ⟨k, hk, e⟩ := List.getElem_of_mem hx
      rw [List.getElem_drop] at e
      cases q : x == c with
      | false => rfl
      | true =>
        have hl : p + k < l.length := by rw [List.length_drop] at hk; omega
        exact absurd ((one (p + k)).mpr (by rw [List.getElem?_eq_getElem hl, e, eq_of_beq q])) (hn (p + k) (by omega))
    rw [this]
  · rw [h0]
    have hk : (l.drop p).findIdx? (· == c) = some (i - p) := by
      rw [List.findIdx?_eq_some_iff_getElem]
      obtain ⟨hl, e⟩ := List.getElem?_eq_some_iff.mp ((one i).mp ha)
      have e2 : (l.drop p)[i - p]? = some c := by
        rw [List.getElem?_drop]
        have : p + (i - p) = i := by omega
        rw [this]
        exact (one i).mp ha
      obtain ⟨h3, e3⟩ := List.getElem?_eq_some_iff.mp e2
      refine ⟨h3, by simp [e3], fun j hj => ?_⟩
      have hj2 : p + j < i := by omega
      have := hn (p + j) (by omega) hj2
      rw [one] at this
      rw [List.getElem_drop]
      intro q
      apply this
      rw [List.getElem?_eq_getElem (by omega)]
      simp at q
      rw [q]
    rw [hk]
    show ((i : Nat) : Int) = ((p + (i - p) : Nat) : Int)
    have : p + (i - p) = i := by omega
    rw [this]
theorem cutS_nat (l : List Nat) {i j : Nat} (hi : i ≤ l.length) (hj : j ≤ l.length) : cutS (S l) (some (i : Int)) (some (j : Int)) = S ((l.drop i).take (j - i)) := by
  unfold cutS
  rw [HT.sIx_nat, HT.sIx_nat, S_len, Nat.min_eq_left hi, Nat.min_eq_left hj]
theorem cutS_any (l : List Nat) {i j : Nat} (hi : i ≤ l.length) : cutS (S l) (some (i : Int)) (some (j : Int)) = S ((l.drop i).take (j - i)) := by
  unfold cutS
  rw [HT.sIx_nat, HT.sIx_nat, S_len, Nat.min_eq_left hi]
  have : ((l.drop i).take (min j l.length - i)) = (l.drop i).take (j - i) := by
    by_cases h : j ≤ l.length
    · rw [Nat.min_eq_left h]
    · rw [Nat.min_eq_right (by omega), List.take_of_length_le (by rw [List.length_drop]; omega), List.take_of_length_le (by rw [List.length_drop]; omega)]
  show (⟨_⟩ : Str) = SX.S _
  rw [show (S l).cps.toList = l by simp [SX.S], this]
theorem cutS_from (l : List Nat) {i : Nat} (hi : i ≤ l.length) : cutS (S l) (some (i : Int)) none = S (l.drop i) := by
  unfold cutS
  rw [HT.sIx_nat, HT.sIx_none, S_len, Nat.min_eq_left hi]
  show (⟨_⟩ : Str) = SX.S _
  rw [show (S l).cps.toList = l by simp [SX.S], List.take_of_length_le (by rw [List.length_drop]; omega)]
theorem atI_nat2 {α : Type} {l : List α} {i : Nat} {c : α} (h : l[i]? = some c) : atI l (i : Int) = some c := atI_nat h
section
variable {H : Hp} {Q : VK} {K : PySem.W.Frag}
theorem w_ixS {l : List Nat} {i c : Nat} (hz : l.length ≤ sizeLine) (h : l[i]? = some c) (q : Q (.str (S [c])) H) : rIxS (.str (S l)) (.int (i : Int)) H Q :=
  ⟨S l, (i : Int), c, rfl, rfl, by rw [S_len]; exact hz, by rw [show (S l).cps.toList = l by simp [SX.S]]; exact atI_nat h, q⟩
theorem S_list (l : List Nat) : (S l).cps.toList = l := by simp [SX.S]
theorem w_inS {l : List Nat} {c : Nat} {P : Nat → Str → Prop} (q : P c (S l)) : ∃ (d : Nat) (z : Str), V.str (S [c]) = .str ⟨#[d]⟩ ∧ V.str (S l) = .str z ∧ P d z := ⟨c, S l, rfl, rfl, q⟩
theorem w_lenS {l : List Nat} {P : Str → Prop} (hz : l.length ≤ sizeLine) (q : P (S l)) : ∃ z, [V.str (S l)] = [V.str z] ∧ z.length ≤ sizeLine ∧ P z := ⟨S l, rfl, by rw [S_len]; exact hz, q⟩
theorem w_find3 {a b : Str} {p : Int} {P : Str → Str → Int → Prop} (q : P a b p) : ∃ (x y : Str) (i : Int), V.str a = .str x ∧ [V.str b, V.int p] = [.str y, .int i] ∧ P x y i := ⟨a, b, p, rfl, rfl, q⟩
theorem w_2s {a b : Str} {P : Str → Str → Prop} (q : P a b) : ∃ (x y : Str), V.str a = .str x ∧ [V.str b] = [.str y] ∧ P x y := ⟨a, b, rfl, rfl, q⟩
theorem w_slS {l : List Nat} {i j : Nat} (hz : l.length ≤ sizeLine) (hi : i ≤ l.length) (q : Q (.str (S ((l.drop i).take (j - i)))) H) : rSlS (.str (S l)) (some (i : Int)) (some (j : Int)) H Q :=
  ⟨S l, rfl, by rw [S_len]; exact hz, by rw [cutS_any l hi]; exact q⟩
theorem w_slS1 {l : List Nat} {i : Nat} (hz : l.length ≤ sizeLine) (hi : i ≤ l.length) (q : Q (.str (S (l.drop i))) H) : rSlS (.str (S l)) (some (i : Int)) none H Q :=
  ⟨S l, rfl, by rw [S_len]; exact hz, by rw [cutS_from l hi]; exact q⟩
theorem w_addS {a b : List Nat} {P : Str → Str → Prop} (hz : a.length + b.length ≤ sizeLine) (q : P (S a) (S b)) : ∃ i j, V.str (S a) = .str i ∧ V.str (S b) = .str j ∧ i.length + j.length ≤ sizeLine ∧ P i j :=
  ⟨S a, S b, rfl, rfl, by rw [S_len, S_len]; exact hz, q⟩
theorem tyS {z : Str} : tyV K "str" (.str z) H := rfl
theorem tyL {p : Addr} {xs : List V} (h : H p = some (.lst xs)) : tyV K "list" (.ref p) H := Or.inl ⟨rfl, xs, SqL.of h⟩
end
section
variable {K : PySem.W.Frag} {σ : L2.St} {H : Hp} {Q : VK} {tl te : TE}
theorem w_iStr {R : It → Hp → Prop} (h : te σ H fun v H1 => ∃ x, v = .str x ∧ R (Its x) H1) : iStr te σ H R := h
theorem for_str {x : Str} {g : TG} {tb : TS} {D : Ends} (Pv : Nat → L2.St → Hp → Prop) (h0 : Pv 0 σ H)
    (hs : ∀ i c σ H, x.cps.toList[i]? = some c → Pv i σ H → g (.str (S [c])) σ H fun σ2 H2 => tb { D with nx := Pv (i + 1), ct := Pv (i + 1), bk := D.nx } σ2 H2) (hd : ∀ σ H, Pv x.cps.toList.length σ H → D.nx σ H) :
    ∃ W : Nat → Nat → L2.St → Hp → Prop, (∃ m, W 0 m σ H) ∧ ∀ i m σ H, W i m σ H →
      ((Its x).stop i H ∧ D.nx σ H) ∨ ((Its x).go i H ∧ ∃ N : L2.St → Hp → Prop, (∀ σ' H', N σ' H' → ∃ m', m' < m ∧ W (i + 1) m' σ' H') ∧ ∀ v H', (Its x).yld i H v H' → g v σ H' fun σ2 H2 => tb { D with nx := N, ct := N, bk := D.nx } σ2 H2) := by
  have el : x.cps.toList.length = x.cps.size := by simp
  refine ⟨fun i m σ H => m = x.cps.size - i ∧ i ≤ x.cps.size ∧ Pv i σ H, ⟨_, rfl, Nat.zero_le _, h0⟩, ?_⟩
  rintro i m σ H ⟨rfl, hi, p⟩
  by_cases hlt : i < x.cps.size
  · refine .inr ⟨hlt, Pv (i + 1), fun σ' H' p' => ⟨x.cps.size - (i + 1), by omega, rfl, hlt, p'⟩, fun v H' y => ?_⟩
    obtain ⟨e, c, hc, rfl⟩ := y
    subst e
    exact hs i c σ _ (by simpa using hc) p
  · have e : i = x.cps.size := by omega
    subst e
    exact .inl ⟨Nat.le_refl _, hd σ H (by rw [el]; exact p)⟩
theorem w_forS {l : List Nat} {g : TG} {tb : TS} {D : Ends} (Pv : Nat → L2.St → Hp → Prop) (h0 : Pv 0 σ H)
    (hs : ∀ i c σ H, l[i]? = some c → Pv i σ H → g (.str (S [c])) σ H fun σ2 H2 => tb { D with nx := Pv (i + 1), ct := Pv (i + 1), bk := D.nx } σ2 H2) (hd : ∀ σ H, Pv l.length σ H → D.nx σ H) :
    ∃ x, V.str (S l) = .str x ∧ ∃ W : Nat → Nat → L2.St → Hp → Prop, (∃ m, W 0 m σ H) ∧ ∀ i m σ H, W i m σ H →
      ((Its x).stop i H ∧ D.nx σ H) ∨ ((Its x).go i H ∧ ∃ N : L2.St → Hp → Prop, (∀ σ' H', N σ' H' → ∃ m', m' < m ∧ W (i + 1) m' σ' H') ∧ ∀ v H', (Its x).yld i H v H' → g v σ H' fun σ2 H2 => tb { D with nx := N, ct := N, bk := D.nx } σ2 H2) :=
  ⟨S l, rfl, for_str Pv h0 (fun i c σ H hi p => hs i c σ H (by simpa [SX.S] using hi) p) (fun σ H p => hd σ H (by simpa [SX.S] using p))⟩
theorem find_one (l : List Nat) (c : Nat) : Txt.find (S l) (S [c]) = (match l.findIdx? (· == c) with | some k => (k : Int) | none => -1) := by
  have h := find3_one l c 0
  have e : Txt.find3 (S l) (S [c]) ((0 : Nat) : Int) = Txt.find (S l) (S [c]) := by
    unfold Txt.find3 Txt.find
    rw [fromIx]
    rfl
  rw [← e, h, List.drop_zero]
  cases l.findIdx? (· == c) with
  | none => rfl
  | some k =>
    show ((0 + k : Nat) : Int) = (k : Int)
    rw [Nat.zero_add]
theorem w_1s {a : Str} {P : Str → Prop} (q : P a) : ∃ (x : Str), V.str a = .str x ∧ ([] : List V) = [] ∧ P x := ⟨a, rfl, rfl, q⟩
end
section
variable {K : PySem.W.Frag} {σ : L2.St} {H : Hp} {Q : VK} {i : Nat}
theorem str_len_app (a b : Str) : (a ++ b).length = a.length + b.length := by
  rw [TL.len_tl, TL.len_tl, TL.len_tl, TL.tl_append, List.length_append]
theorem num_short {n : Nat} (h : n < 10 ^ 7) : (Str.ofString (toString ((n : Nat) : Int))).length ≤ 7 := by
  rw [TL.len_tl, TL.tl_num]
  exact TL.numL_len (by decide) h
theorem w_fmt {n : Nat} {Q : VK} (h : n < 10 ^ 7) (hv : σ[i]? = some (some (.int (n : Int)))) (q : Q (.str (toString ((n : Nat) : Int))) H) : tFmt (tVar i) σ H Q := by
  refine ⟨_, hv, .inr ⟨_, rfl, ?_, q⟩⟩
  by_cases h0 : n = 0
  · subst h0
    decide
  · rw [Int.natAbs_natCast]
    have := (Nat.log2_lt h0 (k := 24)).mpr (Nat.lt_of_lt_of_le h (by decide))
    omega
/-- f'a{n}' and f'a{n}b' -/
theorem w_msg2 {a : Str} {n : Nat} {R : Str → Hp → Prop} (ha : a.length ≤ 1000) (h : n < 10 ^ 7) (hv : σ[i]? = some (some (.int (n : Int)))) (q : ∀ z, R z H) : tJs [tC (.str a), tFmt (tVar i)] Str.empty σ H R := by
  have e0 : (Str.empty ++ a).length = a.length := by rw [str_len_app]; exact Nat.zero_add _
  have l := num_short h
  refine ⟨a, rfl, by rw [e0]; exact Nat.le_trans ha (by decide), w_fmt h hv ⟨_, rfl, ?_, q _⟩⟩
  rw [str_len_app, e0]
  exact Nat.le_trans (Nat.add_le_add ha l) (by decide)
theorem w_msg3 {a b : Str} {n : Nat} {R : Str → Hp → Prop} (ha : a.length ≤ 1000) (hb : b.length ≤ 1000) (h : n < 10 ^ 7) (hv : σ[i]? = some (some (.int (n : Int)))) (q : ∀ z, R z H) : tJs [tC (.str a), tFmt (tVar i), tC (.str b)] Str.empty σ H R := by
  have e0 : (Str.empty ++ a).length = a.length := by rw [str_len_app]; exact Nat.zero_add _
  have l := num_short h
  refine ⟨a, rfl, by rw [e0]; exact Nat.le_trans ha (by decide), w_fmt h hv ⟨_, rfl, ?_, ⟨b, rfl, ?_, q _⟩⟩⟩
  · rw [str_len_app, e0]
    exact Nat.le_trans (Nat.add_le_add ha l) (by decide)
  · rw [str_len_app, str_len_app, e0]
    exact Nat.le_trans (Nat.add_le_add (Nat.add_le_add ha l) hb) (by decide)
/-- in a tuple of texts -/
theorem inV_txt (a : List Nat) : ∀ ls : List (List Nat), inV (.str (S a)) (ls.map fun l => V.str (S l)) = decide (a ∈ ls)
  | [] => by simp [inV]
  | l :: r => by
    have ih := inV_txt a r
    unfold inV at ih ⊢
    rw [List.map_cons, List.any_cons, ih]
    show ((S l == S a) || decide (a ∈ r)) = _
    rw [SX.S_beq]
    by_cases h : l = a
    · subst h; simp
    · have : (l == a) = false := by simp [h]
      rw [this, Bool.false_or]
      have h' : ¬ a = l := fun e => h e.symm
      simp [h']
theorem flat_txt : ∀ ls : List (List Nat), (ls.map fun l => V.str (S l)).all flatV = true
  | [] => rfl
  | _ :: r => flat_txt r
theorem w_inT {a : List Nat} {p : Addr} {ls : List (List Nat)} (h : SqT K H p (ls.map fun l => V.str (S l))) (q : Q (.bl (decide (a ∈ ls))) H) : rIn K false (.str (S a)) (.ref p) H Q :=
  ⟨p, _, rfl, .inr h, rfl, flat_txt ls, by rw [inV_txt]; exact q⟩
theorem str_eq {a b : List Nat} : (decide (V.str (S a) = V.str (S b))) = decide (a = b) := by
  by_cases h : a = b
  · subst h; simp
  · rw [decide_eq_false h, decide_eq_false]
    intro e
    exact h (SX.S_inj (V.str.inj e))
theorem w_eqS {a b : List Nat} (q : Q (.bl (decide (a = b))) H) : rEq (.str (S a)) (.str (S b)) H Q := ⟨rfl, by rw [str_eq]; exact q⟩
theorem w_neS {a b : List Nat} (q : Q (.bl (!decide (a = b))) H) : rNe (.str (S a)) (.str (S b)) H Q := ⟨rfl, by rw [str_eq]; exact q⟩
theorem int_eq {a b : Int} : (decide (V.int a = V.int b)) = decide (a = b) := by simp
theorem w_eqI {a b : Int} (q : Q (.bl (decide (a = b))) H) : rEq (.int a) (.int b) H Q := ⟨rfl, by rw [int_eq]; exact q⟩
theorem w_iteN {p A B : Prop} [Decidable p] (h1 : ¬ p → A) (h2 : p → B) : if (!decide p) = true then A else B := by
  by_cases c : p
  · rw [decide_eq_true c]; exact h2 c
  · rw [decide_eq_false c]; exact h1 c
end
section
variable {X : Cx}
/-- a text times a number -/
theorem op_mulS : OpR X (binaryOp .Mult) (fun x y H Q => ∃ (a : Str) (n : Int), x = .str a ∧ y = .int n ∧ a.length ≤ 4096 ∧ n ≤ 4096 ∧ -(2 ^ 63 : Int) ≤ n ∧ Q (.str (Txt.mul a n)) H) := by
  intro pins s σ H x y v u Q I rx ry h
  obtain ⟨a, n, rfl, rfl, h1, h2, h3, q⟩ := h
  obtain ⟨t, rfl⟩ := rx
  obtain ⟨t', rfl⟩ := ry
  exact PySem.SB.mul (PyProof.Rows.mulOk_of 4096 4096 h1 (by omega) h3 (by decide) (by decide)) fun t'' k => ⟨.str (Txt.mul a n), H, I.tok k, ⟨t'', rfl⟩, q⟩
/-- 'c' op e, where e wants a token that is out -/
theorem pe_opStr {op : Operator} {r : R2} {x : Str} {j : Nat} {p pos : Pos} {f : Expr} {tf : TE} (ho : OpR X (binaryOp op) r) (hb : PET X f tf) : PE X (.BinOp (.Constant (.str x) j p) op f pos) (tOp r (tC (.str x)) tf) := by
  refine ⟨fun pins s σ H Q I h => ?_⟩
  refine wpAny_BinOp (Calls.Constant_str ?_)
  exact thn (hb pins { s with toks := s.toks + 1 } σ H _ (by show 1 ≤ s.toks + 1; omega) (I.tok _) h) fun u s2 ⟨y, H2, I2, r2, q2⟩ => ho pins s2 σ H2 (.str x) y _ u Q I2 ⟨_, rfl⟩ r2 q2
theorem w_repl {σ : L2.St} {H : Hp} {Q : VK} {to : TE} {y z : Str} (h : to σ H fun v H1 => ∃ x, v = .str x ∧ x.length + (x.length + 1) * z.length ≤ 16777216 ∧ Q (.str (Txt.replace x y z)) H1) : CwR.tReplC to y z σ H Q := h
end
theorem vS_cat (a b : List Nat) : V.str (SX.S a ++ SX.S b) = V.str (SX.S (a ++ b)) := congrArg V.str (SX.S_cat a b)
/-- ' doubled -/
theorem repl_dbl (l : List Nat) : Txt.replace (S l) (S [39]) (S [39, 39]) = S (StrLaws.dbl 39 l) := by
  rw [PyProof.Rows.replace_dbl (S l) (S [39]) (S [39, 39]) 39 rfl rfl, S_list]
theorem dbl_len (c : Nat) : ∀ l : List Nat, (StrLaws.dbl c l).length ≤ 2 * l.length
  | [] => by simp [StrLaws.dbl]
  | k :: r => by
    have := dbl_len c r
    rw [StrLaws.dbl]
    split
    · simp only [List.length_cons]; omega
    · simp only [List.length_cons]; omega
end Fw
end

section
-- part Dc
set_option Elab.async false
set_option linter.all false
set_option maxRecDepth 100000
set_option maxHeartbeats 800000
/-! Dc: what the dice of a law promise -/
namespace Dc
open PySem PySem.Spec PyProof.Rows L2 Fw
def spDice : Sp := fun vs H Q _ => ∃ c : Int, vs = [.int c] ∧ ∀ p a b e, H p = none → Q (.ref p) (upd H p (.lst [.int a, .int b, .int e]))
/-- the drawn number is anything below m -/
def spRoll : Sp := fun vs H Q _ => ∃ (d : Addr) (m a b c : Int), vs = [.ref d, .int m] ∧ H d = some (.lst [.int a, .int b, .int c]) ∧ 0 < m ∧ m < 2 ^ 60 ∧
  ∀ r a' b' c' : Int, 0 ≤ r → r < m → Q (.int r) (upd H d (.lst [.int a', .int b', .int c']))
/-- a list of new dice -/
def spRounds (K : PySem.W.Frag) : Sp := fun vs H Q _ => ∃ (a : Addr) (ns : List Int) (m : Int), vs = [.ref a, .int m] ∧ SqL K H a (ns.map V.int) ∧ ns.length ≤ 63 ∧
  ∀ (p : Addr) (H' : Hp) (ds : List Addr), Same H H' → H p = none → H' p = some (.lst (ds.map V.ref)) → (∀ d ∈ ds, Dice H' d ∧ H d = none) → ds.length ≤ 63 → Q (.ref p) H'
end Dc
end

section
-- part FsD
set_option Elab.async false
set_option linter.all false
set_option maxRecDepth 100000
set_option maxHeartbeats 2000000
namespace Fw
open PySem PySem.Spec PyProof.Rows L2
section
variable {K : PySem.W.Frag} {σ : L2.St} {H : Hp} {Q : VK} {tl te : TE} {ta : TA} {j : Nat} {vs : List Nat} {tt : TT} {g : TG} {wi : TI}
theorem w_lcRp {n : Int} {R : Addr → Hp → Prop} (hn : 0 ≤ n ∧ n < 2 ^ 62) (h : ∀ D, H D = none → ∃ Pv : Nat → Hp → Prop, Pv 0 (upd H D (.lst [])) ∧
      (∀ (i : Nat) H2, (i : Int) < n → Pv i H2 → g (.int (0 + (i : Int))) (wipe σ vs) H2 fun σ2 H2 => wipe σ2 vs = wipe σ vs ∧ tt σ2 H2 fun b H3 =>
        if b = true then te σ2 H3 fun y H4 => ∃ acc, H4 D = some (.lst acc) ∧ acc.length < sizeLine ∧ Pv (i + 1) (upd H4 D (.lst (acc ++ [y]))) else Pv (i + 1) H3) ∧ (∀ H2, Pv n.toNat H2 → R D H2)) :
    -(2 ^ 62) ≤ n ∧ n < 2 ^ 62 ∧ ∀ D, H D = none → ∃ W : Nat → Nat → Hp → Prop, (∃ m, W 0 m (upd H D (.lst []))) ∧ ∀ i m H, W i m H →
      ((Itr 0 n.toNat).stop i H ∧ R D H) ∨ ((Itr 0 n.toNat).go i H ∧ ∃ Nx : Hp → Prop, (∀ H', Nx H' → ∃ m', m' < m ∧ W (i + 1) m' H') ∧ ∀ x H', (Itr 0 n.toNat).yld i H x H' → g x (wipe σ vs) H' fun σ2 H2 => wipe σ2 vs = wipe σ vs ∧ tt σ2 H2 fun b H3 =>
        if b = true then te σ2 H3 fun y H4 => ∃ acc, H4 D = some (.lst acc) ∧ acc.length < sizeLine ∧ Nx (upd H4 D (.lst (acc ++ [y]))) else Nx H3) := by
  obtain ⟨j, e, a, b, r⟩ := w_lcR (Q := fun v H => ∀ D, v = .ref D → R D H) hn fun D hD => by
    obtain ⟨Pv, x, y, z⟩ := h D hD
    exact ⟨Pv, x, y, fun H2 p D' e => by cases e; exact z H2 p⟩
  cases e
  refine ⟨a, b, fun D hD => ?_⟩
  obtain ⟨W, w1, w2⟩ := r D hD
  refine ⟨W, w1, fun i m H hw => ?_⟩
  rcases w2 i m H hw with ⟨x, y⟩ | x
  · exact .inl ⟨x, y D rfl⟩
  · exact .inr x
theorem w_forRp {g : TG} {tb : TS} {D : Ends} {n : Int} (hn : 0 ≤ n ∧ n < 2 ^ 62) (Pv : Nat → L2.St → Hp → Prop) (h0 : Pv 0 σ H)
    (hs : ∀ (i : Nat) σ H, (i : Int) < n → Pv i σ H → g (.int (0 + (i : Int))) σ H fun σ2 H2 => tb { D with nx := Pv (i + 1), ct := Pv (i + 1), bk := D.nx } σ2 H2) (hd : ∀ σ H, Pv n.toNat σ H → D.nx σ H) :
    -(2 ^ 62) ≤ n ∧ n < 2 ^ 62 ∧ ∃ W : Nat → Nat → L2.St → Hp → Prop, (∃ m, W 0 m σ H) ∧ ∀ i m σ H, W i m σ H →
      ((Itr 0 n.toNat).stop i H ∧ D.nx σ H) ∨ ((Itr 0 n.toNat).go i H ∧ ∃ N : L2.St → Hp → Prop, (∀ σ' H', N σ' H' → ∃ m', m' < m ∧ W (i + 1) m' σ' H') ∧ ∀ x H', (Itr 0 n.toNat).yld i H x H' → g x σ H' fun σ2 H2 => tb { D with nx := N, ct := N, bk := D.nx } σ2 H2) := by
  obtain ⟨j, e, r⟩ := w_forR hn Pv h0 hs hd
  cases e
  exact r
theorem newl {d p : Addr} {H0 Hc H' : Hp} {o : HO} (k : Kp d H0 Hc) (hd : Dice Hc d) (hp : Hc p = none) (hX : upd Hc p o = H') : Kp d H0 H' ∧ Kp d Hc H' ∧ Dice H' d ∧ p ≠ d ∧ H0 p = none ∧ H' p = some o := by
  subst hX
  have hd' := hd
  obtain ⟨a, b, c, hd'⟩ := hd'
  have n : p ≠ d := (ne_of_none hd' hp).symm
  refine ⟨k.trans (Kp.new hp), Kp.new hp, hd.new hp, n, ?_, upd_same⟩
  cases e : H0 p with
  | none => rfl
  | some u => rw [k _ _ n e] at hp; cases hp
theorem w_roll {d : Addr} {m : Int} {H0 Hc : Hp} {Q : VK} {E : XK} (h0 : 0 < m) (h1 : m < 2 ^ 60) (k : Kp d H0 Hc) (hd : Dice Hc d) (h : ∀ (r : Int) (H' : Hp), 0 ≤ r → r < m → Kp d H0 H' → Kp d Hc H' → Dice H' d → Q (.int r) H') : Dc.spRoll [.ref d, .int m] Hc Q E := by
  obtain ⟨a, b, c, hd⟩ := hd
  exact ⟨d, m, a, b, c, rfl, hd, h0, h1, fun r a' b' c' e0 e1 => h r _ e0 e1 (k.trans Kp.at_) Kp.at_ ⟨a', b', c', upd_same⟩⟩
/-- a list of signs drawn from cs -/
theorem w_draws {d : Addr} {H0 : Hp} {cs : List Nat} {k : Nat} {m n : Int} {x : Str} {R : Addr → Hp → Prop} (hx : x = S cs) (hm : m = cs.length) (h0 : 0 < m) (h1 : m ≤ 1000) (hn : 0 ≤ n ∧ n ≤ 1000) (kp : Kp d H0 H) (dd : Dice H d)
    (hσ : ∀ v, ((wipe σ vs).set k (some v))[0]? = some (some (.ref d))) (hw : ∀ v, wipe ((wipe σ vs).set k (some v)) vs = wipe σ vs)
    (h : ∀ (D : Addr) (H2 : Hp) (l : List Nat), Kp d H0 H2 → Kp d H H2 → Dice H2 d → H2 D = some (.lst (l.map fun c => V.str (S [c]))) → (∀ c ∈ l, c ∈ cs) → l.length = n.toNat → R D H2) :
    -(2 ^ 62) ≤ n ∧ n < 2 ^ 62 ∧ ∀ D, H D = none → ∃ W : Nat → Nat → Hp → Prop, (∃ m, W 0 m (upd H D (.lst []))) ∧ ∀ i m' H, W i m' H →
      ((Itr 0 n.toNat).stop i H ∧ R D H) ∨ ((Itr 0 n.toNat).go i H ∧ ∃ Nx : Hp → Prop, (∀ H', Nx H' → ∃ m'', m'' < m' ∧ W (i + 1) m'' H') ∧ ∀ z H', (Itr 0 n.toNat).yld i H z H' → gName k z (wipe σ vs) H' fun σ2 H2 => wipe σ2 vs = wipe σ vs ∧ tYes σ2 H2 fun b H3 =>
        if b = true then tOp rIxS (tC (.str x)) (tCl Dc.spRoll C8.E0 (tCons (tVar 0) (tCons (tC (.int m)) tNil))) σ2 H3 fun y H4 => ∃ acc, H4 D = some (.lst acc) ∧ acc.length < sizeLine ∧ Nx (upd H4 D (.lst (acc ++ [y]))) else Nx H3) := by
  subst hx
  refine w_lcRp ⟨hn.1, Int.lt_of_le_of_lt hn.2 (by decide)⟩ fun D hD => ?_
  obtain ⟨kp1, kp2, dd1, nD, fD, eD⟩ := newl (o := .lst []) kp dd hD rfl
  refine ⟨fun i H2 => ∃ l : List Nat, l.length = i ∧ (∀ c ∈ l, c ∈ cs) ∧ H2 D = some (.lst (l.map fun c => V.str (S [c]))) ∧ Kp d H0 H2 ∧ Kp d H H2 ∧ Dice H2 d, ⟨[], rfl, fun c hc => absurd hc List.not_mem_nil, eD, kp1, kp2, dd1⟩, ?_, ?_⟩
  · rintro i H2 hi ⟨l, rfl, hl, e2, k2, k3, d2⟩
    refine w_gname ⟨hw _, w_yes ?_⟩
    rw [if_pos rfl]
    refine w_op (w_c (w_cl (w_cons (w_var (hσ _) (w_cons (w_c (w_nil (w_roll h0 (Int.lt_of_le_of_lt h1 (by decide)) k2 d2 fun r H3 r0 r1 k4 k5 d4 => ?_))))))))
    obtain ⟨q, rfl⟩ := Int.eq_ofNat_of_zero_le r0
    have hq : q < cs.length := by omega
    refine w_ixS (Nat.le_trans (by omega : cs.length ≤ 1000) (by decide)) (List.getElem?_eq_getElem hq) ?_
    have e3 := k5 _ _ nD e2
    have hf : H D = none := hD
    have fin : ∀ {Hs : Hp}, Kp d Hs H3 → Hs D = none → Kp d Hs (upd H3 D (.lst ((l.map fun c => V.str (S [c])) ++ [V.str (S [cs[q]])]))) := fun {Hs} a f b o nb e => by
      rw [upd_ne (ne_of_none e f)]
      exact a b o nb e
    refine ⟨_, e3, by rw [List.length_map]; exact Nat.lt_of_lt_of_le (by omega : l.length < 1001) (by decide), l ++ [cs[q]], by simp, ?_, by rw [upd_same, List.map_append]; rfl, fin k4 fD, fin (k3.trans k5) hD, ?_⟩
    · intro c hc
      rcases List.mem_append.mp hc with hc | hc
      · exact hl c hc
      · rw [List.mem_singleton.mp hc]; exact List.getElem_mem hq
    · obtain ⟨a, b, c, e⟩ := d4
      exact ⟨a, b, c, by rw [upd_ne nD.symm]; exact e⟩
  · rintro H2 ⟨l, hl, hc, e, k1, k2, d2⟩
    exact h D H2 l k1 k2 d2 e hc hl
theorem joinL_one : ∀ l : List Nat, TL.joinL [] (l.map fun c => [c]) = l
  | [] => rfl
  | [c] => rfl
  | c :: d :: r => by
    have ih := joinL_one (d :: r)
    show [c] ++ ([] ++ TL.joinL [] ([d] :: r.map fun c => [c])) = c :: d :: r
    rw [List.nil_append]
    rw [List.map_cons] at ih
    rw [ih]
    rfl
theorem join1 {K : PySem.W.Frag} {H : Hp} {D : Addr} {l : List Nat} (hl : l.length ≤ 1000) (e : H D = some (.lst (l.map fun c => V.str (S [c])))) :
    SqL K H D (List.map V.str (l.map fun c => S [c])) ∧ (List.map (fun x : Str => x.length) (l.map fun c => S [c])).sum + (l.map fun c => S [c]).length * (S []).length ≤ 16777216 ∧ Txt.join (S []) (l.map fun c => S [c]) = S l := by
  have e1 : (l.map fun c => V.str (S [c])) = (l.map fun c => S [c]).map V.str := by rw [List.map_map]; rfl
  have e2 : (l.map fun c => S [c]) = (l.map fun c => [c]).map SX.S := by rw [List.map_map]; rfl
  have e3 : ∀ l : List Nat, (List.map (fun x : Str => x.length) (l.map fun c => S [c])).sum = l.length := fun l => by
    induction l with
    | nil => rfl
    | cons c r ih => simp only [List.map_cons, List.sum_cons, ih, List.length_cons, SX.S_len, List.length_nil]; omega
  refine ⟨by rw [← e1]; exact SqL.of e, ?_, ?_⟩
  · rw [e3, show (S []).length = 0 from rfl, Nat.mul_zero]
    omega
  · rw [e2, show S [] = SX.S [] from rfl, SX.join_S, joinL_one]
end
end Fw
end

section
-- part FyD
set_option Elab.async false
set_option linter.all false
set_option maxRecDepth 100000
set_option maxHeartbeats 2000000
/-! Fy5: more rules -/
namespace Fw
open PySem PySem.Spec PyProof.Rows L2 SX
section
variable {K : PySem.W.Frag} {σ : L2.St} {H : Hp} {Q : VK} {te : TE} {t : TA} {QA : List V → Hp → Prop}
theorem isi_str : PySem.W.kitOne K (.type "str") (.type "str") = some true := by rfl
theorem isi_int : PySem.W.kitOne K (.type "int") (.type "str") = some false := by rfl
theorem isi_non : PySem.W.kitOne K (.type "NoneType") (.type "str") = some false := by rfl
theorem w_isiS {x : Str} (q : Q (.bl true) H) : L2.rIsi K [.str x, .ty "str"] H Q := ⟨_, _, _, _, _, rfl, .ty _, .base (.str x), isi_str, q⟩
theorem w_isiI {i : Int} (q : Q (.bl false) H) : L2.rIsi K [.int i, .ty "str"] H Q := ⟨_, _, _, _, _, rfl, .ty _, .base (.int i), isi_int, q⟩
theorem w_isiN (q : Q (.bl false) H) : L2.rIsi K [.non, .ty "str"] H Q := ⟨_, _, _, _, _, rfl, .ty _, .base .non, isi_non, q⟩
theorem w_star (h : te σ H fun x H1 => ∃ p xs, x = V.ref p ∧ (SqT K H1 p xs ∨ SqL K H1 p xs) ∧ t σ H1 fun ys H2 => QA (xs ++ ys) H2) : StX.tStar K te t σ H QA := h
theorem w_revL (h : te σ H fun x H1 => ∃ a xs, x = .ref a ∧ SqL K H1 a xs ∧ ∀ p, H1 p = none → Q (.ref p) (upd H1 p (.lst xs.reverse))) : tRevL K te σ H Q := h
theorem w_isN0 (q : Q (.bl true) H) : (fun x y H Q => y = V.non ∧ Q (.bl (decide (x = V.non))) H) V.non V.non H Q := ⟨rfl, by rw [decide_eq_true rfl]; exact q⟩
end
section
open PySem.AutoSeq1
theorem ext_tup (l : Addr) (us : Array Value) (n : Nat) (b : Addr) (ws : Array Value) (n2 : Nat) (dd : Option Addr) (sl : Array (Option Value)) (h0 : ¬(!us.isEmpty && Builtin.List.listTooLong (us.size + ws.size)) = true) (h1 : us.size ≤ sizeLine) (h2 : us.size + ws.size ≤ sizeLine + 1) :
    Meets (Builtin.«list.extend» ⟨[.ref l, .ref b], []⟩) (fun _ R s => s.heap.get? l = some { cls := .type "list", dict := none, data := .seq us n, slots := #[] } ∧ s.heap.get? b = some { cls := .type "tuple", dict := dd, data := .seq ws n2, slots := sl } ∧
      R (.ok (.ret Value.none)) { s with heap := s.heap.update l (Obj.mapSeq fun x => x ++ ws), toks := s.toks }) :=
  .of_wp fun prog w A R s h => by
    obtain ⟨hp, g, d, tk, os⟩ := s
    obtain ⟨hl, hb, h⟩ := h
    have f1 := AutoSeq1.idx_int
    have f2 := AutoSeq1.sub_tuple_tuple
    have f3 := AutoSeq1.sub_list_list
    have f4 := AutoSeq1.sub_tuple_list
    have f5 := AutoSeq1.sub_list_tuple
    have hz' : (us ++ ws).size ≤ sizeLine + 1 := by rw [Array.size_append]; exact h2
    wp_walk using (wpAny_updateSeq hl rfl (hz := h1) (_hz' := hz')), wpAny_loadPart' hl, wpAny_loadPart' hb; exact ⟨_, rfl, h⟩
end
section
variable {X : Cx}
/-- l.extend(t): t a list that is tracked, or a tuple -/
def rExtT (K : PySem.W.Frag) : V → List V → Hp → VK → Prop := fun x vs H Q => ∃ l b xs zs, x = .ref l ∧ vs = [.ref b] ∧ H l = some (.lst xs) ∧ SqT K H b zs ∧ xs.length + zs.length ≤ sizeLine ∧ Q .non (upd H l (.lst (xs ++ zs)))
theorem mt_extT : MtM X "list.extend" (rExtT X.K) := by
  intro pins s σ H x vs v us Q I rx rv h
  obtain ⟨l, b, xs, zs, rfl, rfl, hH, hB, hz, q⟩ := h
  cases rx
  obtain ⟨u, rfl, ru⟩ := rv.one
  cases ru
  obtain ⟨z, its, n, r, hl, e⟩ := I.lstM hH
  obtain ⟨its2, r2, ⟨⟨cls, dd, data, sl⟩, e2, hc, n2, hd⟩, hs⟩ := I.tuple hB
  simp only at hc hd
  subst hc hd
  have hl2 := r2.length
  have hsz : its.toArray.size + its2.toArray.size ≤ sizeLine := by rw [List.size_toArray, List.size_toArray]; omega
  have hlong : ¬ (!its.toArray.isEmpty && Builtin.List.listTooLong (its.toArray.size + its2.toArray.size)) = true := by
    rw [notLongL hsz, Bool.and_false]
    exact Bool.false_ne_true
  refine call_meets F.slot_list_extend ⟨_, e, rfl⟩ F.entry_list_extend (F.args_list_extend_2 _ _)
    (ext_tup l its.toArray n b its2.toArray n2 dd sl hlong (by rw [List.size_toArray]; omega) (by omega)) ⟨e, e2, ?_⟩
  refine ⟨.non, _, I.lset (its' := its ++ its2) hH e (by simp) (r.append r2) ?_, rfl, q⟩
  rw [List.length_append]
  omega
theorem w_extT {K : PySem.W.Frag} {l b : Addr} {xs zs : List V} {H : Hp} {Q : VK} (h : H l = some (.lst xs)) (t : SqT K H b zs) (hz : xs.length + zs.length ≤ sizeLine) (q : Q .non (upd H l (.lst (xs ++ zs)))) : rExtT K (.ref l) [.ref b] H Q := ⟨l, b, xs, zs, rfl, rfl, h, t, hz, q⟩
end
section
variable {K : PySem.W.Frag} {σ : L2.St} {H : Hp} {te : TE} {vs : List Nat} {tt : TT} {g : TG}
/-- [.. for sign in text] -/
theorem w_lcS {l : List Nat} {R : Addr → Hp → Prop} (h : ∀ D, H D = none → ∃ Pv : Nat → Hp → Prop, Pv 0 (upd H D (.lst [])) ∧
      (∀ i c H2, l[i]? = some c → Pv i H2 → g (.str (S [c])) (wipe σ vs) H2 fun σ2 H2 => wipe σ2 vs = wipe σ vs ∧ tt σ2 H2 fun b H3 =>
        if b = true then te σ2 H3 fun y H4 => ∃ acc, H4 D = some (.lst acc) ∧ acc.length < sizeLine ∧ Pv (i + 1) (upd H4 D (.lst (acc ++ [y]))) else Pv (i + 1) H3) ∧ (∀ H2, Pv l.length H2 → R D H2)) :
    ∃ x, V.str (S l) = .str x ∧ ∀ D, H D = none → ∃ W : Nat → Nat → Hp → Prop, (∃ m, W 0 m (upd H D (.lst []))) ∧ ∀ i m H, W i m H →
      ((Its x).stop i H ∧ R D H) ∨ ((Its x).go i H ∧ ∃ Nx : Hp → Prop, (∀ H', Nx H' → ∃ m', m' < m ∧ W (i + 1) m' H') ∧ ∀ y H', (Its x).yld i H y H' → g y (wipe σ vs) H' fun σ2 H2 => wipe σ2 vs = wipe σ vs ∧ tt σ2 H2 fun b H3 =>
        if b = true then te σ2 H3 fun y H4 => ∃ acc, H4 D = some (.lst acc) ∧ acc.length < sizeLine ∧ Nx (upd H4 D (.lst (acc ++ [y]))) else Nx H3) := by
  refine ⟨S l, rfl, fun D hD => ?_⟩
  obtain ⟨Pv, h0, hs, hd⟩ := h D hD
  have el : (S l).cps.size = l.length := by rw [← S_list l]; simp
  have el2 : (S l).cps.toList = l := S_list l
  refine ⟨fun i m H => m = (S l).cps.size - i ∧ i ≤ (S l).cps.size ∧ Pv i H, ⟨_, rfl, Nat.zero_le _, h0⟩, ?_⟩
  rintro i m H ⟨rfl, hi, p⟩
  by_cases hlt : i < (S l).cps.size
  · refine .inr ⟨hlt, Pv (i + 1), fun H' p' => ⟨(S l).cps.size - (i + 1), by omega, rfl, hlt, p'⟩, fun v H' y => ?_⟩
    obtain ⟨e, c, hc, rfl⟩ := y
    subst e
    have hc2 : l[i]? = some c := by
      rw [← el2]
      simpa using hc
    exact hs i c _ hc2 p
  · have e : i = (S l).cps.size := by omega
    subst e
    rw [el] at p
    exact .inl ⟨Nat.le_refl _, hd H p⟩
/-- over a tuple -/
theorem w_lcTn {p : Addr} {xs : List V} {R : Addr → Hp → Prop} (hS : SqT K H p xs) (h : ∀ D, H D = none → ∃ Pv : Nat → Hp → Prop, Pv 0 (upd H D (.lst [])) ∧ (∀ i H2, i ≤ xs.length → Pv i H2 → SqT K H2 p xs) ∧
      (∀ i x H2, xs[i]? = some x → Pv i H2 → g x (wipe σ vs) H2 fun σ2 H2 => wipe σ2 vs = wipe σ vs ∧ tt σ2 H2 fun b H3 =>
        if b = true then te σ2 H3 fun y H4 => ∃ acc, H4 D = some (.lst acc) ∧ acc.length < sizeLine ∧ Pv (i + 1) (upd H4 D (.lst (acc ++ [y]))) else Pv (i + 1) H3) ∧ (∀ H2, Pv xs.length H2 → R D H2)) :
    ∃ a, V.ref p = .ref a ∧ (∃ xs, SqT K H a xs) ∧ ∀ D, H D = none → ∃ W : Nat → Nat → Hp → Prop, (∃ m, W 0 m (upd H D (.lst []))) ∧ ∀ i m H, W i m H →
      ((Itt K a).stop i H ∧ R D H) ∨ ((Itt K a).go i H ∧ ∃ Nx : Hp → Prop, (∀ H', Nx H' → ∃ m', m' < m ∧ W (i + 1) m' H') ∧ ∀ x H', (Itt K a).yld i H x H' → g x (wipe σ vs) H' fun σ2 H2 => wipe σ2 vs = wipe σ vs ∧ tt σ2 H2 fun b H3 =>
        if b = true then te σ2 H3 fun y H4 => ∃ acc, H4 D = some (.lst acc) ∧ acc.length < sizeLine ∧ Nx (upd H4 D (.lst (acc ++ [y]))) else Nx H3) := by
  refine ⟨p, rfl, ⟨xs, hS⟩, fun D hD => ?_⟩
  obtain ⟨Pv, h0, hl, hs, hd⟩ := h D hD
  exact lc_tup (Qd := fun H => R D H) Pv h0 hl hs hd
end
end Fw
end

section
-- part Fr
set_option Elab.async false
set_option linter.all false
set_option maxRecDepth 100000
set_option maxHeartbeats 4000000
/-! Fr: a list comprehension whose element may raise -/
namespace Fw
open PySem PySem.Spec PyProof.Rows L2
section
variable {M : Model} {A : Around} {E : Value → Shared → Prop} {s : Shared} {env : Env}
/-- the end of a block whose own env is ce -/
def endOf (M : Model) (A : Around) (E : Value → Shared → Prop) (use : Option (Value → Sem Unit)) (Q : Value → Shared → Prop) (acc : Value) (ce : Env) : Result → Shared → Prop
  | .ok _, t => match use with
    | none => ∃ m, t.heap.Ns ce.locals m ∧ ∀ g, Heap.SameBut ce.locals t.heap g → Q acc { t with heap := g }
    | some u => wpAny M A (u acc) (fun _ t' => ∃ m, t'.heap.Ns ce.locals m ∧ ∀ g, Heap.SameBut ce.locals t'.heap g → Q .none { t' with heap := g }) E t
  | .error x, t => ∃ m, t.heap.Ns ce.locals m ∧ ∀ g, Heap.SameBut ce.locals t.heap g → wpAny M A (passOn "comprehension.variables-let-go" x ce : Sem Value) (fun _ _ => False) E { t with heap := g }
theorem comp_run {e : Expr} {scope : Scope} {pos : Pos} {mk first : Sem Value} {c : Comprehension} {cs : List Comprehension} {cl : List (Str × Addr)} {use : Option (Value → Sem Unit)} {Q : Value → Shared → Prop}
    (h1 : clausesOf e = c :: cs) (h2 : ∀ x, foldedSetIterable c.iter env x = pure x) (h3 : closureFor scope env = pure cl) (hk : scope.kind = .function) (hn : ∀ x ∈ scope.names, x.2 = .local → scope.names.lookup x.1 = some .local)
    (h : wpAny M A first (fun x t1 => wpAny M A (pyIter x) (fun it t2 => wpAny M A mk (fun acc t3 => wpAny M A (newFunctionEnv scope env.globals cl [] env.qual none .none (some env)) (fun ce t4 =>
      codeAny M A (.compStart e 0 it acc { ce with scope := relabel scope env }) (endOf M A E use Q acc { ce with scope := relabel scope env }) t4) E t3) E t2) E t1) E s) :
    wpAny M A (comprehension e scope env pos mk false first use) Q E s := by
  unfold comprehension
  rw [h3, h1]
  refine wpAny_bind (wpAny_mono h (fun x t1 q1 => ?_) fun _ _ z => z)
  refine wpAny_bind (wpAny_standAt (wpAny_bind (wpAny_of_eq (h2 x) (wpAny_bind (wpAny_holding (wpAny_mono q1 (fun it t2 q2 => ?_) fun _ _ z => z))))))
  refine wpAny_standIf (wpAny_bind (wpAny_mono q2 (fun acc t3 q3 => ?_) fun _ _ z => z))
  refine wpAny_bind (wpAny_pure (wpAny_bind (wpAny_mono q3 (fun ce t4 q4 => ?_) fun _ _ z => z)))
  dsimp only
  have lk : ∀ {y}, y ∈ (scope.names.filter fun x => (x.2 == .local || x.2 == .cell) && x.1 != (".0" : Str)).reverse → y.2 = .local → Env.kindOf { ce with scope := relabel scope env } y.1 = some .local := fun {y} hy hl =>
    lookup_relabel_local (hn y (List.mem_filter.mp (List.mem_reverse.mp hy)).1 hl)
  have lk2 : ∀ y ∈ (scope.names.filter fun x => (x.2 == .local || x.2 == .cell) && x.1 != (".0" : Str)).reverse.drop 1 ++ (scope.names.filter fun x => (x.2 == .local || x.2 == .cell) && x.1 != (".0" : Str)).reverse.take 1,
      y.2 = .local → Env.kindOf { ce with scope := relabel scope env } y.1 = some .local := fun y hy hl => (List.mem_append.mp hy).elim (fun z => lk (List.mem_of_mem_drop z) hl) fun z => lk (List.mem_of_mem_take z) hl
  refine wpAny_holding (wpAny_bind (wpAny_attempt (wpAny_holding (wpAny_run (codeAny_mono q4 fun r t qr => ?_)))))
  cases r with
  | error x =>
    obtain ⟨m, hm, qr⟩ := qr
    exact wpAny_bind (wpAny_holding (wpAny_comp_letGo (cenv := { ce with scope := relabel scope env }) hk _ t m (fun y hy hl => lk hy hl) hm fun g _ _ sb => wpAny_mono (qr g sb) (fun _ _ z => z.elim) fun _ _ z => z))
  | ok f =>
    cases use with
    | none =>
      obtain ⟨m, hm, qr⟩ := qr
      exact wpAny_bind (wpAny_holding (wpAny_comp_letGo (cenv := { ce with scope := relabel scope env }) hk _ t m (fun y hy hl => lk hy hl) hm fun g _ _ sb => wpAny_pure (qr g sb)))
    | some u =>
      refine wpAny_bind (wpAny_rule (wpAny_bind (wpAny_holding (wpAny_mono qr (fun _ t' qr' => ?_) fun _ _ z => z))))
      obtain ⟨m, hm, qr'⟩ := qr'
      exact wpAny_bind (wpAny_comp_letGo (cenv := { ce with scope := relabel scope env }) hk _ t' m lk2 hm fun g _ _ sb => wpAny_pure (qr' g sb))
end
theorem frames_but {h h' B : Heap} {C : Addr} (k : ∀ b o, b ≠ C → h.get? b = some o → h'.get? b = some o) : ∀ {l : List Env}, h.FunFrames B l → C ∉ frs l → h'.FunFrames B l
  | [], _, _ => trivial
  | env :: l, x, n => by
    obtain ⟨x1, ⟨L, o, hf, hb, ho, hd⟩, x2⟩ := x
    have mL : L ∈ frs (env :: l) := List.mem_filterMap.mpr ⟨env, List.mem_cons_self, hf⟩
    refine ⟨x1, ⟨L, o, hf, hb, k L o (fun z => n (z ▸ mL)) ho, hd⟩, frames_but k x2 fun m => n ?_⟩
    obtain ⟨e, he, q⟩ := List.mem_filterMap.mp m
    exact List.mem_filterMap.mpr ⟨e, List.mem_cons_of_mem _ he, q⟩
theorem frames_base {h B B' : Heap} : ∀ {l : List Env}, h.FunFrames B l → (∀ b, B.get? b = none → B'.get? b = none) → h.FunFrames B' l
  | [], _, _ => trivial
  | env :: l, x, n => by
    obtain ⟨x1, ⟨L, o, hf, hb, ho, hd⟩, x2⟩ := x
    exact ⟨x1, ⟨L, o, hf, n L hb, ho, hd⟩, frames_base x2 n⟩
section
variable {X : Cx}
/-- what leaves a block by a call in it -/
def fromBlock (B : Cx) (X : Cx) (E : XK) : Value → Shared → Prop := fun u t => ∃ pins σ H s, Inv B pins σ H s ∧ L2.CX X.prog X.w X.stack H s E u t
theorem passes_block {B : Cx} {E : XK} (hs : B.stack = X.stack) : Passes (L2.CX X.prog X.w) (B.wish (fromBlock B X E)) E := by
  intro pins σ H s e t I c
  refine ⟨pins, σ, H, s, I.unwish, ?_⟩
  rw [← hs]
  exact c
theorem note_same {ce env : Env} (h : ce.frame = env.frame) (x : Value) : noteFrame x ce = noteFrame x env := by
  unfold noteFrame PySem.frameOf
  rw [h]
theorem block_raise {pins : List (Addr × Obj)} {σ : L2.St} {H3 : Hp} {s3 : Shared} {scope : Scope} {ce : Env} {fp : List Addr} {E : XK} {use : Option (Value → Sem Unit)} {Qf : Value → Shared → Prop} {acc u : Value} {t : Shared}
    (hs : X.stack = X.env :: X.outer) (hf : X.env.frame = some X.env.locals) (tk : Takes X (fun cls d _ H => E cls d H)) (I3 : Inv X pins σ H3 s3) (hcf : ce.frame = X.env.frame) (hcl : ce.locals = s3.heap.objs.size) (f3 : ∀ b ∈ fp, FpOk X pins H3 b)
    (r : fromBlock (X.blk s3 H3 scope ce fp) X E u t) : notedBy (model X.prog X.w) X.A ce (fun e t => endOf (model X.prog X.w) X.A X.xe use Qf acc ce (.error e) t) u t := by
  obtain ⟨pB, σB, HB, sB, IB, a, Bg, H', cls, d, rfl, fl, hok, ub, na, os, ag, hE⟩ := r
  have I7 : Inv X pins σ HB sB := I3.call' (ch := fp) IB.os IB.base IB.hok IB.bare fun b hb => ⟨(f3 b hb).2.2.2.1, (f3 b hb).2.1, (f3 b hb).2.2.2.2.1, (f3 b hb).2.2.2.2.2⟩
  have nC : HB ce.locals = none := IB.free
  obtain ⟨m, hn, _⟩ := IB.loc
  have hn : sB.heap.Ns ce.locals m := hn
  have fC : FpOk X pins HB s3.heap.objs.size := I3.fpOk (Nat.le_refl _) (by rw [← hcl]; exact nC)
  rw [← hcl] at fC
  generalize hC : ce.locals = C at nC hn fC
  have Cf : C ∉ frs X.stack := fun hm => by
    rcases List.mem_cons.mp (I3.stkSub C hm) with z | z
    · exact fC.2.1 z
    · exact fC.2.2.1 z
  obtain ⟨oC, _, _, eC, _⟩ := id hn
  have hn' : t.heap.Ns C m := hn.at' fun o e => fl.1 _ _ (ub.keep C o e nC Cf)
  have nC' : H' C = none := ub.free C oC eC nC
  -- the ground without C
  obtain ⟨B', b1, b2⟩ := restrict Bg fun b => decide (b ≠ C)
  have b3 : ∀ b o, B'.get? b = some o → Bg.get? b = some o ∧ b ≠ C := fun b o e => by
    by_cases z : b = C
    · rw [b2 b (by simp [z])] at e
      cases e
    · exact ⟨by rw [← b1 b (by simp [z])]; exact e, z⟩
  have b4 : ∀ b o, b ≠ C → Bg.get? b = some o → B'.get? b = some o := fun b o z e => by rw [b1 b (by simp [z])]; exact e
  have b5 : ∀ b, Bg.get? b = none → B'.get? b = none := fun b e => by
    cases q : B'.get? b with
    | none => rfl
    | some o => rw [(b3 b o q).1] at e; cases e
  have hfr : X.A.frames = some (X.env :: X.outer) := by rw [I3.ok.frames, hs]
  rw [hs] at fl
  unfold notedBy
  rw [note_same hcf]
  refine HandSPX.looks_onZ Zc.steady hfr hf fl fun h1 held up1 => ?_
  obtain ⟨k1, k2, k3, oe, vs, T, oT, ts, he, hz, hd, q1, nT, Ta, hT, hdT, q3⟩ := held
  refine ⟨m, ?_, fun g sb => ?_⟩
  · rw [hC]
    exact hn.at' fun o e => k1 _ _ (ub.keep C o e nC Cf)
  have bC := ub.keep C oC eC nC Cf
  have aC : a ≠ C := fun z => by rw [z, bC] at k2; cases k2
  have TC : T ≠ C := fun z => by rw [z, bC] at nT; cases nT
  have same : ∀ b, b ≠ C → g.get? b = h1.get? b := fun b hb => sb.2 b (by rw [hC]; exact hb)
  have held2 : HandSPX.HeldZ B' (X.env :: X.outer) a (Zc cls d) X.env.locals g := by
    refine ⟨fun b o e => ?_, b5 a k2, frames_base (frames_but (fun b o hb e => (same b hb).trans e) k3 (by rw [← hs]; exact Cf)) b5, oe, vs, T, oT, ts, (same a aC).trans he, hz, hd, q1, b5 T nT, Ta, (same T TC).trans hT, hdT, q3⟩
    obtain ⟨e1, e2⟩ := b3 b o e
    exact (same b e2).trans (k1 _ _ e1)
  unfold PySem.passOn
  refine wpAny_bind (wpAny_field ((same a aC).trans he) hd q1 ?_)
  rw [if_neg (show ¬ ((Value.ref T == Value.none) = true) from by simp)]
  have fin : wpAny (model X.prog X.w) X.A (setFlight (.ref a) ce.frame) (fun _ t4 => wpAny (model X.prog X.w) X.A (throw (.ref a) : Sem Value) (fun _ _ => False) X.xe t4) X.xe { t with heap := g } := by
    rw [hcf, hf]
    refine HandSPX.setFlight_onZ held2 fun h2 held3 up3 => wpAny_throw (tk _ _ ?_)
    obtain ⟨G, g1, g2⟩ := restrict t.heap fun b => (B'.get? b).isSome || decide (b ∈ frs X.stack)
    have og : ∀ b o, G.get? b = some o → t.heap.get? b = some o ∧ ((B'.get? b).isSome = true ∨ b ∈ frs X.stack) := fun b o e => by
      cases q : ((B'.get? b).isSome || decide (b ∈ frs X.stack)) with
      | true =>
        rw [g1 b q] at e
        exact ⟨e, by simpa [Bool.or_eq_true] using q⟩
      | false => rw [g2 b q] at e; cases e
    have gB : ∀ b o, B'.get? b = some o → G.get? b = some o := fun b o e => by
      rw [g1 b (by simp [e])]
      exact fl.1 b o (b3 b o e).1
    have gF : ∀ b, b ∈ frs X.stack → G.get? b = t.heap.get? b := fun b hb => g1 b (by simp [hb])
    have GC : ∀ b o, G.get? b = some o → b ≠ C := fun b o e z => by
      rcases (og b o e).2 with q | q
      · obtain ⟨o', q⟩ := Option.isSome_iff_exists.mp q
        exact (b3 b o' q).2 z
      · exact Cf (z ▸ q)
    refine ⟨a, B', { sB with heap := G, gens := t.gens, drawn := t.drawn, toks := t.toks }, pins, σ, H', cls, d, rfl, ?_, fun b o e hb => ?_, fun b o e hnf => ?_, .inr (.inr (by rw [hs]; exact held3)), na, os, ag, hE⟩
    · have slotF : ∀ b o, sB.heap.get? b = some o → b ∈ frs X.stack → ∃ sl, G.get? b = some { o with slots := sl } := fun b o e hb => by
        obtain ⟨sl, q⟩ := ub.slot b o e hb
        exact ⟨sl, by rw [gF b hb]; exact q⟩
      refine I7.call (ch := [C]) ⟨fun b o e n hb hc => gB b o (b4 b o (fun z => hc (by simp [z])) (ub.keep b o e n hb)), fun b o e n hb hc => slotF b o e hb, fun b o e n _ => ub.free b o e n, fun b o e hc => ?_, ub.tups, ub.frzs, ub.tbls⟩ (fun b o q => ?_) ag fun b hb => ?_
      · by_cases hb : b ∈ frs X.stack
        · obtain ⟨sl, q⟩ := slotF b o e hb
          exact ⟨_, q⟩
        · obtain ⟨o', q⟩ := ub.there b o e hb
          exact ⟨o', gB b o' (b4 b o' (fun z => hc (by simp [z])) q)⟩
      · refine (hok b o q).stay (fun c v hc e => gB c v (b4 c v (fun z => ?_) e)) (fun _ z => z) fun _ _ z => z
        rcases hc with hc | hc
        · rw [← hc, z, nC'] at q; cases q
        · rw [z, nC'] at hc; cases hc
      · rw [List.mem_singleton.mp hb]
        exact ⟨fC.2.2.2.1, fC.2.1, fC.2.2.2.2.1, fC.2.2.2.2.2⟩
    · obtain ⟨e', q⟩ := og b o e
      rcases q with q | q
      · obtain ⟨o', q⟩ := Option.isSome_iff_exists.mp q
        have z := fl.1 b o' (b3 b o' q).1
        rw [e'] at z
        cases z
        exact q
      · exact absurd q hb
    · obtain ⟨e', _⟩ := og b o e
      obtain ⟨sl, z1⟩ := up1 b o e' hnf
      have z2 := (same b (GC b o e)).trans z1
      obtain ⟨sl2, z3⟩ := up3 b _ z2 hnf
      exact ⟨sl2, z3⟩
  first
    | exact wpAny_bind (wpAny_pure (wpAny_bind fin))
    | exact wpAny_bind fin
/-- the comprehension's rule, its element one that may raise E -/
theorem lc_raise {pins : List (Addr × Obj)} {s : Shared} {σ : L2.St} {H : Hp} {Q : VK} {elt tg iter : Expr} {ifs : List Expr} {scope : Scope} {own : List (Str × Nat)} {pos pos' : Pos} {wi : TI} {g : TG} {tt : TT} {te : TE} {use : Option (Value → Sem Unit)} {Qf : Value → Shared → Prop} {E : XK}
    (hs : X.stack = X.env :: X.outer) (hf : X.env.frame = some X.env.locals) (tk : Takes X (fun cls d _ H => E cls d H)) (calm : X.calm = true) (hN : X.N.Nodup) (I : Inv X pins σ H s) (hi : PI X tg iter wi) (ok : BlkOk X.N X.env.scope scope own)
    (hg : ∀ (s : Shared) (H : Hp) (C : Addr) (cl : List (Str × Addr)) (fp : List Addr), PG (X.blk s H scope (compEnvC scope cl C X.env) fp) tg g)
    (ht : ∀ (s : Shared) (H : Hp) (C : Addr) (cl : List (Str × Addr)) (fp : List Addr), PTs (X.blk s H scope (compEnvC scope cl C X.env) fp) ifs tt)
    (he : ∀ (s : Shared) (H : Hp) (C : Addr) (cl : List (Str × Addr)) (fp : List Addr), PE ((X.blk s H scope (compEnvC scope cl C X.env) fp).wish (fromBlock (X.blk s H scope (compEnvC scope cl C X.env) fp) X E)) elt te)
    (hfs : ∀ x, foldedSetIterable iter X.env x = pure x) (h : tLc wi g tt te (own.map (·.2)) σ H Q)
    (hend : ∀ D ce t m H', ce.frame = X.env.frame → Inv X pins σ H' t → Q (.ref D) H' → t.heap.Ns ce.locals m → FpOk X pins H' ce.locals → endOf (model X.prog X.w) X.A X.xe use Qf (.ref D) ce (.ok .next) t) :
    wpAny (model X.prog X.w) X.A (comprehension (.ListComp elt [⟨tg, iter, ifs, 0⟩] scope pos) scope X.env pos' (newList []) false (eval iter X.env) use) Qf X.xe s := by
  have free : ∀ z ∈ scope.names, z.2 = .free → ∃ c, X.env.cells.lookup z.1 = some c := fun z hz e => (ok.free z hz e).elim (fun k => I.ok.has _ (.inl k)) fun k => I.ok.has _ (.inr k)
  refine comp_run rfl hfs (closure_ok free) ok.kind (fun z hz e => by rw [ok.uniq z hz, e]) (thn (hi.run pins s σ H _ I h) fun xv s1 hx => thn hx fun itv s2 ⟨it, fp, tn, J, H2, e, I2, T, st2, f2, q⟩ => ?_)
  subst e
  refine wpAny_newObj_type (newEnv_comp ?_) (show 0 ≤ sizeLine by decide)
  generalize hD : s2.heap.objs.size = D
  have hDn : H2 D = none := I2.hok.fresh (Nat.le_of_eq hD)
  obtain ⟨W, ⟨m0, w0⟩, turn⟩ := q D hDn
  generalize hs3 : ({ s2 with heap := s2.heap.push { cls := .type "list", data := .seq ([] : List Value).toArray } } : Shared) = s3
  have h3 : s3.heap = s2.heap.push { cls := .type "list", data := .seq ([] : List Value).toArray } := by rw [← hs3]
  have I3 : Inv X pins σ (upd H2 D (.lst [])) s3 := by
    rw [← hs3]
    exact I2.laid (t' := s2.toks) (fun b o e => Heap.get?_push_of_some _ e) (Nat.le_of_eq hD) ⟨Nat.zero_le _, [], 0, .nil, by rw [← hD]; exact Heap.get?_push_size _ rfl⟩
  have f3 : ∀ b ∈ fp, FpOk X pins (upd H2 D (.lst [])) b ∧ b < s3.heap.objs.size := fun b hb => by
    obtain ⟨o, e, _⟩ := T.obj _ _ st2 b hb
    have lt := Heap.lt_size e
    exact ⟨⟨by rw [upd_ne (by rw [← hD]; exact Nat.ne_of_lt lt)]; exact (f2 b hb).1, (f2 b hb).2⟩, by rw [h3, Heap.size_push]; exact Nat.lt_succ_of_lt lt⟩
  have st3 : tn 0 s3.heap := T.keep _ _ _ st2 fun b _ o e => by rw [h3]; exact Heap.get?_push_of_some _ e
  have I4 := block_start I3 ok hN f3
  have pg := hg s3 (upd H2 D (.lst [])) s3.heap.objs.size (cellsFrom (s3.heap.objs.size + 1) scope.names (cloFrom X.env.cells scope.names [])) fp
  have pt := ht s3 (upd H2 D (.lst [])) s3.heap.objs.size (cellsFrom (s3.heap.objs.size + 1) scope.names (cloFrom X.env.cells scope.names [])) fp
  have pe := he s3 (upd H2 D (.lst [])) s3.heap.objs.size (cellsFrom (s3.heap.objs.size + 1) scope.names (cloFrom X.env.cells scope.names [])) fp
  show codeAny _ _ (.compStart (.ListComp elt [⟨tg, iter, ifs, 0⟩] scope pos) 0 (.ref it) (.ref D) (compEnvC scope (cellsFrom (s3.heap.objs.size + 1) scope.names (cloFrom X.env.cells scope.names [])) s3.heap.objs.size X.env))
    (endOf (model X.prog X.w) X.A X.xe use Qf (.ref D) (compEnvC scope (cellsFrom (s3.heap.objs.size + 1) scope.names (cloFrom X.env.cells scope.names [])) s3.heap.objs.size X.env)) { s3 with heap := pushCells (s3.heap.push { cls := .type "dict", data := .dict #[] }) scope.names }
  have nfp : ∀ b ∈ fp, (upd H2 D (.lst [])) b = none := fun b hb => (f3 b hb).1.1
  generalize hce : compEnvC scope (cellsFrom (s3.heap.objs.size + 1) scope.names (cloFrom X.env.cells scope.names [])) s3.heap.objs.size X.env = ce at I4 pg pt pe ⊢
  have cL : ce.locals = s3.heap.objs.size := by subst hce; rfl
  have cF : ce.frame = X.env.frame := by subst hce; rfl
  generalize hH3 : upd H2 D (.lst []) = H3 at I3 I4 pg pt pe w0 nfp f3
  generalize hs4 : ({ s3 with heap := pushCells (s3.heap.push { cls := .type "dict", data := .dict #[] }) scope.names } : Shared) = s4 at I4 ⊢
  have st4 : tn 0 s4.heap := T.keep _ _ _ st3 fun b _ o e => by rw [← hs4]; exact pushCells_keeps _ _ _ _ (Heap.get?_push_of_some _ e)
  have stat : ∀ {σ' : L2.St} {H' : Hp} {t : Shared}, Inv (X.blk s3 H3 scope ce fp) [] σ' H' t → (∀ b ∈ fp, H' b = none) → ∀ b ∈ fp, FpOk (X.blk s3 H3 scope ce fp) [] H' b := fun {σ' H' t} J hn b hb =>
    ⟨hn b hb, (J.ok.exf b hb).1, J.ok.exfs b hb, .inl hb, fun x c e => (J.ok.exf b hb).2 x c e, fun p hp => absurd (show p ∈ ([] : List (Addr × Obj)) ++ [] from hp) (by simp)⟩
  have back : ∀ {pB : List (Addr × Obj)} {σB : L2.St} {H' : Hp} {t : Shared}, Inv (X.blk s3 H3 scope ce fp) pB σB H' t → Inv X pins σ H' t := fun {pB σB H' t} J =>
    I3.call' (ch := fp) J.os J.base J.hok J.bare fun b hb => ⟨(f3 b hb).1.2.2.2.1, (f3 b hb).1.2.1, (f3 b hb).1.2.2.2.2.1, (f3 b hb).1.2.2.2.2.2⟩
  have loop : codeAny (model X.prog X.w) X.A (.compLoop (.ListComp elt [⟨tg, iter, ifs, 0⟩] scope pos) 0 (.ref it) (.ref D) ce) (endOf (model X.prog X.w) X.A X.xe use Qf (.ref D) ce) s4 := by
    refine compLoop_any (fun n t => ∃ i H', Inv (X.blk s3 H3 scope ce fp) [] (wipe σ (own.map (·.2))) H' t ∧ tn i t.heap ∧ (∀ b ∈ fp, H' b = none) ∧ W i n H') ?_ m0 ⟨0, H3, I4, st4, nfp, w0⟩
    rintro n s5 ⟨i, H5, I5, st5, n5, w5⟩
    rcases turn i n H5 w5 with ⟨stop, qq⟩ | ⟨go, Nx, hNx, step⟩
    · refine thnF (T.done (X.blk s3 H3 scope ce fp) rfl rfl rfl calm i [] s5 _ H5 (fun _ _ => False) I5 (stat I5 n5) st5 stop) fun r s6 ⟨hr, I6⟩ => ?_
      subst hr
      have z : H5 ce.locals = none := I6.free
      obtain ⟨m, hn, _⟩ := I6.loc
      exact hend D ce s6 m H5 cF (back I6) qq hn (by rw [cL] at z ⊢; exact I3.fpOk (Nat.le_refl _) z)
    · refine thnF (T.item (X.blk s3 H3 scope ce fp) rfl rfl rfl calm i [] s5 _ H5 (fun _ _ => False) I5 (stat I5 n5) st5 go) fun r s6 ⟨u, hr, h6⟩ => ?_
      subst hr
      refine thnF h6 fun _ s7 ⟨x, H7, I7, r7, y7, st7, n7⟩ => ?_
      refine thnF (pg.run _ s7 _ H7 x u _ (I7.pinned (stat I7 n7) (T.obj _ _ st7)) r7 (step x H7 y7)) fun _ s8 ⟨σ8, H8, I8, hw8, q8⟩ => ?_
      refine thnF (pt.run _ s8 σ8 H8 _ I8 q8) fun b s9 ⟨H9, I9, q9⟩ => ?_
      have fin : ∀ {t : Shared} {H' : Hp}, Inv (X.blk s3 H3 scope ce fp) ([] ++ pinsAt fp s7.heap) σ8 H' t → Nx H' → ∃ m, m < n ∧ ∃ i H', Inv (X.blk s3 H3 scope ce fp) [] (wipe σ (own.map (·.2))) H' t ∧ tn i t.heap ∧ (∀ b ∈ fp, H' b = none) ∧ W i m H' := fun {t H'} J nx => by
        obtain ⟨m', hm, w'⟩ := hNx H' nx
        have pin : ∀ b ∈ fp, ∀ o, s7.heap.get? b = some o → t.heap.get? b = some o ∧ H' b = none := fun b hb o e =>
          have z := J.pin (b, o) (List.mem_append_right _ (List.mem_append_right _ (mem_pinsAt hb e)))
          ⟨z.1, z.2.1⟩
        refine ⟨m', hm, i + 1, H', (J.unpinned (pins := [])).weak (by rw [← hw8, wipe_length]) (fun j v e => by rw [← hw8] at e; exact (wipe_some e).1), T.keep _ _ _ st7 fun b hb o e => (pin b hb o e).1, fun b hb => ?_, w'⟩
        obtain ⟨o, e, _⟩ := T.obj _ _ st7 b hb
        exact (pin b hb o e).2
      cases b with
      | true =>
        simp only [if_true] at q9 ⊢
        refine wpAny_mono (pe.run _ s9 σ8 H9 _ (I9.wish _) q9) (fun z s10 ⟨yv, H10, I10, r10, acc, hD10, hz10, nx⟩ => ?_) fun u t r => block_raise hs hf tk I3 cF cL (fun b hb => (f3 b hb).1) r
        exact app_ok (X := X.blk s3 H3 scope ce fp) I10.unwish hD10 hz10 r10 fun s11 I11 => fin I11 nx
      | false =>
        simp only [Bool.false_eq_true, if_false] at q9 ⊢
        exact fin I9 q9
  exact codeAny_compStart_list loop (T.self X.A 0 _ _ _ st4 loop)
theorem pe_lcR {elt tg iter : Expr} {ifs : List Expr} {scope : Scope} {own : List (Str × Nat)} {pos : Pos} {wi : TI} {g : TG} {tt : TT} {te : TE} {E : XK} (hs : X.stack = X.env :: X.outer) (hf : X.env.frame = some X.env.locals) (tk : Takes X (fun cls d _ H => E cls d H)) (calm : X.calm = true) (hN : X.N.Nodup)
    (hi : PI X tg iter wi) (ok : BlkOk X.N X.env.scope scope own) (hg : ∀ (s : Shared) (H : Hp) (C : Addr) (cl : List (Str × Addr)) (fp : List Addr), PG (X.blk s H scope (compEnvC scope cl C X.env) fp) tg g)
    (ht : ∀ (s : Shared) (H : Hp) (C : Addr) (cl : List (Str × Addr)) (fp : List Addr), PTs (X.blk s H scope (compEnvC scope cl C X.env) fp) ifs tt)
    (he : ∀ (s : Shared) (H : Hp) (C : Addr) (cl : List (Str × Addr)) (fp : List Addr), PE ((X.blk s H scope (compEnvC scope cl C X.env) fp).wish (fromBlock (X.blk s H scope (compEnvC scope cl C X.env) fp) X E)) elt te)
    (hfs : ∀ x, foldedSetIterable iter X.env x = pure x := by intro _; rfl) : PE X (.ListComp elt [⟨tg, iter, ifs, 0⟩] scope pos) (tLc wi g tt te (own.map (·.2))) := by
  refine ⟨fun pins s σ H Q I h => ?_⟩
  rw [eval_ListComp]
  refine lc_raise hs hf tk calm hN I hi ok hg ht he hfs h fun D ce t m H' _ J q hn f => ⟨m, hn, fun g sb => ?_⟩
  exact ⟨.ref D, H', J.turned (t' := t.toks) (fun b o hb e => (sb.2 b hb).trans e) f.1 f.2.1 f.2.2.2.1 f.2.2.2.2.1 f.2.2.2.2.2, rfl, q⟩
/-- name = [..], the name a local -/
theorem ps_setLcR {i : Nat} {y : Str} {py : Pos} {elt tg iter : Expr} {ifs : List Expr} {scope : Scope} {own : List (Str × Nat)} {pos spos : Pos} {wi : TI} {g : TG} {tt : TT} {te : TE} {E : XK} (hs : X.stack = X.env :: X.outer) (hf : X.env.frame = some X.env.locals) (tk : Takes X (fun cls d _ H => E cls d H)) (calm : X.calm = true) (hN : X.N.Nodup)
    (hy : X.N[i]? = some y) (hyl : X.env.scope.names.lookup y = some .local) (hsw : swapsWith (.ListComp elt [⟨tg, iter, ifs, 0⟩] scope pos) (some (.Name y py)) spos.line X.env = pure true)
    (hi : PI X tg iter wi) (ok : BlkOk X.N X.env.scope scope own) (hg : ∀ (s : Shared) (H : Hp) (C : Addr) (cl : List (Str × Addr)) (fp : List Addr), PG (X.blk s H scope (compEnvC scope cl C X.env) fp) tg g)
    (ht : ∀ (s : Shared) (H : Hp) (C : Addr) (cl : List (Str × Addr)) (fp : List Addr), PTs (X.blk s H scope (compEnvC scope cl C X.env) fp) ifs tt)
    (he : ∀ (s : Shared) (H : Hp) (C : Addr) (cl : List (Str × Addr)) (fp : List Addr), PE ((X.blk s H scope (compEnvC scope cl C X.env) fp).wish (fromBlock (X.blk s H scope (compEnvC scope cl C X.env) fp) X E)) elt te)
    (hfs : ∀ x, foldedSetIterable iter X.env x = pure x := by intro _; rfl) : PS X (.Assign [.Name y py] (.ListComp elt [⟨tg, iter, ifs, 0⟩] scope pos) spos) (tAsg (tLc wi g tt te (own.map (·.2))) (gName i)) := by
  refine ⟨fun pins s σ H D I h => ?_⟩
  rw [exec_Assign_Name_used _ _ _ _ hsw]
  refine wpAny_bind (wpAny_standAt (wpAny_bind ?_))
  have h : tLc wi g tt te (own.map (·.2)) σ H (fun x H1 => gName i x σ H1 D.nx) := h
  show wpAny _ X.A (do
    let _ ← comprehension (.ListComp elt [⟨tg, iter, ifs, 0⟩] scope pos) scope X.env (firstIterPos [⟨tg, iter, ifs, 0⟩] pos) (newList []) false (eval iter X.env) (some (assign (.Name y py) X.env))) _ _ s
  refine wpAny_bind (thn (lc_raise (Qf := fun _ t => SP X pins D .next t) hs hf tk calm hN I hi ok hg ht he hfs h fun L ce t m H' _ J q hn f => ?_) fun _ t hq => wpAny_pure (wpAny_pure hq))
  show wpAny _ _ (assign (.Name y py) X.env (.ref L)) _ _ _
  refine wpAny_assign_Name (store_ok2 (v := V.ref L) J hN hy (.inl hyl) rfl (fun s2 I2 ⟨a, sb, ha⟩ => ?_) (.inr hyl))
  have haC : ce.locals ≠ a := ha.elim (fun z => by rw [z]; exact f.2.1) fun z e => f.2.2.2.2.1 y a z e.symm
  exact ⟨m, hn.sameBut sb haC, fun h3 sb3 => ⟨_, H', I2.turned (t' := s2.toks) (fun b o hb e => (sb3.2 b hb).trans e) f.1 f.2.1 f.2.2.2.1 f.2.2.2.2.1 f.2.2.2.2.2, q⟩⟩
end
end Fw
end

section
-- part Ft
set_option Elab.async false
set_option linter.all false
set_option maxRecDepth 100000
set_option maxHeartbeats 2000000
/-! Ft: a def that tells which of two own errors came -/
namespace Fw
open PySem PySem.Spec PyProof.Rows L2 LamX
section
variable {X : Cx}
theorem told2_gives {Ng : List Str} {x a e e2 q ret ret2 : Str} {sg : Scope} {g CS CS2 : Addr} {cdg : Value} {j j2 : Nat} {p1 p2 p3 p4 p5 p6 p7 p8 q4 q5 q6 q7 : Pos} (hge : sg.names.lookup e = some .globalImplicit) (hme : X.mg e = some (.ref CS)) (hde : (e == ("__debug__" : Str)) = false)
    (hge2 : sg.names.lookup e2 = some .globalImplicit) (hme2 : X.mg e2 = some (.ref CS2)) (hde2 : (e2 == ("__debug__" : Str)) = false) (h0 : ∀ f : Addr, (L2.start Ng [V.ref f])[0]? = some (some (V.ref f))) :
    GivesTo X Ng x sg g cdg [.Try [.Return (some (.Call (.Name a p1) [] [] p2)) p3]
      [.ExceptHandler (some (.Name e p4)) none [.Return (some (.Constant (.str ret) j p5)) p6] p7, .ExceptHandler (some (.Name e2 q4)) none [.Return (some (.Constant (.str ret2) j2 q5)) q6] q7] [] [] p8] a q (TTold X.K CS ret) := by
  intro f c' s H Q tl act hc h
  have hgl : Gl (cxOf C8.CX0 X.prog X.w X.K X.mg X.base Ng x sg g cdg X.A X.stack s H C8.E0).nox e := hge
  have hgl2 : Gl (cxOf C8.CX0 X.prog X.w X.K X.mg X.base Ng x sg g cdg X.A X.stack s H C8.E0).nox e2 := hge2
  refine ⟨_, pss_one (ps_try_many (X := (cxOf C8.CX0 X.prog X.w X.K X.mg X.base Ng x sg g cdg X.A X.stack s H C8.E0).nox)
      (tb := fun W D σ H => ∃ Ech : XK, (∀ cls d σ' H', Ech cls d H' → W cls d σ' H') ∧ σ[0]? = some (some (.ref f)) ∧ H c' = some (CodeO c' q) ∧ tl Ech H D.rt)
      rfl rfl LamX.takes0 (fun W pn xe tk _ => ?_)
      (.cons (c := .ref CS) ⟨hgl, hde, .inl hme⟩ (fun a oe cls d pn _ _ => pss_one (ps_ret pe_str)) (.cons (c := .ref CS2) ⟨hgl2, hde2, .inl hme2⟩ (fun a oe cls d pn _ _ => pss_one (ps_ret pe_str)) .nil))), ?_⟩
  · refine ⟨fun pins s' σ H' D I h' => ?_⟩
    obtain ⟨Ech, hW, h1, h2, h3⟩ := h'
    have hp := act W pn xe Ech p1 p2 tk hW
    have hq := pss_one (ps_ret (pos := p3) hp)
    exact hq.run pins s' σ H' D I ⟨h1, h2, h3⟩
  · exact ⟨fun cls _ H' => ∃ b, PySem.W.exmOne X.K cls (.ref CS) = some b ∧ (b = true → Q (.str ret) H') ∧ (b = false → False), fun cls d σ' H' ⟨b, e1, e2, e3⟩ => ⟨b, e1, fun hb a _ => e2 hb, fun hb => (e3 hb).elim⟩, h0 f, hc, h⟩
theorem pe_fldK (K : PySem.W.Frag) {e : Expr} {f : Str} {pos : Pos} {ta : TE} (he : PE X e ta) (hb : attributeBase e f X.env (eval e X.env) = eval e X.env) (hK : X.K = K) : PE X (.Attribute e f pos) (tFld K ta f) := by
  subst hK
  exact pe_fld he hb
end
section
variable {σ : L2.St} {H : Hp} {Q : VK} {ta tb : TE}
theorem w_andV (h : ta σ H fun x H1 => ∃ c, x = .bl c ∧ if c = true then tb σ H1 Q else Q (.bl false) H1) : tAndV ta tb σ H Q := h
theorem w_orV (h : ta σ H fun x H1 => ∃ c, x = .bl c ∧ if c = true then Q (.bl true) H1 else tb σ H1 Q) : tOrV ta tb σ H Q := h
theorem w_notV (h : ta σ H fun x H1 => ∃ c, x = .bl c ∧ Q (.bl (!c)) H1) : tNotV ta σ H Q := h
end
end Fw
end

section
-- part Fz3
set_option Elab.async false
set_option linter.all false
set_option maxRecDepth 100000
set_option maxHeartbeats 2000000
/-! Fz3: zip of two tuples and a list; len(range(a, b, c)) -/
namespace Fw
open PySem PySem.Spec PyProof.Rows L2
/-- two tuples and a list as they stand at each turn, the items in new tuples -/
def Itz3 (K : PySem.W.Frag) (a b c : Addr) : It :=
  ⟨fun i H => ∃ (xs ys zs : List V) (x y z : V), SqT K H a xs ∧ SqT K H b ys ∧ SqL K H c zs ∧ xs[i]? = some x ∧ ys[i]? = some y ∧ zs[i]? = some z,
    fun i H v H' => ∃ T x y z, v = .ref T ∧ H T = none ∧ H' = upd H T (.tup [x, y, z]) ∧ (∀ xs, SqT K H a xs → xs[i]? = some x) ∧ (∀ ys, SqT K H b ys → ys[i]? = some y) ∧ ∀ zs, SqL K H c zs → zs[i]? = some z,
    fun i H => ∃ xs ys zs : List V, SqT K H a xs ∧ SqT K H b ys ∧ SqL K H c zs ∧ i = xs.length ∧ xs.length = ys.length ∧ ys.length = zs.length⟩
theorem sub6 {z TI TO i1 i2 i3 d : Addr} (h : d ∉ [z, TI, TO, i1, i2, i3]) : d ∉ [z, TO, i1, i2, i3] := fun q => h (by
  simp only [List.mem_cons, List.not_mem_nil, or_false] at q ⊢
  rcases q with q | q | q | q | q <;> simp [q])
theorem turn_zip3 {P : Program} {w : World} {K : PySem.W.Frag} {elts : List Expr} {kk : Nat} {tpos : Pos} {a b c z TI TO i1 i2 i3 : Addr} (S : ZipSep3 z TI TO i1 i2 i3 [i1, a] [i2, b] [i3, c]) (na : a ≠ i1) (nb : b ≠ i2) (nc : c ≠ i3) :
    Turn P w K (.Tuple elts kk tpos) (Itz3 K a b c) [z, TI, TO, i1, i2, i3] z (fun i h => IsZip h z TI TO .none ∧ IsTupOf3 h TI (.ref i1) (.ref i2) (.ref i3) ∧ (∃ x y u, IsTupOf3 h TO x y u) ∧ h.IsTupleIter i1 a i ∧ h.IsTupleIter i2 b i ∧ h.IsListIter i3 c i) where
  mem := by simp
  obj := fun i h st d hd => by
    obtain ⟨hz, hTI, ⟨x, y, u, hTO⟩, ⟨o1, e1, _, d1⟩, ⟨o2, e2, _, d2⟩, ⟨o3, e3, _, d3⟩⟩ := st
    have e' : d = z ∨ d = TI ∨ d = TO ∨ d = i1 ∨ d = i2 ∨ d = i3 := by simpa using hd
    rcases e' with q | q | q | q | q | q
    · rw [q]; exact ⟨_, hz, fun v q => nomatch q⟩
    · rw [q]; exact ⟨_, hTI, fun v q => nomatch q⟩
    · rw [q]; exact ⟨_, hTO, fun v q => nomatch q⟩
    · rw [q]; exact ⟨o1, e1, fun v q => by rw [d1] at q; cases q⟩
    · rw [q]; exact ⟨o2, e2, fun v q => by rw [d2] at q; cases q⟩
    · rw [q]; exact ⟨o3, e3, fun v q => by rw [d3] at q; cases q⟩
  keep := fun i h h' st k => by
    obtain ⟨hz, hTI, ⟨x, y, u, hTO⟩, h1, h2, h3⟩ := st
    exact ⟨k z (by simp) _ hz, k TI (by simp) _ hTI, ⟨x, y, u, k TO (by simp) _ hTO⟩, h1.at fun o q => k i1 (by simp) o q, h2.at fun o q => k i2 (by simp) o q, h3.at fun o q => k i3 (by simp) o q⟩
  item := by
    intro X hP hw hK hc i pins s σ H E I hf st hg
    subst hP hw hK
    obtain ⟨hz, hTI, hTO, h1, h2, h3⟩ := st
    obtain ⟨xs, ys, zs, x, y, v, hqx, hqy, hqz, hx, hy, hv⟩ := hg
    obtain ⟨its, rv, p, _⟩ := I.tuple hqx
    obtain ⟨its2, rv2, p2, _⟩ := I.tuple hqy
    obtain ⟨its3, rv3, p3, _⟩ := I.list hqz
    obtain ⟨u, hu, ru⟩ := rv.get hx
    obtain ⟨u2, hu2, ru2⟩ := rv2.get hy
    obtain ⟨u3, hu3, ru3⟩ := rv3.get hv
    have hh : X.A.in1.handled = none := I.ok.hd hc
    have W := WalksT.zipD3 (prog := X.prog) (w := X.w) (A := X.A) S (Draws.tuple hh i1 a na its.toArray) (Draws.tuple hh i2 b nb its2.toArray) (Draws.list hh i3 c nc its3.toArray)
    have l1 : i < its.length := (List.getElem?_eq_some_iff.mp hu).1
    have l2 : i < its2.length := (List.getElem?_eq_some_iff.mp hu2).1
    have l3 : i < its3.length := (List.getElem?_eq_some_iff.mp hu3).1
    refine W.item i s _ _ (by simp only [List.size_toArray]; omega) ⟨hz, hTI, hTO, ⟨h1, p⟩, ⟨h2, p2⟩, ⟨h3, p3.isList⟩⟩ fun T vals h' tk hP hsz hT hmid hk => ?_
    refine ⟨_, rfl, W.go _ _ _ i T { s with heap := h', toks := tk } _ _ hmid fun h'' st'' hk'' => ?_⟩
    obtain ⟨x1, x2, x3, q1, q2, q3, rfl⟩ := hP
    have q1' : its[i]? = some x1 := by simpa using q1
    have q2' : its2[i]? = some x2 := by simpa using q2
    have q3' : its3[i]? = some x3 := by simpa using q3
    rw [hu] at q1'
    rw [hu2] at q2'
    rw [hu3] at q3'
    cases q1'
    cases q2'
    cases q3'
    have hT2 : h''.IsTuple T #[u, u2, u3] := hT.at fun o e => hk'' T o (W.apart i T h' hmid) e
    have new : ObjOk X.prog X.w (upd H T (.tup [x, y, v])) h'' T (.tup [x, y, v]) := ⟨by show 3 ≤ sizeLine; decide, [u, u2, u3], .cons ru (.cons ru2 (.cons ru3 .nil)), hT2⟩
    have nin : ∀ d, d ∉ [z, TI, TO, i1, i2, i3] → d ∉ [z, TO, i1, i2, i3] := fun d hd => sub6 hd
    have I1 : Inv X pins σ (upd H T (.tup [x, y, v])) { s with heap := h'', toks := tk } :=
      I.turnedNew (t' := tk) (ch := [z, TI, TO, i1, i2, i3]) (fun d o hb q => hk'' d o (nin d hb) (hk d o (nin d hb) q)) hf hsz new
    refine ⟨.ref T, _, I1, rfl, ⟨_, x, y, v, rfl, I.hok.fresh hsz, rfl, fun l hl => by rw [I.tuple_inj hl hqx]; exact hx, fun l hl => by rw [I.tuple_inj hl hqy]; exact hy, fun l hl => by rw [I.list_inj hl hqz]; exact hv⟩, ⟨st''.1, st''.2.1, st''.2.2.1, st''.2.2.2.1.1, st''.2.2.2.2.1.1, st''.2.2.2.2.2.1⟩, fun d hd => ?_⟩
    have hlt : d < s.heap.objs.size := by
      have e' : d = z ∨ d = TI ∨ d = TO ∨ d = i1 ∨ d = i2 ∨ d = i3 := by simpa using hd
      obtain ⟨a1, a2, a3, hTO⟩ := hTO
      rcases e' with q | q | q | q | q | q
      · rw [q]; exact Heap.lt_size hz
      · rw [q]; exact Heap.lt_size hTI
      · rw [q]; exact Heap.lt_size hTO
      · rw [q]; obtain ⟨_, e1, _⟩ := h1; exact Heap.lt_size e1
      · rw [q]; obtain ⟨_, e2, _⟩ := h2; exact Heap.lt_size e2
      · rw [q]; obtain ⟨_, e3, _⟩ := h3; exact Heap.lt_size e3
    rw [upd_ne (Nat.ne_of_lt (Nat.lt_of_lt_of_le hlt hsz))]
    exact (hf d hd).1
  done := by
    intro X hP hw hK hc i pins s σ H E I hf st hg
    subst hP hw hK
    obtain ⟨hz, hTI, hTO, h1, h2, h3⟩ := st
    obtain ⟨xs, ys, zs, hqx, hqy, hqz, rfl, e1, e2⟩ := hg
    obtain ⟨its, rv, p, _⟩ := I.tuple hqx
    obtain ⟨its2, rv2, p2, _⟩ := I.tuple hqy
    obtain ⟨its3, rv3, p3, _⟩ := I.list hqz
    have hh : X.A.in1.handled = none := I.ok.hd hc
    have l1 := rv.length
    have l2 := rv2.length
    have l3 := rv3.length
    have W := WalksT.zipD3 (prog := X.prog) (w := X.w) (A := X.A) S (Draws.tuple hh i1 a na its.toArray) (Draws.tuple hh i2 b nb its2.toArray) (Draws.list hh i3 c nc its3.toArray)
    have en : min (min its.toArray.size its2.toArray.size) its3.toArray.size = xs.length := by simp only [List.size_toArray]; omega
    refine W.done s _ _ (by rw [en]; exact ⟨hz, hTI, hTO, ⟨h1, p⟩, ⟨h2, p2⟩, ⟨h3, p3.isList⟩⟩) fun h' tk hk => ⟨rfl, I.turnedL (t' := tk) (ch := [z, TI, TO, i1, i2, i3]) (fun d o hb q => hk d o (sub6 hb) q) hf⟩
  self := fun A i s Q E st h => wpAny_pyIter_zip st.1 h
def iZip3 (K : PySem.W.Frag) (ta : TA) : TI := fun σ H R => ta σ H fun vs H1 => ∃ a b c xs ys zs, vs = [.ref a, .ref b, .ref c] ∧ SqT K H1 a xs ∧ SqT K H1 b ys ∧ SqL K H1 c zs ∧ R (Itz3 K a b c) H1
theorem pi_zip3 {X : Cx} {e e2 e3 : Expr} {ta : TA} {p pos tpos : Pos} {elts : List Expr} {kk : Nat} (hg : Gl X "zip") (hm : X.mg "zip" = none) (ha : PA X [e, e2, e3] ta)
    (hs : starEach [e, e2, e3] X.env = (false, eval e X.env) :: starEach [e2, e3] X.env := by rfl) (hpl : (backTo pos (starEach [e2, e3] X.env)).any (·.1) = false := by rfl) :
    PI X (.Tuple elts kk tpos) (.Call (.Name "zip" p) [e, e2, e3] [] pos) (iZip3 X.K ta) := by
  refine ⟨fun pins s σ H R I h => ?_⟩
  refine Call_ (ld_blt I hg hm PyProof.Rows.boot_zip (PyProof.Rows.callWith_type1 (thn (ha.run pos pins s σ H _ I h) fun us s1 ⟨vs, H1, I1, r1, q1⟩ => ?_) hs hpl))
  obtain ⟨a, b, c, xs, ys, zs, ex, hqx, hqy, hqz, q⟩ := q1
  subst ex
  cases r1 with
  | cons r rr =>
    cases rr with
    | cons r' rr =>
      cases rr with
      | cons r'' rr =>
        cases rr
        cases r
        cases r'
        cases r''
        obtain ⟨its, rv, p1, _⟩ := I1.tuple hqx
        obtain ⟨its2, rv2, p2, _⟩ := I1.tuple hqy
        obtain ⟨its3, rv3, p3, _⟩ := I1.list hqz
        have la : a < s1.heap.objs.size := by obtain ⟨o, ho, _⟩ := id p1; exact Heap.lt_size ho
        have lb : b < s1.heap.objs.size := by obtain ⟨o, ho, _⟩ := id p2; exact Heap.lt_size ho
        have lc : c < s1.heap.objs.size := p3.lt
        have one : ∀ {x N : Addr}, x < N → ∀ d ∈ [x], d < N := fun {x N} h d hd => by rw [List.mem_singleton.mp hd]; exact h
        have S := zip_sep3 (N := s1.heap.objs.size) (one la) (one lb) (one lc)
        refine zip_begins3 (begins_tuple a its.toArray) (begins_tuple b its2.toArray) (begins_list c its3.toArray) p1 p2 p3.isList fun h' hz hTI hTO g1 g2 g3 hsz hk => wpAny_pyIter_zip hz ?_
        have I2 : Inv X pins σ H1 { s1 with heap := h' } := I1.kept (t' := s1.toks) hk
        refine ⟨_, _, _, _, H1, rfl, I2, turn_zip3 (K := X.K) (a := a) (b := b) (c := c) S (Nat.ne_of_lt la) (Nat.ne_of_lt (Nat.lt_of_lt_of_le lb (Nat.le_add_right _ 1))) (Nat.ne_of_lt (Nat.lt_of_lt_of_le lc (Nat.le_add_right _ 2))), ⟨hz, hTI, ⟨_, _, _, hTO⟩, ⟨_, g1, rfl, rfl⟩, ⟨_, g2, rfl, rfl⟩, ⟨_, g3, rfl, rfl⟩⟩, fun d hdm => ?_, q⟩
        have hle : s1.heap.objs.size ≤ d := by
          simp only [List.mem_cons, List.not_mem_nil, or_false] at hdm
          rcases hdm with q | q | q | q | q | q <;> rw [q] <;> first | exact Nat.le_refl _ | exact Nat.le_add_right _ _
        exact I1.fpOk hle (I1.hok.fresh hle)

def tLenR3 (ta : TA) : TE := fun σ H Q => ta σ H fun vs H1 => ∃ (i j c : Int) (n : Nat), vs = [.int i, .int j, .int c] ∧ RgC i j c n ∧ (n : Int) < 2 ^ 63 ∧ Q (.int (n : Int)) H1
/-- len(range(a, b, c)) -/
theorem pe_lenR3 {X : Cx} {a b c : Expr} {ta : TA} {p p2 pos pos2 : Pos} (hgl : Gl X "len") (hml : X.mg "len" = none) (hg : Gl X "range") (hm : X.mg "range" = none) (ha : PA X [a, b, c] ta)
    (hs1 : starEach [.Call (.Name "range" p2) [a, b, c] [] pos2] X.env = (false, eval (.Call (.Name "range" p2) [a, b, c] [] pos2) X.env) :: starEach [] X.env := by rfl) (hpl1 : (backTo pos (starEach [] X.env)).any (·.1) = false := by rfl)
    (hs : starEach [a, b, c] X.env = (false, eval a X.env) :: starEach [b, c] X.env := by rfl) (hpl : (backTo pos2 (starEach [b, c] X.env)).any (·.1) = false := by rfl) :
    PE X (.Call (.Name "len" p) [.Call (.Name "range" p2) [a, b, c] [] pos2] [] pos) (tLenR3 ta) := by
  refine ⟨fun pins s σ H Q I h => ?_⟩
  refine wpAny_Call_Name_kw (ld_blt I hgl hml PySem.boot_len ?_)
  refine PyProof.Rows.callWith_builtin1 ?_ hs1 hpl1
  rw [hs1]
  show wpAny _ _ (spliced ((false, eval (.Call (.Name "range" p2) [a, b, c] [] pos2) X.env) :: backTo pos (starEach [] X.env))) _ _ s
  refine Calls.spliced_cons ?_
  refine Call_ (ld_blt I hg hm boot_range (PyProof.Rows.callWith_type1 (thn (ha.run pos2 pins s σ H _ I h) fun us s1 ⟨vs, H1, I1, r1, q1⟩ => ?_) hs hpl))
  obtain ⟨i, j, k, n, e, ⟨c0, c1, c2, c3⟩, hn, q⟩ := q1
  subst e
  cases r1 with
  | cons r rr =>
    cases rr with
    | cons r' rr =>
      cases rr with
      | cons r'' rr =>
        cases rr
        obtain ⟨t, rfl⟩ := r
        obtain ⟨t', rfl⟩ := r'
        obtain ⟨t'', rfl⟩ := r''
        refine call_range_3 c0 ?_ (.inl (PyProof.noPylong_small c1))
        have I2 : Inv X pins σ H1 { s1 with heap := s1.heap.push { cls := .type "range", data := .fields #[.int i t, .int j t', .int k t''] } } := I1.kept (t' := s1.toks) fun b o e => Heap.get?_push_of_some _ e
        refine Calls.spliced_nil ?_
        exact call_len_range (IsRange.new ..) c3 hn ⟨.int (n : Int), H1, I2.tok _, ⟨_, rfl⟩, q⟩
end Fw
end

section
-- part Fz4
set_option Elab.async false
set_option linter.all false
set_option maxRecDepth 100000
set_option maxHeartbeats 2000000
/-! Fz4: enumerate of a tuple -/
namespace Fw
open PySem PySem.Spec PyProof.Rows L2
open AutoSeq1 (wpAny_loadPart')
theorem meets_enum1 {v : Value} {o : Obj} {G : Heap → Prop} (B : Begins v o G) :
    Meets (Builtin.«enumerate.__new__» ⟨[.type "enumerate", v], []⟩) (fun _ R s => G s.heap ∧
      R (.ok (.ret (.ref (s.heap.push o).objs.size))) { s with heap := (s.heap.push o).push { cls := .type "enumerate", data := .fields #[.none, .bool false, .ref s.heap.objs.size, rawInt 0, .none, .none] } }) :=
  .of_wp fun prog w A R s h => by
    obtain ⟨hp, g, d, tk, os⟩ := s
    obtain ⟨h1, h⟩ := h
    have hsub := sub_enumerate
    have q1 : ∀ {A' : Around} {E : Value → Shared → Prop} {Q : Value → Shared → Prop}, Q (.ref hp.objs.size) ⟨hp.push o, g, d, tk, os⟩ → wpAny (model prog w) A' (pyIter v) Q E ⟨hp, g, d, tk, os⟩ :=
      fun q => B.iter prog w _ _ ⟨hp, g, d, tk, os⟩ _ h1 q
    wp_walk using q1
    refine wpAny_stack_any fun st => wpAny_pure ?_
    split
    · rename_i c _ _ _ _ _
      cases (c == Value.type "enumerate")
      · wp_walk using q1
        exact ⟨_, rfl, h⟩
      · wp_walk using q1
        exact ⟨_, rfl, h⟩
    · wp_walk using q1
      exact ⟨_, rfl, h⟩
section
variable {prog : Program} {w : World} {A : Around} {E : Value → Shared → Prop} {s : Shared}
theorem enum_begins1 {v : Value} {o : Obj} {G : Heap → Prop} {Q : Value → Shared → Prop} (B : Begins v o G) (h1 : G s.heap)
    (h : ∀ h', IsEnum h' (s.heap.objs.size + 1) s.heap.objs.size 0 .none → h'.get? s.heap.objs.size = some o → h'.objs.size = s.heap.objs.size + 2 →
      (∀ b o, s.heap.get? b = some o → h'.get? b = some o) → Q (.ref (s.heap.objs.size + 1)) { s with heap := h' }) :
    wpAny (model prog w) A (call (.type "enumerate") [v]) Q E s := by
  refine callType_new F.called_enumerate (by decide) (F.typeCall_enumerate_1 _) (F.newCall_enumerate_1 _) (fun obj => F.args_object_init_2 obj _) F.entry_enumerate_new (meets_enum1 B) ⟨h1, ?_⟩
  have hz : (s.heap.push o).objs.size = s.heap.objs.size + 1 := Heap.size_push ..
  show _ ∧ _
  rw [hz]
  have he : IsEnum ((s.heap.push o).push { cls := .type "enumerate", data := .fields #[.none, .bool false, .ref s.heap.objs.size, rawInt 0, .none, .none] }) (s.heap.objs.size + 1) s.heap.objs.size 0 .none := by
    have := Heap.get?_push_size (s.heap.push o) (o := { cls := .type "enumerate", data := .fields #[.none, .bool false, .ref s.heap.objs.size, rawInt 0, .none, .none] }) rfl
    rw [hz] at this
    exact this
  exact ⟨⟨_, he, rfl⟩, h _ he (Heap.get?_push_of_some _ (Heap.get?_push_size _ B.free)) (by rw [Heap.size_push, hz]) fun b o x => Heap.get?_push_of_some _ (Heap.get?_push_of_some _ x)⟩
end
/-- the tuple at a, each item in a new pair with its number -/
def IteT (K : PySem.W.Frag) (a : Addr) : It :=
  ⟨fun i H => ∃ (xs : List V) (x : V), SqT K H a xs ∧ xs[i]? = some x, fun i H v H' => ∃ T x, v = .ref T ∧ H T = none ∧ H' = upd H T (.tup [.int (i : Nat), x]) ∧ ∀ xs, SqT K H a xs → xs[i]? = some x, fun i H => ∃ xs : List V, SqT K H a xs ∧ xs.length = i⟩
theorem turn_enumT {P : Program} {w : World} {K : PySem.W.Frag} {elts : List Expr} {kk : Nat} {tpos : Pos} {a e it : Addr} (hei : e ≠ it) (hea : e ≠ a) (hai : a ≠ it) :
    Turn P w K (.Tuple elts kk tpos) (IteT K a) [e, it] e (fun i h => (∃ old, IsEnum h e it ((i : Nat) : Int) old) ∧ h.IsTupleIter it a i) where
  mem := by simp
  obj := fun i h st d hd => by
    obtain ⟨⟨old, he⟩, ⟨o1, e1, _, d1⟩⟩ := st
    have e' : d = e ∨ d = it := by simpa using hd
    rcases e' with q | q
    · rw [q]; exact ⟨_, he, fun v q => nomatch q⟩
    · rw [q]; exact ⟨o1, e1, fun v q => by rw [d1] at q; cases q⟩
  keep := fun i h h' st k => by
    obtain ⟨⟨old, he⟩, h1⟩ := st
    exact ⟨⟨old, k e (by simp) _ he⟩, h1.at fun o q => k it (by simp) o q⟩
  item := by
    intro X hP hw hK hc i pins s σ H E I hf st hg
    subst hP hw hK
    obtain ⟨⟨old, he⟩, h1⟩ := st
    obtain ⟨xs, x, hqx, hx⟩ := hg
    obtain ⟨its, rv, p, _⟩ := I.tuple hqx
    obtain ⟨u, hu, ru⟩ := rv.get hx
    have hh : X.A.in1.handled = none := I.ok.hd hc
    have W := WalksT.enumerateD (prog := X.prog) (w := X.w) (A := X.A) (Draws.tuple hh it a hai its.toArray) e hei (by simp; exact ⟨hei, hea⟩) (by simp)
    have l1 : i < its.length := (List.getElem?_eq_some_iff.mp hu).1
    refine W.item i s _ _ (by simp only [List.size_toArray]; omega) ⟨⟨old, he⟩, ⟨h1, p⟩⟩ fun T vals h' tk hP hsz hT hmid hk => ?_
    refine ⟨_, rfl, W.go _ _ _ i T { s with heap := h', toks := tk } _ _ hmid fun h'' st'' hk'' => ?_⟩
    obtain ⟨t, x1, q1, rfl⟩ := hP
    have q1' : its[i]? = some x1 := by simpa using q1
    rw [hu] at q1'
    cases q1'
    have hT2 : h''.IsTuple T #[.int (i : Int) t, u] := hT.at fun o e => hk'' T o (W.apart i T h' hmid) e
    have new : ObjOk X.prog X.w (upd H T (.tup [.int (i : Nat), x])) h'' T (.tup [.int (i : Nat), x]) := ⟨by show 2 ≤ sizeLine; decide, [.int (i : Int) t, u], .cons ⟨t, rfl⟩ (.cons ru .nil), hT2⟩
    have I1 : Inv X pins σ (upd H T (.tup [.int (i : Nat), x])) { s with heap := h'', toks := tk } :=
      I.turnedNew (t' := tk) (ch := [e, it]) (fun d o hb q => hk'' d o hb (hk d o hb q)) hf hsz new
    refine ⟨.ref T, _, I1, rfl, ⟨_, x, rfl, I.hok.fresh hsz, rfl, fun l hl => by rw [I.tuple_inj hl hqx]; exact hx⟩, ⟨st''.1, st''.2.1⟩, fun d hd => ?_⟩
    have hlt : d < s.heap.objs.size := by
      have e' : d = e ∨ d = it := by simpa using hd
      rcases e' with q | q
      · rw [q]; exact Heap.lt_size he
      · rw [q]; obtain ⟨_, e1, _⟩ := h1; exact Heap.lt_size e1
    rw [upd_ne (Nat.ne_of_lt (Nat.lt_of_lt_of_le hlt hsz))]
    exact (hf d hd).1
  done := by
    intro X hP hw hK hc i pins s σ H E I hf st hg
    subst hP hw hK
    obtain ⟨⟨old, he⟩, h1⟩ := st
    obtain ⟨xs, hqx, rfl⟩ := hg
    obtain ⟨its, rv, p, _⟩ := I.tuple hqx
    have hh : X.A.in1.handled = none := I.ok.hd hc
    have l1 := rv.length
    have W := WalksT.enumerateD (prog := X.prog) (w := X.w) (A := X.A) (Draws.tuple hh it a hai its.toArray) e hei (by simp; exact ⟨hei, hea⟩) (by simp)
    have en : its.toArray.size = xs.length := by simp only [List.size_toArray]; omega
    refine W.done s _ _ (by rw [en]; exact ⟨⟨old, he⟩, ⟨h1, p⟩⟩) fun h' tk hk => ⟨rfl, I.turnedL (t' := tk) (ch := [e, it]) (fun d o hb q => hk d o hb q) hf⟩
  self := fun A i s Q E st h => by
    obtain ⟨⟨old, he⟩, _⟩ := st
    exact wpAny_pyIter_enum he h
def iEnumT (K : PySem.W.Frag) (ta : TA) : TI := fun σ H R => ta σ H fun vs H1 => ∃ a xs, vs = [.ref a] ∧ SqT K H1 a xs ∧ R (IteT K a) H1
theorem pi_enumT {X : Cx} {e : Expr} {ta : TA} {p pos tpos : Pos} {elts : List Expr} {kk : Nat} (hg : Gl X "enumerate") (hm : X.mg "enumerate" = none) (ha : PA X [e] ta) (hs : starEach [e] X.env = [(false, eval e X.env)] := by rfl) :
    PI X (.Tuple elts kk tpos) (.Call (.Name "enumerate" p) [e] [] pos) (iEnumT X.K ta) := by
  refine ⟨fun pins s σ H R I h => ?_⟩
  refine Call_ (ld_blt I hg hm boot_enumerate (PyProof.Rows.callWith_type1 (thn (ha.run pos pins s σ H _ I h) fun us s1 ⟨vs, H1, I1, r1, q1⟩ => ?_) hs rfl))
  obtain ⟨a, xs, ex, hq, q⟩ := q1
  subst ex
  cases r1 with
  | cons r rr =>
    cases rr
    cases r
    obtain ⟨its, rv, p1, _⟩ := I1.tuple hq
    have la : a < s1.heap.objs.size := by obtain ⟨o, ho, _⟩ := id p1; exact Heap.lt_size ho
    refine enum_begins1 (begins_tuple a its.toArray) p1 fun h' he g1 hsz hk => wpAny_pyIter_enum he ?_
    have I2 : Inv X pins σ H1 { s1 with heap := h' } := I1.kept (t' := s1.toks) hk
    refine ⟨_, _, _, _, H1, rfl, I2, turn_enumT (K := X.K) (a := a) (Nat.succ_ne_self _) (Nat.ne_of_gt (Nat.lt_succ_of_lt la)) (Nat.ne_of_lt la), ⟨⟨.none, he⟩, ⟨_, g1, rfl, rfl⟩⟩, fun d hdm => ?_, q⟩
    have hle : s1.heap.objs.size ≤ d := by
      simp only [List.mem_cons, List.not_mem_nil, or_false] at hdm
      rcases hdm with q | q <;> rw [q] <;> first | exact Nat.le_refl _ | exact Nat.le_add_right _ _
    exact I1.fpOk hle (I1.hok.fresh hle)
section
variable {K : PySem.W.Frag} {σ : L2.St} {H : Hp} {g : TG} {tb : TS} {D : Ends} {ta : TA}
theorem w_iEnumT {R : It → Hp → Prop} (h : ta σ H fun vs H1 => ∃ a xs, vs = [.ref a] ∧ SqT K H1 a xs ∧ R (IteT K a) H1) : iEnumT K ta σ H R := h
theorem w_iZip3 {R : It → Hp → Prop} (h : ta σ H fun vs H1 => ∃ a b c xs ys zs, vs = [.ref a, .ref b, .ref c] ∧ SqT K H1 a xs ∧ SqT K H1 b ys ∧ SqL K H1 c zs ∧ R (Itz3 K a b c) H1) : iZip3 K ta σ H R := h
theorem w_par {i j : Nat} {D : Ends} (h : ta σ H fun vs H1 => ∃ v w, vs = [v, w] ∧ D.nx ((σ.set i (some v)).set j (some w)) H1) : tPar i j ta D σ H := h
theorem w_lenR3 {Q : VK} (h : ta σ H fun vs H1 => ∃ (i j c : Int) (n : Nat), vs = [.int i, .int j, .int c] ∧ RgC i j c n ∧ (n : Int) < 2 ^ 63 ∧ Q (.int (n : Int)) H1) : tLenR3 ta σ H Q := h
theorem for_enumT {a : Addr} {xs : List V} (Pv : Nat → L2.St → Hp → Prop) (h0 : Pv 0 σ H) (hq : ∀ i σ H, Pv i σ H → SqT K H a xs)
    (hs : ∀ (i : Nat) (x : V) (T : Addr) (σ : L2.St) (H : Hp), xs[i]? = some x → Pv i σ H → H T = none → g (.ref T) σ (upd H T (.tup [.int (i : Nat), x])) fun σ2 H2 => tb { D with nx := Pv (i + 1), ct := Pv (i + 1), bk := D.nx } σ2 H2)
    (hd : ∀ σ H, Pv xs.length σ H → D.nx σ H) :
    ∃ W : Nat → Nat → L2.St → Hp → Prop, (∃ m, W 0 m σ H) ∧ ∀ i m σ H, W i m σ H →
      ((IteT K a).stop i H ∧ D.nx σ H) ∨ ((IteT K a).go i H ∧ ∃ N : L2.St → Hp → Prop, (∀ σ' H', N σ' H' → ∃ m', m' < m ∧ W (i + 1) m' σ' H') ∧ ∀ v H', (IteT K a).yld i H v H' → g v σ H' fun σ2 H2 => tb { D with nx := N, ct := N, bk := D.nx } σ2 H2) := by
  refine ⟨fun i m σ H => m = xs.length - i ∧ i ≤ xs.length ∧ Pv i σ H, ⟨_, rfl, Nat.zero_le _, h0⟩, ?_⟩
  rintro i m σ H ⟨rfl, hi, p⟩
  by_cases hlt : i < xs.length
  · refine .inr ⟨⟨xs, xs[i], hq i σ H p, List.getElem?_eq_getElem hlt⟩, Pv (i + 1), fun σ' H' p' => ⟨xs.length - (i + 1), by omega, rfl, hlt, p'⟩, ?_⟩
    rintro v H' ⟨T, x, rfl, hT, rfl, hx⟩
    exact hs i x T σ H (hx xs (hq i σ H p)) p hT
  · have e : i = xs.length := by omega
    subst e
    exact .inl ⟨⟨xs, hq _ σ H p, rfl⟩, hd σ H p⟩
theorem for_zip3 {a b c : Addr} {xs ys zs : List V} (e1 : xs.length = ys.length) (e2 : ys.length = zs.length) (Pv : Nat → L2.St → Hp → Prop) (h0 : Pv 0 σ H) (hq : ∀ i σ H, Pv i σ H → SqT K H a xs ∧ SqT K H b ys ∧ SqL K H c zs)
    (hs : ∀ (i : Nat) (x y z : V) (T : Addr) (σ : L2.St) (H : Hp), xs[i]? = some x → ys[i]? = some y → zs[i]? = some z → Pv i σ H → H T = none → g (.ref T) σ (upd H T (.tup [x, y, z])) fun σ2 H2 => tb { D with nx := Pv (i + 1), ct := Pv (i + 1), bk := D.nx } σ2 H2)
    (hd : ∀ σ H, Pv xs.length σ H → D.nx σ H) :
    ∃ W : Nat → Nat → L2.St → Hp → Prop, (∃ m, W 0 m σ H) ∧ ∀ i m σ H, W i m σ H →
      ((Itz3 K a b c).stop i H ∧ D.nx σ H) ∨ ((Itz3 K a b c).go i H ∧ ∃ N : L2.St → Hp → Prop, (∀ σ' H', N σ' H' → ∃ m', m' < m ∧ W (i + 1) m' σ' H') ∧ ∀ v H', (Itz3 K a b c).yld i H v H' → g v σ H' fun σ2 H2 => tb { D with nx := N, ct := N, bk := D.nx } σ2 H2) := by
  refine ⟨fun i m σ H => m = xs.length - i ∧ i ≤ xs.length ∧ Pv i σ H, ⟨_, rfl, Nat.zero_le _, h0⟩, ?_⟩
  rintro i m σ H ⟨rfl, hi, p⟩
  by_cases hlt : i < xs.length
  · have q := hq i σ H p
    refine .inr ⟨⟨xs, ys, zs, xs[i], ys[i], zs[i], q.1, q.2.1, q.2.2, List.getElem?_eq_getElem hlt, List.getElem?_eq_getElem (by omega), List.getElem?_eq_getElem (by omega)⟩, Pv (i + 1), fun σ' H' p' => ⟨xs.length - (i + 1), by omega, rfl, hlt, p'⟩, ?_⟩
    rintro v H' ⟨T, x, y, z, rfl, hT, rfl, hx, hy, hz⟩
    exact hs i x y z T σ H (hx xs q.1) (hy ys q.2.1) (hz zs q.2.2) p hT
  · have e : i = xs.length := by omega
    subst e
    have q := hq _ σ H p
    exact .inl ⟨⟨xs, ys, zs, q.1, q.2.1, q.2.2, rfl, e1, e2⟩, hd σ H p⟩
end
section
variable {H : Hp} {Q : VK}
theorem w_neI {a b : Int} (q : Q (.bl (!decide (a = b))) H) : rNe (.int a) (.int b) H Q := ⟨rfl, by rw [show (decide (V.int a = V.int b)) = decide (a = b) by simp]; exact q⟩
theorem bl_eq {a b : Bool} : (decide (V.bl a = V.bl b)) = (a == b) := by cases a <;> cases b <;> rfl
theorem w_eqB {a b : Bool} (q : Q (.bl (a == b)) H) : rEq (.bl a) (.bl b) H Q := ⟨rfl, by rw [bl_eq]; exact q⟩
theorem w_neB {a b : Bool} (q : Q (.bl (a != b)) H) : rNe (.bl a) (.bl b) H Q := ⟨rfl, by rw [bl_eq]; exact q⟩
end
section
variable {K : PySem.W.Frag} {σ : L2.St} {H : Hp} {te : TE} {vs : List Nat} {tt : TT} {g : TG}
/-- a comprehension over a list, its end told by the new list's place -/
theorem w_lcLn {p : Addr} {xs : List V} {R : Addr → Hp → Prop} (hS : SqL K H p xs) (h : ∀ D, H D = none → ∃ Pv : Nat → Hp → Prop, Pv 0 (upd H D (.lst [])) ∧ (∀ i H2, i ≤ xs.length → Pv i H2 → SqL K H2 p xs) ∧
      (∀ i x H2, xs[i]? = some x → Pv i H2 → g x (wipe σ vs) H2 fun σ2 H2 => wipe σ2 vs = wipe σ vs ∧ tt σ2 H2 fun b H3 =>
        if b = true then te σ2 H3 fun y H4 => ∃ acc, H4 D = some (.lst acc) ∧ acc.length < sizeLine ∧ Pv (i + 1) (upd H4 D (.lst (acc ++ [y]))) else Pv (i + 1) H3) ∧ (∀ H2, Pv xs.length H2 → R D H2)) :
    ∃ a, V.ref p = .ref a ∧ (∃ xs, SqL K H a xs) ∧ ∀ D, H D = none → ∃ W : Nat → Nat → Hp → Prop, (∃ m, W 0 m (upd H D (.lst []))) ∧ ∀ i m H, W i m H →
      ((Itl K a).stop i H ∧ R D H) ∨ ((Itl K a).go i H ∧ ∃ Nx : Hp → Prop, (∀ H', Nx H' → ∃ m', m' < m ∧ W (i + 1) m' H') ∧ ∀ x H', (Itl K a).yld i H x H' → g x (wipe σ vs) H' fun σ2 H2 => wipe σ2 vs = wipe σ vs ∧ tt σ2 H2 fun b H3 =>
        if b = true then te σ2 H3 fun y H4 => ∃ acc, H4 D = some (.lst acc) ∧ acc.length < sizeLine ∧ Nx (upd H4 D (.lst (acc ++ [y]))) else Nx H3) := by
  refine ⟨p, rfl, ⟨xs, hS⟩, fun D hD => ?_⟩
  obtain ⟨Pv, h0, hl, hs, hd⟩ := h D hD
  exact lc_list (Qd := fun H => R D H) Pv h0 hl hs hd
end
section
variable {K : PySem.W.Frag} {σ : L2.St} {H : Hp} {g : TG} {tb : TS} {D : Ends} {ta : TA}
theorem w_iZip {R : It → Hp → Prop} (h : ta σ H fun vs H1 => ∃ a b xs ys, vs = [.ref a, .ref b] ∧ SqL K H1 a xs ∧ SqL K H1 b ys ∧ R (Itz K a b) H1) : iZip K ta σ H R := h
theorem for_zipN {a b : Addr} {xs ys : List V} (Pv : Nat → L2.St → Hp → Prop) (h0 : Pv 0 σ H) (hq : ∀ i σ H, Pv i σ H → SqL K H a xs ∧ SqL K H b ys)
    (hs : ∀ (i : Nat) (x y : V) (T : Addr) (σ : L2.St) (H : Hp), xs[i]? = some x → ys[i]? = some y → Pv i σ H → H T = none → g (.ref T) σ (upd H T (.tup [x, y])) fun σ2 H2 => tb { D with nx := Pv (i + 1), ct := Pv (i + 1), bk := D.nx } σ2 H2)
    (hd : ∀ i σ H, Pv i σ H → D.nx σ H) :
    ∃ W : Nat → Nat → L2.St → Hp → Prop, (∃ m, W 0 m σ H) ∧ ∀ i m σ H, W i m σ H →
      ((Itz K a b).stop i H ∧ D.nx σ H) ∨ ((Itz K a b).go i H ∧ ∃ N : L2.St → Hp → Prop, (∀ σ' H', N σ' H' → ∃ m', m' < m ∧ W (i + 1) m' σ' H') ∧ ∀ v H', (Itz K a b).yld i H v H' → g v σ H' fun σ2 H2 => tb { D with nx := N, ct := N, bk := D.nx } σ2 H2) := by
  refine ⟨fun i m σ H => m = xs.length - i ∧ Pv i σ H, ⟨_, rfl, h0⟩, ?_⟩
  rintro i m σ H ⟨rfl, p⟩
  have q := hq i σ H p
  by_cases h1 : i < xs.length
  · by_cases h2 : i < ys.length
    · refine .inr ⟨⟨xs, ys, xs[i], ys[i], q.1, q.2, List.getElem?_eq_getElem h1, List.getElem?_eq_getElem h2⟩, Pv (i + 1), fun σ' H' p' => ⟨xs.length - (i + 1), by omega, rfl, p'⟩, ?_⟩
      rintro v H' ⟨T, x, y, rfl, hT, rfl, hx, hy⟩
      exact hs i x y T σ H (hx xs q.1) (hy ys q.2) p hT
    · exact .inl ⟨⟨xs, ys, q.1, q.2, .inr (by omega)⟩, hd i σ H p⟩
  · exact .inl ⟨⟨xs, ys, q.1, q.2, .inl (by omega)⟩, hd i σ H p⟩
end
section
variable {X : Cx}
theorem ix_tupK (K : PySem.W.Frag) (h : X.K = K) : IxR X (rIxT K) := by subst h; exact ix_tup
theorem ix_listK (K : PySem.W.Frag) (h : X.K = K) : IxR X (rIxL K) := by subst h; exact ix_list
theorem sl_listK (K : PySem.W.Frag) (h : X.K = K) : SlR X (rSlL K) := by subst h; exact sl_list
theorem len_seqK (K : PySem.W.Frag) (h : X.K = K) : CallR X (.builtin "len") (fun xs H Q => ∃ p ys, xs = [.ref p] ∧ (SqL K H p ys ∨ SqT K H p ys) ∧ Q (.int ys.length) H) := by subst h; exact call_len_seq
theorem tuple_ofK (K : PySem.W.Frag) (h : X.K = K) : CallR X (.type "tuple") (fun xs H Q => ∃ p ys, xs = [.ref p] ∧ ((SqL K H p ys ∧ ∀ l, H l = none → Q (.ref l) (upd H l (.tup ys))) ∨ (SqT K H p ys ∧ Q (.ref p) H))) := by subst h; exact call_tuple_of
end
end Fw
end

section
-- part Fq
set_option Elab.async false
set_option linter.all false
set_option maxRecDepth 100000
set_option maxHeartbeats 2000000
/-! Fq: a def that raises into a try whose suite raises on; a call within a try; X('m') where an exception is handled -/
namespace Fw
open PySem PySem.Spec PyProof.Rows L2
/-- as Cl, its exceptions told with their contexts -/
structure ClN (P : Program) (w : World) (K : PySem.W.Frag) (mg : Str → Option Value) (base : Heap) (k : Nat) (x : Str) (sp : Sp) : Prop where
  ex : ∃ (f : Addr) (fd : FuncData) (ps : List Str), FnOk P w K mg base (L2N.CX P w) k f fd ps sp ∧ mg x = some (.ref f) ∧ PySem.W.keepIn K (.ref f) = true ∧ Binds K fd ps []
section
variable {P : Program} {w : World} {K : PySem.W.Frag} {mg : Str → Option Value} {base : Heap} {x : Str} {st : Stmt}
theorem clN_mk {N ps : List Str} {k : Nat} {sp : Sp} (F : FnP K mg x st) (S : FnScope N ps (defScope st))
    (b : ∀ (kV doc pm : Value) (an : Option Addr) (cdv ct : Value) (us : List Value), us.length = ps.length → bindArgs (PySem.W.fnOf x x (defArgs st) (defBody st) (defScope st) .none kV doc pm an cdv ct) ⟨us, []⟩ = pure (ps.zip us))
    (len : ∀ vs H Q E, sp vs H Q E → vs.length = ps.length)
    (hbody : ∀ (f : Addr) (cdv : Value) (A : Around) (outer : List Env) (s : Shared) (H : Hp) (vs : List V) (Q : VK) (E : XK), Room k (A.deeper (envOfC x (defScope st) s.heap.objs.size f cdv)) → sp vs H Q E →
      ∃ t, PSs (cxOf (L2N.CX P w) P w K mg base N x (defScope st) f cdv A outer s H E) (defBody st) t ∧ t { nx := fun _ H' => Q .non H', rt := Q } (start N vs) H) : ClN P w K mg base (k + 1) x sp := by
  obtain ⟨f, fd, F, m⟩ := F
  exact ⟨f, fd, ps, F.ok S len (hbody f), m, F.kp, F.bindsN b⟩
end
section
variable {X : Cx} {CX : CXT} {k j : Nat} {x : Str} {sp : Sp} {E : L2.St → XK} {p pos : Pos} {e : Expr} {es : List Expr} {t : TA}
theorem pe_clS (c : ∃ (f : Addr) (fd : FuncData) (ps : List Str), FnOk X.prog X.w X.K X.mg X.base CX k f fd ps sp ∧ X.mg x = some (.ref f) ∧ PySem.W.keepIn X.K (.ref f) = true ∧ Binds X.K fd ps []) (hr : Room j X.A) (hk : k ≤ j) (hg : Gl X x) (hx : ∀ σ, PassesAt CX X σ (E σ)) (ha : PA X (e :: es) t)
    (hdb : (x == ("__debug__" : Str)) = false := by decide) (he : starEach (e :: es) X.env = (false, eval e X.env) :: starEach es X.env := by rfl) (hpl : (backTo pos (starEach es X.env)).any (·.1) = false := by rfl) :
    PE X (.Call (.Name x p) (e :: es) [] pos) (tCallS sp E t) := by
  obtain ⟨f, fd, ps, F, hm, kp, b⟩ := c
  exact pe_callS F (hr.mono hk) hg hm kp b hx ha hdb he hpl
theorem w_clS {σ : L2.St} {H : Hp} {Q : VK} (h : t σ H fun vs H1 => sp vs H1 Q (E σ)) : tCallS sp E t σ H Q := h
end
/-- a, b = .. within a try: the frame told by name -/
theorem pg_tupK (K : PySem.W.Frag) (n : Nat) {X : Cx} {es : List Expr} {k : Nat} {pos : Pos} {t : TGs} (hK : X.K = K) (hc : X.calm = true) (h : PGs X es t) (hn : (assignEach es X.env).length = n) (hst : (assignEach es X.env).findIdx? (·.1) = none) : PG X (.Tuple es k pos) (gTup K n t) := by
  subst hK
  exact pg_tup hc h hn hst
section
variable {X : Cx} {C : Addr} {bmB : List Value} {B newId initId : String}
/-- X('m') -/
theorem pmk5_own {x m : Str} {j : Nat} {p p2 pos : Pos} (F : ExcBaseFacts B newId initId bmB) (q : PySem.W.excIn X.K C bmB newId = true) (gC : X.mg x = some (.ref C)) (kC : PySem.W.keepIn X.K (.ref C) = true) (r : Raises X (.ref C)) (hg : Gl X x)
    (hdb : (x == ("__debug__" : Str)) = false := by decide) : L2H.PMk5 X (.Call (.Name x p) [.Constant (.str m) j p2] [] pos) (fun _ H Q => Q (.ref C) none H) := fun pins s σ H Q I h => by
  have args : PA X [.Constant (.str m) j p2] (tCons (tC (.str m)) tNil) := pa_cons pe_str pa_nil
  refine wpAny_Call_Name_kw (ld_glob I hg gC (PySem.W.callWith_K (h₀ := X.base) I.ok.mod.kin kC (thn (args.run pos pins s σ H (fun vs H1 => vs = [V.str m] ∧ H = H1) I ⟨rfl, rfl⟩) ?_)) hdb)
  rintro us s1 ⟨vs, H1, I1, rv, rfl, rfl⟩
  refine ⟨I1.kIn, ?_⟩
  obtain ⟨u, rfl, ru⟩ := rv.one
  obtain ⟨bm, N, nm, qn, bs, hdct, sn, sub, ab, col, dd, k0, k1, k2, k3, k5, mN, hC, hN, hni, T⟩ := exc_obj I1.kIn q
  exact wpAny_call_exc_subT F T hC hN hni (fun h' e hm => L2H.mk_of5 I1 hm r h (I1.hok.gone hm.new)) (by show 1 ≤ sizeLine; rw [sizeLine_eq]; omega)
end
end Fw
end

section
-- part Fac
set_option Elab.async false
set_option linter.all false
set_option maxRecDepth 100000
set_option maxHeartbeats 1000000
namespace Ac
open PySem PySem.Spec PyProof.Rows
theorem owner_acc : Manifest.owners.lookup (String.ofList ['e', 't', 'a', 'l', 'u', 'm', 'u', 'c', 'c', 'a', '.', 's', 'l', 'o', 'o', 't', 'r', 'e', 't', 'i'].reverse) = some Manifest.sig_itertools_accumulate := by kernel_rfl
theorem mro_acc : mroOf (.type "itertools.accumulate") = pure [.type "itertools.accumulate", .type "object"] := by rw [mroOf_type]; kernel_rfl
theorem lookup_acc_new : typeLookup (.type "itertools.accumulate") "__new__" = pure (some (.builtin "itertools.accumulate.__new__")) := by rw [typeLookup_type, builtinLookup_eq_fast]; kernel_rfl
theorem slot_acc_init : Slot "itertools.accumulate" "__init__" "object.__init__" :=
  .of (owner := "object") (n := "__init__") (by rw [typeLookup_type, builtinLookup_eq_fast]; kernel_rfl) (by decide +kernel) (by decide +kernel) (by decide +kernel)
    (by first | exact .inl (by decide +kernel) | exact .inr (by decide +kernel)) (by rw [isSubtype_type]; kernel_rfl)
theorem sub_acc : isSubtype (.type "itertools.accumulate") (.type "itertools.accumulate") = pure true := by rw [isSubtype_type]; kernel_rfl
theorem called_acc : TypeCalled "itertools.accumulate" "itertools.accumulate.__new__" "object.__init__" :=
  ⟨by decide +kernel, by decide +kernel, ⟨_, _, mro_acc⟩, madeBy_type mro_acc lookup_acc_new (by decide +kernel), by decide +kernel, sub_acc, slot_acc_init⟩
theorem typeCall_acc (a : Value) : checkTypeCall "itertools.accumulate" ⟨[a], []⟩ = pure () := by kernel_rfl
theorem newCall_acc (a : Value) : checkBuiltinCall "itertools.accumulate.__new__" ⟨[.type "itertools.accumulate", a], []⟩ = pure () := by kernel_rfl
theorem entry_acc_new : entryFor table "itertools.accumulate.__new__" = some Builtin.«itertools.accumulate.__new__» := entryFor_of_tree (by kernel_rfl)
theorem slot_acc_iter : Slot "itertools.accumulate" "__iter__" "itertools.accumulate.__iter__" :=
  .of (owner := "itertools.accumulate") (n := "__iter__") (by rw [typeLookup_type, builtinLookup_eq_fast]; kernel_rfl) (by decide +kernel) (by decide +kernel) (by decide +kernel)
    (by first | exact .inl (by decide +kernel) | exact .inr (by decide +kernel)) sub_acc
theorem slot_acc_next : Slot "itertools.accumulate" "__next__" "itertools.accumulate.__next__" :=
  .of (owner := "itertools.accumulate") (n := "__next__") (by rw [typeLookup_type, builtinLookup_eq_fast]; kernel_rfl) (by decide +kernel) (by decide +kernel) (by decide +kernel)
    (by first | exact .inl (by decide +kernel) | exact .inr (by decide +kernel)) sub_acc
theorem entry_acc_iter : entryFor table "itertools.accumulate.__iter__" = some Builtin.«dict_keyiterator.__iter__» :=
  entryFor_alias (id' := "dict_keyiterator.__iter__") (by kernel_rfl) (by first | rfl | decide +kernel | (unfold String.splitOn; simp +decide [String.splitOnAux])) (by decide +kernel) (by kernel_rfl)
theorem entry_acc_next : entryFor table "itertools.accumulate.__next__" = some Builtin.«itertools.accumulate.__next__» := entryFor_of_tree (by kernel_rfl)
theorem args_acc_iter (a : Value) : argsOk "itertools.accumulate.__iter__" ⟨[a], []⟩ := by
  unfold argsOk; rw [signature?_of (id := "itertools.accumulate.__iter__") (n := ['_', '_', 'r', 'e', 't', 'i', '_', '_']) (o := ['e', 't', 'a', 'l', 'u', 'm', 'u', 'c', 'c', 'a', '.', 's', 'l', 'o', 'o', 't', 'r', 'e', 't', 'i']) (by kernel_rfl) owner_acc]; kernel_rfl
theorem args_acc_next (a : Value) : argsOk "itertools.accumulate.__next__" ⟨[a], []⟩ := by
  unfold argsOk; rw [signature?_of (id := "itertools.accumulate.__next__") (n := ['_', '_', 't', 'x', 'e', 'n', '_', '_']) (o := ['e', 't', 'a', 'l', 'u', 'm', 'u', 'c', 'c', 'a', '.', 's', 'l', 'o', 'o', 't', 'r', 'e', 't', 'i']) (by kernel_rfl) owner_acc]; kernel_rfl
theorem noDict_acc : typeHasDict (.type "itertools.accumulate") = false := by decide +kernel
/-- an accumulate object: what it draws from, its total so far -/
abbrev IsAcc (h : Heap) (a it : Addr) (S : Int) (t : Tok) : Prop := h.get? a = some { cls := .type "itertools.accumulate", dict := none, data := .fields #[.ref it, .none, .int S t, .none], slots := #[] }
theorem classRest_acc (x : Value) : Builtin.Itertools.itClassAndRest "accumulate" ⟨[.type "itertools.accumulate", x], []⟩ = pure (.type "itertools.accumulate", [x]) := by
  unfold Builtin.Itertools.itClassAndRest
  have e : ("itertools." ++ "accumulate" : String) = "itertools.accumulate" := by decide
  simp only [e, isType, sub_acc, pure_bind, Bool.not_true, Bool.false_eq_true, if_false]
theorem bind_acc (x : Value) : Builtin.Itertools.itBindNamed "accumulate" ["iterable", "func", "initial"] 1 2 [x] [] = pure [some x, none, none] := by
  first | rfl | kernel_rfl
section
variable {prog : Program} {w : World} {A : Around} {E : Value → Shared → Prop} {s : Shared}
theorem new_acc (x : Value) : MeetsIn prog w (Builtin.«itertools.accumulate.__new__» ⟨[.type "itertools.accumulate", x], []⟩)
    (fun A R s => wpAny (model prog w) A.in1 (pyIter x) (fun itv s1 => R (.ok (.ret (.ref s1.heap.objs.size))) { s1 with heap := s1.heap.push { cls := .type "itertools.accumulate", data := .fields #[itv, .none, .int 0 0, .none] } }) (fun e s1 => R (.error e) s1) s) :=
  .of_wp fun A R s h => by
    unfold Builtin.«itertools.accumulate.__new__»
    refine wpAny_bind (wpAny_of_eq (classRest_acc _) ?_)
    try dsimp only
    refine wpAny_bind (wpAny_of_eq (bind_acc _) ?_)
    try dsimp only
    refine wpAny_bind (wpAny_mono h (fun itv s1 hR => ?_) fun _ _ z => z)
    refine wpAny_bind ?_
    unfold Builtin.Itertools.itNewRecord
    rw [if_pos (by rw [noDict_acc]; rfl)]
    show wpAny _ _ (newObj (.type "itertools.accumulate") (.fields #[itv, .none, .int 0 0, .none])) _ _ _
    refine wpAny_newObj_type ?_
    exact wpAny_pure ⟨_, rfl, hR⟩
theorem call_acc {x : Value} {Q : Value → Shared → Prop}
    (hx : wpAny (model prog w) A.in1.in1 (pyIter x) (fun itv s1 => ∀ h', h'.get? s1.heap.objs.size = some { cls := .type "itertools.accumulate", dict := none, data := .fields #[itv, .none, .int 0 0, .none], slots := #[] } →
      (∀ c o, s1.heap.get? c = some o → h'.get? c = some o) → Q (.ref s1.heap.objs.size) { s1 with heap := h' }) E s) :
    wpAny (model prog w) A (call (.type "itertools.accumulate") [x]) Q E s := by
  refine callType_newIn called_acc (by decide +kernel) (typeCall_acc _) (newCall_acc _) (fun obj => F.args_object_init_2 obj _) entry_acc_new (new_acc x) ?_
  show wpAny (model prog w) A.in1.in1 (pyIter x) _ _ _
  refine wpAny_mono hx (fun itv s1 h => ?_) fun _ _ z => z
  have g : (s1.heap.push { cls := .type "itertools.accumulate", data := .fields #[itv, .none, .int 0 0, .none] }).get? s1.heap.objs.size = some { cls := .type "itertools.accumulate", dict := none, data := .fields #[itv, .none, .int 0 0, .none], slots := #[] } := Heap.get?_push_size _ rfl
  show _ ∧ _
  exact ⟨⟨_, g, rfl⟩, h _ g fun c o e => Heap.get?_push_of_some _ e⟩
/-- one item of a tuple's iterator, asked for by its slot -/
theorem raw_item {it t : Addr} {i : Nat} {items : Array Value} {x : Value} {Q : Value → Shared → Prop} (hit : s.heap.IsTupleIter it t i) (ht : s.heap.IsTuple t items) (hx : items[i]? = some x)
    (hQ : ∀ h', h'.IsTupleIter it t (i + 1) → Heap.SameBut it s.heap h' → Q x { s with heap := h' }) : wpAny (model prog w) A (Builtin.Itertools.itRawNext (.ref it)) Q E s := by
  obtain ⟨o1, g1, c1, d1⟩ := id hit
  obtain ⟨o2, g2, _, n2, d2⟩ := ht
  unfold Builtin.Itertools.itRawNext
  refine wpAny_bind (wpAny_callSpecial?_slot (name := Str.ofString "__next__") hit.typeIs F.slot_tuple_iterator_next (wpAny_call_entry F.slot_tuple_iterator_next hit.typeIs F.entry_tuple_iterator_next ?_ (F.args_tuple_iterator_next_1 _)))
  show wpAny _ _ (field (.ref it) 0 >>= _) _ _ s
  refine wpAny_bind (wpAny_field g1 d1 (x := .ref t) rfl ?_)
  show wpAny _ _ (if (Value.ref t == Value.none) = true then _ else _) _ _ s
  rw [if_neg (fun z : (Value.ref t == Value.none) = true => Bool.false_ne_true z)]
  show wpAny _ _ (field (.ref it) 1 >>= _) _ _ s
  refine wpAny_bind (wpAny_field g1 d1 (x := .int i 0) rfl ?_)
  show wpAny _ _ (seqItems? (.ref t) >>= _) _ _ s
  refine wpAny_bind (wpAny_seqItems g2 d2 ?_)
  simp only [Int.toNat_natCast, hx]
  refine wpAny_bind (wpAny_setField g1 d1 (by simp) (wpAny_pure ⟨x, rfl, wpAny_pure (hQ _ ⟨_, Heap.get?_update_self _ g1 (Obj.isFreed_of_fields (Obj.data_mapFields d1 _)), (Obj.cls_mapFields ..).trans c1, ?_⟩ (Heap.SameBut.update ..))⟩))
  rw [Obj.data_mapFields d1]
  simp [rawInt]
theorem raw_end {it t : Addr} {i : Nat} {items : Array Value} {Q : Value → Shared → Prop} (hh : A.handled = none) (hit : s.heap.IsTupleIter it t i) (ht : s.heap.IsTuple t items) (hx : items[i]? = none)
    (hE : ∀ h' e, Heap.ExtBut it s.heap h' → (∃ o, h'.get? e = some o ∧ o.cls = .type "StopIteration") → E (.ref e) { s with heap := h' }) : wpAny (model prog w) A (Builtin.Itertools.itRawNext (.ref it)) Q E s := by
  obtain ⟨o1, g1, c1, d1⟩ := id hit
  obtain ⟨o2, g2, _, n2, d2⟩ := ht
  unfold Builtin.Itertools.itRawNext
  refine wpAny_bind (wpAny_callSpecial?_slot (name := Str.ofString "__next__") hit.typeIs F.slot_tuple_iterator_next (wpAny_call_entry F.slot_tuple_iterator_next hit.typeIs F.entry_tuple_iterator_next ?_ (F.args_tuple_iterator_next_1 _)))
  show wpAny _ _ (field (.ref it) 0 >>= _) _ _ s
  refine wpAny_bind (wpAny_field g1 d1 (x := .ref t) rfl ?_)
  show wpAny _ _ (if (Value.ref t == Value.none) = true then _ else _) _ _ s
  rw [if_neg (fun z : (Value.ref t == Value.none) = true => Bool.false_ne_true z)]
  show wpAny _ _ (field (.ref it) 1 >>= _) _ _ s
  refine wpAny_bind (wpAny_field g1 d1 (x := .int i 0) rfl ?_)
  show wpAny _ _ (seqItems? (.ref t) >>= _) _ _ s
  refine wpAny_bind (wpAny_seqItems g2 d2 ?_)
  simp only [Int.toNat_natCast, hx]
  refine wpAny_bind (wpAny_rule (wpAny_bind (wpAny_setField g1 d1 (by simp) ?_)))
  show wpAny _ _ (newExc (.type "StopIteration") [] >>= _) _ _ _
  refine wpAny_bind ?_
  simp only [newExc, newTuple]
  refine wpAny_bind (wpAny_newObj_type ?_ (by size_fits))
  refine wpAny_bind (m := firstArgMember _ _) (wpAny_of_eq (a := Value.none) (by first | rfl | (simp only [firstArgMember]; rfl)) ?_)
  refine wpAny_newObj_type ?_ (by size_fits)
  simp only [raiseNew]
  refine wpAny_bind (wpAny_handled ?_)
  first | rw [show A.in1.handled = none from hh] | rw [hh]
  refine wpAny_bind (wpAny_pure (wpAny_throw ?_))
  exact hE _ _ (((Heap.SameBut.update ..).extBut.push _).push _) ⟨_, Heap.get?_push_size _ rfl, rfl⟩
/-- the next total -/
theorem acc_item {a it t : Addr} {i : Nat} {items : Array Value} {S b : Int} {tk u : Tok} {Q : Option Value → Shared → Prop} (ha : IsAcc s.heap a it S tk) (hit : s.heap.IsTupleIter it t i) (ht : s.heap.IsTuple t items) (hx : items[i]? = some (.int b u)) (h1 : a ≠ it) (h2 : t ≠ it) (h3 : t ≠ a)
    (hQ : ∀ h' v k, IsAcc h' a it (S + b) v → h'.IsTupleIter it t (i + 1) → h'.IsTuple t items → (∀ c o, c ≠ it → c ≠ a → s.heap.get? c = some o → h'.get? c = some o) → s.toks ≤ k → Q (some (.int (S + b) v)) { s with heap := h', toks := k }) :
    wpAny (model prog w) A (pyNext (.ref a)) Q E s := by
  have hT : s.TypeIs (.ref a) "itertools.accumulate" := ⟨_, ha, rfl⟩
  unfold pyNext
  refine wpAny_bind (wpAny_attempt (wpAny_callSpecial?_slot (name := Str.ofString "__next__") hT slot_acc_next (wpAny_call_entry slot_acc_next hT entry_acc_next ?_ (args_acc_next _))))
  show wpAny _ _ (field (.ref a) 3 >>= _) _ _ s
  refine wpAny_bind (wpAny_field ha rfl (x := .none) rfl ?_)
  show wpAny _ _ (field (.ref a) 0 >>= _) _ _ s
  refine wpAny_bind (wpAny_field ha rfl (x := .ref it) rfl ?_)
  refine wpAny_bind (raw_item hit ht hx fun h' hit' hs => ?_)
  have ha' : IsAcc h' a it S tk := (hs.2 a h1).trans ha
  have ht' : h'.IsTuple t items := ht.extBut hs.extBut h2
  show wpAny _ _ (field (.ref a) 2 >>= _) _ _ _
  refine wpAny_bind (wpAny_field ha' rfl (x := .int S tk) rfl ?_)
  have upd2 : ∀ (x : Value), (h'.update a (Obj.mapFields fun y => y.setIfInBounds 2 x)).get? a = some { cls := .type "itertools.accumulate", dict := none, data := .fields #[.ref it, .none, x, .none], slots := #[] } := fun x => Heap.get?_update_self _ ha' rfl
  have oth : ∀ (x : Value) c o, c ≠ a → h'.get? c = some o → (h'.update a (Obj.mapFields fun y => y.setIfInBounds 2 x)).get? c = some o := fun x c o hc e => (Heap.get?_update_other _ _ (Ne.symm hc)).trans e
  obtain ⟨o1, g1, r1⟩ := hit'
  obtain ⟨o2, g2, r2⟩ := ht'
  by_cases hz : (Value.int S tk == Builtin.Itertools.itNothing) = true
  · obtain rfl : S = 0 := by
      simp [Builtin.Itertools.itNothing, rawInt] at hz
      exact hz.1
    show wpAny _ _ (if (Value.int 0 tk == Builtin.Itertools.itNothing) = true then _ else _) _ _ _
    rw [if_pos hz]
    refine wpAny_bind (wpAny_rule ?_)
    refine wpAny_bind (wpAny_setField ha' rfl (by simp) ?_)
    refine wpAny_pure ⟨_, rfl, ?_⟩
    have e0 : (0 : Int) + b = b := Int.zero_add b
    rw [e0] at hQ
    exact wpAny_pure (hQ _ u s.toks (upd2 _) ⟨o1, oth _ _ _ (Ne.symm h1) g1, r1⟩ ⟨o2, oth _ _ _ h3 g2, r2⟩ (fun c o c1 c2 e => oth _ _ _ c2 (hs.extBut c o c1 e)) (Nat.le_refl _))
  · show wpAny _ _ (if (Value.int S tk == Builtin.Itertools.itNothing) = true then _ else _) _ _ _
    rw [if_neg hz]
    show wpAny _ _ (field (.ref a) 1 >>= _) _ _ _
    refine wpAny_bind (wpAny_field ha' rfl (x := .none) rfl ?_)
    refine wpAny_bind (wpAny_holding ?_)
    show wpAny _ _ (binaryOp .Add (.int S tk) (.int b u)) _ _ _
    refine PyProof.Rows.add_int ?_
    refine wpAny_bind (wpAny_setField ha' rfl (by simp) ?_)
    refine wpAny_bind (wpAny_letGo ?_)
    refine wpAny_pure ⟨_, rfl, ?_⟩
    exact wpAny_pure (hQ _ _ (s.toks + 1) (upd2 _) ⟨o1, oth _ _ _ (Ne.symm h1) g1, r1⟩ ⟨o2, oth _ _ _ h3 g2, r2⟩ (fun c o c1 c2 e => oth _ _ _ c2 (hs.extBut c o c1 e)) (Nat.le_succ _))
theorem acc_end {a it t : Addr} {i : Nat} {items : Array Value} {S : Int} {tk : Tok} {Q : Option Value → Shared → Prop} (hh : A.handled = none) (ha : IsAcc s.heap a it S tk) (hit : s.heap.IsTupleIter it t i) (ht : s.heap.IsTuple t items) (hx : items[i]? = none)
    (hQ : ∀ h', Heap.ExtBut it s.heap h' → Q none { s with heap := h' }) : wpAny (model prog w) A (pyNext (.ref a)) Q E s := by
  have hT : s.TypeIs (.ref a) "itertools.accumulate" := ⟨_, ha, rfl⟩
  have hh1 : A.in1.handled = none := hh
  unfold pyNext
  refine wpAny_bind (wpAny_attempt (wpAny_callSpecial?_slot (name := Str.ofString "__next__") hT slot_acc_next (wpAny_call_entry slot_acc_next hT entry_acc_next ?_ (args_acc_next _))))
  show wpAny _ _ (field (.ref a) 3 >>= _) _ _ s
  refine wpAny_bind (wpAny_field ha rfl (x := .none) rfl ?_)
  show wpAny _ _ (field (.ref a) 0 >>= _) _ _ s
  refine wpAny_bind (wpAny_field ha rfl (x := .ref it) rfl ?_)
  refine wpAny_bind (raw_end hh1 hit ht hx fun h' x he hx' => ?_)
  obtain ⟨o, ho, hc⟩ := hx'
  refine wpAny_bind (wpAny_isInstance (T := "StopIteration") (b := true) ⟨o, ho, hc⟩ isSubtype_stop ?_)
  exact wpAny_pure (hQ _ he)
theorem acc_iter {a it : Addr} {S : Int} {tk : Tok} {Q : Value → Shared → Prop} (ha : IsAcc s.heap a it S tk) (h : Q (.ref a) s) : wpAny (model prog w) A (pyIter (.ref a)) Q E s := by
  have hT : s.TypeIs (.ref a) "itertools.accumulate" := ⟨_, ha, rfl⟩
  refine wpAny_pyIter_slot hT slot_acc_iter (wpAny_call_entry slot_acc_iter hT entry_acc_iter ?_ (args_acc_iter _))
  show wpAny _ _ (ret (.ref a)) _ _ s
  exact wpAny_pure ⟨_, rfl, "itertools.accumulate", _, hT, slot_acc_next.lookup, h⟩
end
theorem walks_acc {prog : Program} {w : World} {A : Around} {a it t : Addr} {items : Array Value} {val : Nat → Int} (hh : A.handled = none) (hv : ∀ (i : Nat) (v : Value), items[i]? = some v → ∃ u, v = .int (val i) u) (h1 : a ≠ it) (h2 : t ≠ it) (h3 : t ≠ a) :
    WalksS prog w A a [a, it, t] [a, it] (fun x y => y = x) items.size (fun i v => ∃ u, v = .int (preSum val (i + 1)) u) (fun i s => (∃ tk, IsAcc s.heap a it (preSum val i) tk) ∧ s.heap.IsTupleIter it t i ∧ s.heap.IsTuple t items) where
  sub := fun b hb => by
    rcases List.mem_cons.mp hb with rfl | hb
    · simp
    · rw [List.mem_singleton.mp hb]; simp
  grefl := fun _ => rfl
  gtrans := fun _ _ _ q1 q2 => q2.trans q1
  frame := fun i s h' tk st _ hk => by
    obtain ⟨⟨k, q1⟩, ⟨o1, g1, r1⟩, ⟨o2, g2, r2⟩⟩ := st
    exact ⟨⟨k, hk a (by simp) _ q1⟩, ⟨o1, hk it (by simp) _ g1, r1⟩, ⟨o2, hk t (by simp) _ g2, r2⟩⟩
  item := fun i s Q E hi st hQ => by
    obtain ⟨⟨k, q1⟩, q2, q3⟩ := st
    have hg : items[i]? = some items[i] := Array.getElem?_eq_getElem hi
    obtain ⟨u, hu⟩ := hv i _ hg
    rw [hu] at hg
    refine acc_item q1 q2 q3 hg h1 h2 h3 fun h' v k2 a1 a2 a3 hk htk => ?_
    exact hQ _ _ ⟨v, rfl⟩ ⟨⟨v, a1⟩, a2, a3⟩ ⟨fun b o hb e => hk b o (fun z => hb (by simp [z])) (fun z => hb (by simp [z])) e, rfl, rfl, rfl, htk⟩
  done := fun s Q E st hQ => by
    obtain ⟨⟨k, q1⟩, q2, q3⟩ := st
    refine acc_end hh q1 q2 q3 (Array.getElem?_eq_none (Nat.le_refl _)) fun h' he => ?_
    exact hQ _ ⟨fun b o hb e => he b o (fun z => hb (by simp [z])) e, rfl, rfl, rfl, Nat.le_refl _⟩
  self := fun i s Q E st hQ => by
    obtain ⟨⟨k, q1⟩, _⟩ := st
    exact acc_iter q1 hQ
section
variable {prog : Program} {w : World} {A : Around} {E : Value → Shared → Prop} {s : Shared}
theorem sum_tup {t : Addr} {items : Array Value} {val : Nat → Int} {Q : Value → Shared → Prop} (hh : A.handled = none) (ht : s.heap.IsTuple t items) (hv : ∀ (i : Nat) (v : Value), items[i]? = some v → ∃ u, v = .int (val i) u)
    (hq : ∀ h' t' k, (∀ b o, s.heap.get? b = some o → h'.get? b = some o) → Q (.int (preSum val items.size) t') { s with heap := h', toks := k }) : wpAny (model prog w) A (call (.builtin "sum") [.ref t]) Q E s := by
  have lt : t < s.heap.objs.size := by obtain ⟨o, ho, _⟩ := ht; exact Heap.lt_size ho
  have hh1 : A.in1.handled = none := hh
  refine call_sum_walkG (wpAny_pyIter_tuple ht ?_)
  refine ⟨_, _, _, _, _, _, val, rfl, Walks.tuple hh1 s.heap.objs.size t (Nat.ne_of_lt lt) items, ⟨⟨_, Heap.get?_push_size _ rfl, rfl, rfl⟩, ht.push _⟩, fun b hb => ?_, hv, fun h' tk t' hk => ?_⟩
  · have e : (s.heap.push { cls := .type "tuple_iterator", data := .fields #[.ref t, .int 0 0] }).objs.size = s.heap.objs.size + 1 := Heap.size_push ..
    show b < (s.heap.push { cls := .type "tuple_iterator", data := .fields #[.ref t, .int 0 0] }).objs.size
    rw [e]
    rcases List.mem_cons.mp hb with rfl | hb
    · exact Nat.lt_succ_self _
    · rw [List.mem_singleton.mp hb]; exact Nat.lt_succ_of_lt lt
  · exact hq h' t' tk fun b o e => hk b o (fun z => absurd (List.mem_singleton.mp z) (Nat.ne_of_lt (Heap.lt_size e))) (Heap.get?_push_of_some _ e)
theorem sum_acc {t : Addr} {items : Array Value} {val : Nat → Int} {Q : Value → Shared → Prop} (hh : A.handled = none) (ht : s.heap.IsTuple t items) (hv : ∀ (i : Nat) (v : Value), items[i]? = some v → ∃ u, v = .int (val i) u)
    (hq : ∀ h' t' k, (∀ b o, s.heap.get? b = some o → h'.get? b = some o) → Q (.int (preSum (fun i => preSum val (i + 1)) items.size) t') { s with heap := h', toks := k }) :
    wpAny (model prog w) A (call (.type "itertools.accumulate") [.ref t]) (fun v s1 => wpAny (model prog w) A (call (.builtin "sum") [v]) Q E s1) E s := by
  have lt : t < s.heap.objs.size := by obtain ⟨o, ho, _⟩ := ht; exact Heap.lt_size ho
  have hh1 : A.in1.handled = none := hh
  refine call_acc (wpAny_pyIter_tuple ht ?_)
  have e1 : (s.heap.push { cls := .type "tuple_iterator", data := .fields #[.ref t, .int 0 0] }).objs.size = s.heap.objs.size + 1 := Heap.size_push ..
  intro h' g1 hk
  rw [show ({ s with heap := s.heap.push { cls := .type "tuple_iterator", data := .fields #[.ref t, .int 0 0] } } : Shared).heap.objs.size = s.heap.objs.size + 1 from e1] at g1 ⊢
  have git : h'.IsTupleIter s.heap.objs.size t 0 := ⟨_, hk _ _ (Heap.get?_push_size _ rfl), rfl, rfl⟩
  have gt : h'.IsTuple t items := (ht.push _).at fun o e => hk _ o e
  have W := walks_acc (A := A.in1) (prog := prog) (w := w) (a := s.heap.objs.size + 1) (it := s.heap.objs.size) (t := t) (items := items) hh1 hv (Nat.succ_ne_self _) (Nat.ne_of_lt lt) (Nat.ne_of_lt (Nat.lt_succ_of_lt lt))
  refine call_sum_walkAnyS (acc_iter g1 ?_)
  refine ⟨_, _, _, _, _, _, _, fun i => preSum val (i + 1), rfl, W, ⟨⟨0, g1⟩, git, gt⟩, fun b hb => ?_, fun i v hv => hv, fun s' t' hm => ?_⟩
  · have q1 := Heap.lt_size g1
    rcases List.mem_cons.mp hb with rfl | hb
    · exact q1
    · rcases List.mem_cons.mp hb with rfl | hb
      · exact Nat.lt_of_succ_lt q1
      · rw [List.mem_singleton.mp hb]; exact Nat.lt_trans lt (Nat.lt_of_succ_lt q1)
  · rw [Moved.eq_with hm]
    refine hq s'.heap t' s'.toks fun b o e => hm.heap b o (fun z => ?_) (hk b o (Heap.get?_push_of_some _ e))
    have hb := Heap.lt_size e
    rcases List.mem_cons.mp z with rfl | z
    · exact absurd hb (Nat.not_lt.mpr (Nat.le_succ _))
    · rw [List.mem_singleton.mp z] at hb
      exact Nat.lt_irrefl _ hb
end
end Ac
namespace L2
open PySem PySem.Spec PyProof.Rows
/-- the sum of the sums so far -/
def accI : Int → List Int → Int
  | _, [] => 0
  | S, b :: r => (S + b) + accI (S + b) r
theorem preSum_ext {f g : Nat → Int} : ∀ n, (∀ i, i < n → f i = g i) → preSum f n = preSum g n
  | 0, _ => rfl
  | n + 1, h => by
    show preSum f n + f n = preSum g n + g n
    rw [preSum_ext n (fun i hi => h i (Nat.lt_succ_of_lt hi)), h n (Nat.lt_succ_self n)]
theorem preSum_cons (f : Nat → Int) : ∀ n, preSum f (n + 1) = f 0 + preSum (fun i => f (i + 1)) n
  | 0 => by show (0 : Int) + f 0 = f 0 + 0; omega
  | n + 1 => by
    have := preSum_cons f n
    show preSum f (n + 1) + f (n + 1) = f 0 + (preSum (fun i => f (i + 1)) n + f (n + 1))
    rw [this]
    omega
theorem preSum_add (c : Int) (f : Nat → Int) : ∀ n, preSum (fun i => c + f i) n = n * c + preSum f n
  | 0 => by show (0 : Int) = ((0 : Nat) : Int) * c + 0; simp
  | n + 1 => by
    show preSum (fun i => c + f i) n + (c + f n) = ((n + 1 : Nat) : Int) * c + (preSum f n + f n)
    rw [preSum_add c f n, Int.natCast_add, Int.add_mul]
    simp only [Int.natCast_one, Int.one_mul]
    omega
theorem accI_add : ∀ (S : Int) (ns : List Int), accI S ns = ns.length * S + accI 0 ns
  | S, [] => by simp [accI]
  | S, b :: r => by
    show S + b + accI (S + b) r = ((r.length + 1 : Nat) : Int) * S + (0 + b + accI (0 + b) r)
    rw [accI_add (S + b) r, accI_add (0 + b) r, Int.natCast_add, Int.add_mul, Int.mul_add]
    simp only [Int.natCast_one, Int.one_mul, Int.zero_add]
    omega
theorem pre_sum : ∀ (ns : List Int) (val : Nat → Int), (∀ i b, ns[i]? = some b → val i = b) → preSum val ns.length = ns.sum
  | [], _, _ => rfl
  | b :: r, val, h => by
    rw [List.length_cons, preSum_cons, h 0 b rfl, pre_sum r (fun i => val (i + 1)) (fun i c hc => h (i + 1) c hc), List.sum_cons]
theorem pre_acc : ∀ (ns : List Int) (val : Nat → Int), (∀ i b, ns[i]? = some b → val i = b) → preSum (fun i => preSum val (i + 1)) ns.length = accI 0 ns
  | [], _, _ => rfl
  | b :: r, val, h => by
    rw [List.length_cons, preSum_cons]
    have e : preSum (fun i => preSum val (i + 1 + 1)) r.length = preSum (fun i => b + preSum (fun i => val (i + 1)) (i + 1)) r.length := preSum_ext _ fun i _ => by
      show preSum val (i + 1 + 1) = _
      rw [preSum_cons, h 0 b rfl]
    show preSum val (0 + 1) + preSum (fun i => preSum val (i + 1 + 1)) r.length = _
    rw [e, preSum_add, pre_acc r (fun i => val (i + 1)) (fun i c hc => h (i + 1) c hc)]
    show (0 : Int) + val 0 + (r.length * b + accI 0 r) = 0 + b + accI (0 + b) r
    rw [h 0 b rfl, accI_add (0 + b) r]
    simp only [Int.zero_add]
theorem ints_val {ns : List Int} {its : List Value} (rv : Vals (ns.map V.int) its) : ∀ (i : Nat) (v : Value), its.toArray[i]? = some v → ∃ u, v = .int (ns[i]?.getD 0) u := fun i v hv => by
  have hv' : its[i]? = some v := by simpa using hv
  have hi : i < ns.length := by
    have e := rv.length
    rw [List.length_map] at e
    have := (List.getElem?_eq_some_iff.mp hv').1
    omega
  obtain ⟨u2, hu2, rx⟩ := rv.get (i := i) (x := V.int ns[i]) (by rw [List.getElem?_map, List.getElem?_eq_getElem hi]; rfl)
  obtain rfl : u2 = v := Option.some.inj (hu2.symm.trans hv')
  obtain ⟨t, rfl⟩ := rx
  exact ⟨t, by rw [List.getElem?_eq_getElem hi]; rfl⟩
theorem val_get {ns : List Int} : ∀ (i : Nat) (b : Int), ns[i]? = some b → (fun i : Nat => ns[i]?.getD 0) i = b := fun i b h => by
  show ns[i]?.getD 0 = b
  rw [h]
  rfl
section
variable {X : Cx}
/-- sum(t) of a list or tuple of ints -/
def rSumA (K : PySem.W.Frag) : List V → Hp → VK → Prop := fun vs H Q => ∃ (a : Addr) (ns : List Int), vs = [V.ref a] ∧ (SqL K H a (ns.map V.int) ∨ SqT K H a (ns.map V.int)) ∧ Q (.int ns.sum) H
theorem cr_sumA (hc : X.calm = true) : CallR X (.builtin "sum") (rSumA X.K) := by
  intro pins s σ H vs us Q I r h
  obtain ⟨a, ns, rfl, hs, q⟩ := h
  rcases hs with hs | hs
  · exact cr_sum hc pins s σ H [V.ref a] us Q I r ⟨a, ns, rfl, hs, q⟩
  obtain ⟨its, rv, hl, _⟩ := I.tuple hs
  rw [Vals.ref1 r]
  refine Ac.sum_tup (val := fun i : Nat => ns[i]?.getD 0) (I.ok.hd hc) hl (ints_val rv) fun h' t' k hk => ⟨.int _, H, I.kept hk, ⟨_, rfl⟩, ?_⟩
  have e : its.toArray.size = ns.length := by have := rv.length; rw [List.length_map] at this; simp only [List.size_toArray]; omega
  rw [e, pre_sum ns _ val_get]
  exact q
/-- sum(accumulate(t)) of a tuple of ints -/
def tSumAcc (K : PySem.W.Frag) (ta : TA) : TE := fun σ H Q => ta σ H fun vs H2 => ∃ (q : Addr) (ns : List Int), vs = [V.ref q] ∧ SqT K H2 q (ns.map V.int) ∧ Q (.int (accI 0 ns)) H2
theorem pe_sumAcc {e : Expr} {ta : TA} {p0 pos p pos2 : Pos} (hc : X.calm = true) (hgs : Gl X "sum") (hms : X.mg "sum" = none) (hg : Gl X "accumulate") (hm : X.mg "accumulate" = some (.type "itertools.accumulate")) (ha : PA X [e] ta)
    (hs1 : starEach [.Call (.Name "accumulate" p) [e] [] pos2] X.env = (false, eval (.Call (.Name "accumulate" p) [e] [] pos2) X.env) :: starEach [] X.env := by rfl)
    (hp1 : (backTo pos (starEach [] X.env)).any (·.1) = false := by rfl) (hs : starEach [e] X.env = (false, eval e X.env) :: starEach [] X.env := by rfl) (hpl : (backTo pos2 (starEach [] X.env)).any (·.1) = false := by rfl) :
    PE X (.Call (.Name "sum" p0) [.Call (.Name "accumulate" p) [e] [] pos2] [] pos) (tSumAcc X.K ta) := by
  refine ⟨fun pins s σ H Q I h => ?_⟩
  refine wpAny_Call_Name_kw (ld_blt I hgs hms boot_sum ?_)
  refine PyProof.Rows.callWith_builtin1 ?_ hs1 hp1
  rw [hs1]
  show wpAny _ _ (spliced ((false, eval (.Call (.Name "accumulate" p) [e] [] pos2) X.env) :: backTo pos (starEach [] X.env))) _ _ s
  refine Calls.spliced_cons ?_
  refine wpAny_Call_Name_kw (ld_glob I hg hm ?_ (by decide))
  refine PyProof.Rows.callWith_type1 ?_ hs hpl
  refine thn (ha.run pos2 pins s σ H _ I h) fun us s3 ⟨vs, H2, I3, r3, q3⟩ => ?_
  obtain ⟨q, ns, rfl, hq, q3⟩ := q3
  rw [Vals.ref1 r3]
  obtain ⟨its, rv, hl, _⟩ := I3.tuple hq
  refine wpAny_mono (Ac.sum_acc (val := fun i : Nat => ns[i]?.getD 0) (Q := EP X pins σ Q) (E := X.xe) (I3.ok.hd hc) hl (ints_val rv) fun h' t' k hk => ?_) (fun v s4 h4 => Calls.spliced_nil h4) fun _ _ z => z
  have e : its.toArray.size = ns.length := by have := rv.length; rw [List.length_map] at this; simp only [List.size_toArray]; omega
  rw [e, pre_acc ns _ val_get]
  exact ⟨.int _, H2, I3.kept hk, ⟨t', rfl⟩, q3⟩
theorem w_sumAcc {K : PySem.W.Frag} {ta : TA} {σ : St} {H : Hp} {Q : VK} (h : ta σ H fun vs H2 => ∃ (q : Addr) (ns : List Int), vs = [V.ref q] ∧ SqT K H2 q (ns.map V.int) ∧ Q (.int (accI 0 ns)) H2) : tSumAcc K ta σ H Q := h
end
end L2
end

section
-- part Fal
set_option Elab.async false
set_option linter.all false
set_option maxRecDepth 100000
set_option maxHeartbeats 1000000
/-! Fal: sum(accumulate(l)) of a list, too -/
namespace Ac
open PySem PySem.Spec PyProof.Rows
section
variable {prog : Program} {w : World} {A : Around} {E : Value → Shared → Prop} {s : Shared}
/-- one item of a list's iterator, asked for by its slot -/
theorem raw_itemL {it t : Addr} {i : Nat} {items : Array Value} {x : Value} {Q : Value → Shared → Prop} (hit : s.heap.IsListIter it t i) (ht : s.heap.IsList t items) (hx : items[i]? = some x)
    (hQ : ∀ h', h'.IsListIter it t (i + 1) → Heap.SameBut it s.heap h' → Q x { s with heap := h' }) : wpAny (model prog w) A (Builtin.Itertools.itRawNext (.ref it)) Q E s := by
  obtain ⟨o1, g1, c1, d1⟩ := id hit
  obtain ⟨o2, g2, _, n2, d2⟩ := ht
  unfold Builtin.Itertools.itRawNext
  refine wpAny_bind (wpAny_callSpecial?_slot (name := Str.ofString "__next__") hit.typeIs slot_listiter_next (wpAny_call_entry slot_listiter_next hit.typeIs entry_listiter_next ?_ (args_listiter_next _)))
  show wpAny _ _ (field (.ref it) 0 >>= _) _ _ s
  refine wpAny_bind (wpAny_field g1 d1 (x := .ref t) rfl ?_)
  show wpAny _ _ (if (Value.ref t == Value.none) = true then _ else _) _ _ s
  rw [if_neg (fun z : (Value.ref t == Value.none) = true => Bool.false_ne_true z)]
  show wpAny _ _ (field (.ref it) 1 >>= _) _ _ s
  refine wpAny_bind (wpAny_field g1 d1 (x := .int i 0) rfl ?_)
  show wpAny _ _ (seqItems? (.ref t) >>= _) _ _ s
  refine wpAny_bind (wpAny_seqItems g2 d2 ?_)
  simp only [Int.toNat_natCast, hx]
  refine wpAny_bind (wpAny_setField g1 d1 (by simp) (wpAny_pure ⟨x, rfl, wpAny_pure (hQ _ ⟨_, Heap.get?_update_self _ g1 (Obj.isFreed_of_fields (Obj.data_mapFields d1 _)), (Obj.cls_mapFields ..).trans c1, ?_⟩ (Heap.SameBut.update ..))⟩))
  rw [Obj.data_mapFields d1]
  simp [rawInt]
theorem raw_endL {it t : Addr} {i : Nat} {items : Array Value} {Q : Value → Shared → Prop} (hh : A.handled = none) (hit : s.heap.IsListIter it t i) (ht : s.heap.IsList t items) (hx : items[i]? = none)
    (hE : ∀ h' e, Heap.ExtBut it s.heap h' → (∃ o, h'.get? e = some o ∧ o.cls = .type "StopIteration") → E (.ref e) { s with heap := h' }) : wpAny (model prog w) A (Builtin.Itertools.itRawNext (.ref it)) Q E s := by
  obtain ⟨o1, g1, c1, d1⟩ := id hit
  obtain ⟨o2, g2, _, n2, d2⟩ := ht
  unfold Builtin.Itertools.itRawNext
  refine wpAny_bind (wpAny_callSpecial?_slot (name := Str.ofString "__next__") hit.typeIs slot_listiter_next (wpAny_call_entry slot_listiter_next hit.typeIs entry_listiter_next ?_ (args_listiter_next _)))
  show wpAny _ _ (field (.ref it) 0 >>= _) _ _ s
  refine wpAny_bind (wpAny_field g1 d1 (x := .ref t) rfl ?_)
  show wpAny _ _ (if (Value.ref t == Value.none) = true then _ else _) _ _ s
  rw [if_neg (fun z : (Value.ref t == Value.none) = true => Bool.false_ne_true z)]
  show wpAny _ _ (field (.ref it) 1 >>= _) _ _ s
  refine wpAny_bind (wpAny_field g1 d1 (x := .int i 0) rfl ?_)
  show wpAny _ _ (seqItems? (.ref t) >>= _) _ _ s
  refine wpAny_bind (wpAny_seqItems g2 d2 ?_)
  simp only [Int.toNat_natCast, hx]
  refine wpAny_bind (wpAny_rule (wpAny_bind (wpAny_setField g1 d1 (by simp) ?_)))
  show wpAny _ _ (newExc (.type "StopIteration") [] >>= _) _ _ _
  refine wpAny_bind ?_
  simp only [newExc, newTuple]
  refine wpAny_bind (wpAny_newObj_type ?_ (by size_fits))
  refine wpAny_bind (m := firstArgMember _ _) (wpAny_of_eq (a := Value.none) (by first | rfl | (simp only [firstArgMember]; rfl)) ?_)
  refine wpAny_newObj_type ?_ (by size_fits)
  simp only [raiseNew]
  refine wpAny_bind (wpAny_handled ?_)
  first | rw [show A.in1.handled = none from hh] | rw [hh]
  refine wpAny_bind (wpAny_pure (wpAny_throw ?_))
  exact hE _ _ (((Heap.SameBut.update ..).extBut.push _).push _) ⟨_, Heap.get?_push_size _ rfl, rfl⟩
/-- the next total -/
theorem acc_itemL {a it t : Addr} {i : Nat} {items : Array Value} {S b : Int} {tk u : Tok} {Q : Option Value → Shared → Prop} (ha : IsAcc s.heap a it S tk) (hit : s.heap.IsListIter it t i) (ht : s.heap.IsList t items) (hx : items[i]? = some (.int b u)) (h1 : a ≠ it) (h2 : t ≠ it) (h3 : t ≠ a)
    (hQ : ∀ h' v k, IsAcc h' a it (S + b) v → h'.IsListIter it t (i + 1) → h'.IsList t items → (∀ c o, c ≠ it → c ≠ a → s.heap.get? c = some o → h'.get? c = some o) → s.toks ≤ k → Q (some (.int (S + b) v)) { s with heap := h', toks := k }) :
    wpAny (model prog w) A (pyNext (.ref a)) Q E s := by
  have hT : s.TypeIs (.ref a) "itertools.accumulate" := ⟨_, ha, rfl⟩
  unfold pyNext
  refine wpAny_bind (wpAny_attempt (wpAny_callSpecial?_slot (name := Str.ofString "__next__") hT slot_acc_next (wpAny_call_entry slot_acc_next hT entry_acc_next ?_ (args_acc_next _))))
  show wpAny _ _ (field (.ref a) 3 >>= _) _ _ s
  refine wpAny_bind (wpAny_field ha rfl (x := .none) rfl ?_)
  show wpAny _ _ (field (.ref a) 0 >>= _) _ _ s
  refine wpAny_bind (wpAny_field ha rfl (x := .ref it) rfl ?_)
  refine wpAny_bind (raw_itemL hit ht hx fun h' hit' hs => ?_)
  have ha' : IsAcc h' a it S tk := (hs.2 a h1).trans ha
  have ht' : h'.IsList t items := ht.extBut hs.extBut h2
  show wpAny _ _ (field (.ref a) 2 >>= _) _ _ _
  refine wpAny_bind (wpAny_field ha' rfl (x := .int S tk) rfl ?_)
  have upd2 : ∀ (x : Value), (h'.update a (Obj.mapFields fun y => y.setIfInBounds 2 x)).get? a = some { cls := .type "itertools.accumulate", dict := none, data := .fields #[.ref it, .none, x, .none], slots := #[] } := fun x => Heap.get?_update_self _ ha' rfl
  have oth : ∀ (x : Value) c o, c ≠ a → h'.get? c = some o → (h'.update a (Obj.mapFields fun y => y.setIfInBounds 2 x)).get? c = some o := fun x c o hc e => (Heap.get?_update_other _ _ (Ne.symm hc)).trans e
  obtain ⟨o1, g1, r1⟩ := hit'
  obtain ⟨o2, g2, r2⟩ := ht'
  by_cases hz : (Value.int S tk == Builtin.Itertools.itNothing) = true
  · obtain rfl : S = 0 := by
      simp [Builtin.Itertools.itNothing, rawInt] at hz
      exact hz.1
    show wpAny _ _ (if (Value.int 0 tk == Builtin.Itertools.itNothing) = true then _ else _) _ _ _
    rw [if_pos hz]
    refine wpAny_bind (wpAny_rule ?_)
    refine wpAny_bind (wpAny_setField ha' rfl (by simp) ?_)
    refine wpAny_pure ⟨_, rfl, ?_⟩
    have e0 : (0 : Int) + b = b := Int.zero_add b
    rw [e0] at hQ
    exact wpAny_pure (hQ _ u s.toks (upd2 _) ⟨o1, oth _ _ _ (Ne.symm h1) g1, r1⟩ ⟨o2, oth _ _ _ h3 g2, r2⟩ (fun c o c1 c2 e => oth _ _ _ c2 (hs.extBut c o c1 e)) (Nat.le_refl _))
  · show wpAny _ _ (if (Value.int S tk == Builtin.Itertools.itNothing) = true then _ else _) _ _ _
    rw [if_neg hz]
    show wpAny _ _ (field (.ref a) 1 >>= _) _ _ _
    refine wpAny_bind (wpAny_field ha' rfl (x := .none) rfl ?_)
    refine wpAny_bind (wpAny_holding ?_)
    show wpAny _ _ (binaryOp .Add (.int S tk) (.int b u)) _ _ _
    refine PyProof.Rows.add_int ?_
    refine wpAny_bind (wpAny_setField ha' rfl (by simp) ?_)
    refine wpAny_bind (wpAny_letGo ?_)
    refine wpAny_pure ⟨_, rfl, ?_⟩
    exact wpAny_pure (hQ _ _ (s.toks + 1) (upd2 _) ⟨o1, oth _ _ _ (Ne.symm h1) g1, r1⟩ ⟨o2, oth _ _ _ h3 g2, r2⟩ (fun c o c1 c2 e => oth _ _ _ c2 (hs.extBut c o c1 e)) (Nat.le_succ _))
theorem acc_endL {a it t : Addr} {i : Nat} {items : Array Value} {S : Int} {tk : Tok} {Q : Option Value → Shared → Prop} (hh : A.handled = none) (ha : IsAcc s.heap a it S tk) (hit : s.heap.IsListIter it t i) (ht : s.heap.IsList t items) (hx : items[i]? = none)
    (hQ : ∀ h', Heap.ExtBut it s.heap h' → Q none { s with heap := h' }) : wpAny (model prog w) A (pyNext (.ref a)) Q E s := by
  have hT : s.TypeIs (.ref a) "itertools.accumulate" := ⟨_, ha, rfl⟩
  have hh1 : A.in1.handled = none := hh
  unfold pyNext
  refine wpAny_bind (wpAny_attempt (wpAny_callSpecial?_slot (name := Str.ofString "__next__") hT slot_acc_next (wpAny_call_entry slot_acc_next hT entry_acc_next ?_ (args_acc_next _))))
  show wpAny _ _ (field (.ref a) 3 >>= _) _ _ s
  refine wpAny_bind (wpAny_field ha rfl (x := .none) rfl ?_)
  show wpAny _ _ (field (.ref a) 0 >>= _) _ _ s
  refine wpAny_bind (wpAny_field ha rfl (x := .ref it) rfl ?_)
  refine wpAny_bind (raw_endL hh1 hit ht hx fun h' x he hx' => ?_)
  obtain ⟨o, ho, hc⟩ := hx'
  refine wpAny_bind (wpAny_isInstance (T := "StopIteration") (b := true) ⟨o, ho, hc⟩ isSubtype_stop ?_)
  exact wpAny_pure (hQ _ he)
end
theorem walks_accL {prog : Program} {w : World} {A : Around} {a it t : Addr} {items : Array Value} {val : Nat → Int} (hh : A.handled = none) (hv : ∀ (i : Nat) (v : Value), items[i]? = some v → ∃ u, v = .int (val i) u) (h1 : a ≠ it) (h2 : t ≠ it) (h3 : t ≠ a) :
    WalksS prog w A a [a, it, t] [a, it] (fun x y => y = x) items.size (fun i v => ∃ u, v = .int (preSum val (i + 1)) u) (fun i s => (∃ tk, IsAcc s.heap a it (preSum val i) tk) ∧ s.heap.IsListIter it t i ∧ s.heap.IsList t items) where
  sub := fun b hb => by
    rcases List.mem_cons.mp hb with rfl | hb
    · simp
    · rw [List.mem_singleton.mp hb]; simp
  grefl := fun _ => rfl
  gtrans := fun _ _ _ q1 q2 => q2.trans q1
  frame := fun i s h' tk st _ hk => by
    obtain ⟨⟨k, q1⟩, ⟨o1, g1, r1⟩, ⟨o2, g2, r2⟩⟩ := st
    exact ⟨⟨k, hk a (by simp) _ q1⟩, ⟨o1, hk it (by simp) _ g1, r1⟩, ⟨o2, hk t (by simp) _ g2, r2⟩⟩
  item := fun i s Q E hi st hQ => by
    obtain ⟨⟨k, q1⟩, q2, q3⟩ := st
    have hg : items[i]? = some items[i] := Array.getElem?_eq_getElem hi
    obtain ⟨u, hu⟩ := hv i _ hg
    rw [hu] at hg
    refine acc_itemL q1 q2 q3 hg h1 h2 h3 fun h' v k2 a1 a2 a3 hk htk => ?_
    exact hQ _ _ ⟨v, rfl⟩ ⟨⟨v, a1⟩, a2, a3⟩ ⟨fun b o hb e => hk b o (fun z => hb (by simp [z])) (fun z => hb (by simp [z])) e, rfl, rfl, rfl, htk⟩
  done := fun s Q E st hQ => by
    obtain ⟨⟨k, q1⟩, q2, q3⟩ := st
    refine acc_endL hh q1 q2 q3 (Array.getElem?_eq_none (Nat.le_refl _)) fun h' he => ?_
    exact hQ _ ⟨fun b o hb e => he b o (fun z => hb (by simp [z])) e, rfl, rfl, rfl, Nat.le_refl _⟩
  self := fun i s Q E st hQ => by
    obtain ⟨⟨k, q1⟩, _⟩ := st
    exact acc_iter q1 hQ
section
variable {prog : Program} {w : World} {A : Around} {E : Value → Shared → Prop} {s : Shared}
theorem sum_accL {t : Addr} {items : Array Value} {val : Nat → Int} {Q : Value → Shared → Prop} (hh : A.handled = none) (ht : s.heap.IsList t items) (hv : ∀ (i : Nat) (v : Value), items[i]? = some v → ∃ u, v = .int (val i) u)
    (hq : ∀ h' t' k, (∀ b o, s.heap.get? b = some o → h'.get? b = some o) → Q (.int (preSum (fun i => preSum val (i + 1)) items.size) t') { s with heap := h', toks := k }) :
    wpAny (model prog w) A (call (.type "itertools.accumulate") [.ref t]) (fun v s1 => wpAny (model prog w) A (call (.builtin "sum") [v]) Q E s1) E s := by
  have lt : t < s.heap.objs.size := by obtain ⟨o, ho, _⟩ := ht; exact Heap.lt_size ho
  have hh1 : A.in1.handled = none := hh
  refine call_acc (wpAny_pyIter_list ht ?_)
  have e1 : (s.heap.push { cls := .type "list_iterator", data := .fields #[.ref t, .int 0 0] }).objs.size = s.heap.objs.size + 1 := Heap.size_push ..
  intro h' g1 hk
  rw [show ({ s with heap := s.heap.push { cls := .type "list_iterator", data := .fields #[.ref t, .int 0 0] } } : Shared).heap.objs.size = s.heap.objs.size + 1 from e1] at g1 ⊢
  have git : h'.IsListIter s.heap.objs.size t 0 := ⟨_, hk _ _ (Heap.get?_push_size _ rfl), rfl, rfl⟩
  have gt : h'.IsList t items := (ht.push _).at fun o e => hk _ o e
  have W := walks_accL (A := A.in1) (prog := prog) (w := w) (a := s.heap.objs.size + 1) (it := s.heap.objs.size) (t := t) (items := items) hh1 hv (Nat.succ_ne_self _) (Nat.ne_of_lt lt) (Nat.ne_of_lt (Nat.lt_succ_of_lt lt))
  refine call_sum_walkAnyS (acc_iter g1 ?_)
  refine ⟨_, _, _, _, _, _, _, fun i => preSum val (i + 1), rfl, W, ⟨⟨0, g1⟩, git, gt⟩, fun b hb => ?_, fun i v hv => hv, fun s' t' hm => ?_⟩
  · have q1 := Heap.lt_size g1
    rcases List.mem_cons.mp hb with rfl | hb
    · exact q1
    · rcases List.mem_cons.mp hb with rfl | hb
      · exact Nat.lt_of_succ_lt q1
      · rw [List.mem_singleton.mp hb]; exact Nat.lt_trans lt (Nat.lt_of_succ_lt q1)
  · rw [Moved.eq_with hm]
    refine hq s'.heap t' s'.toks fun b o e => hm.heap b o (fun z => ?_) (hk b o (Heap.get?_push_of_some _ e))
    have hb := Heap.lt_size e
    rcases List.mem_cons.mp z with rfl | z
    · exact absurd hb (Nat.not_lt.mpr (Nat.le_succ _))
    · rw [List.mem_singleton.mp z] at hb
      exact Nat.lt_irrefl _ hb
end
end Ac
namespace L2
open PySem PySem.Spec PyProof.Rows
section
variable {X : Cx}
/-- sum(accumulate(t)) of a tuple or a list of ints -/
def tSumAc2 (K : PySem.W.Frag) (ta : TA) : TE := fun σ H Q => ta σ H fun vs H2 => ∃ (q : Addr) (ns : List Int), vs = [V.ref q] ∧ (SqL K H2 q (ns.map V.int) ∨ SqT K H2 q (ns.map V.int)) ∧ Q (.int (accI 0 ns)) H2
theorem pe_sumAc2 {e : Expr} {ta : TA} {p0 pos p pos2 : Pos} (hc : X.calm = true) (hgs : Gl X "sum") (hms : X.mg "sum" = none) (hg : Gl X "accumulate") (hm : X.mg "accumulate" = some (.type "itertools.accumulate")) (ha : PA X [e] ta)
    (hs1 : starEach [.Call (.Name "accumulate" p) [e] [] pos2] X.env = (false, eval (.Call (.Name "accumulate" p) [e] [] pos2) X.env) :: starEach [] X.env := by rfl)
    (hp1 : (backTo pos (starEach [] X.env)).any (·.1) = false := by rfl) (hs : starEach [e] X.env = (false, eval e X.env) :: starEach [] X.env := by rfl) (hpl : (backTo pos2 (starEach [] X.env)).any (·.1) = false := by rfl) :
    PE X (.Call (.Name "sum" p0) [.Call (.Name "accumulate" p) [e] [] pos2] [] pos) (tSumAc2 X.K ta) := by
  refine ⟨fun pins s σ H Q I h => ?_⟩
  refine wpAny_Call_Name_kw (ld_blt I hgs hms boot_sum ?_)
  refine PyProof.Rows.callWith_builtin1 ?_ hs1 hp1
  rw [hs1]
  show wpAny _ _ (spliced ((false, eval (.Call (.Name "accumulate" p) [e] [] pos2) X.env) :: backTo pos (starEach [] X.env))) _ _ s
  refine Calls.spliced_cons ?_
  refine wpAny_Call_Name_kw (ld_glob I hg hm ?_ (by decide))
  refine PyProof.Rows.callWith_type1 ?_ hs hpl
  refine thn (ha.run pos2 pins s σ H _ I h) fun us s3 ⟨vs, H2, I3, r3, q3⟩ => ?_
  obtain ⟨q, ns, rfl, hq, q3⟩ := q3
  rw [Vals.ref1 r3]
  have fin : ∀ {its : List Value} (rv : Vals (ns.map V.int) its) (h' : Heap) (t' : Tok) (k : Nat), (∀ b o, s3.heap.get? b = some o → h'.get? b = some o) → EP X pins σ Q (.int (preSum (fun i => preSum (fun i : Nat => ns[i]?.getD 0) (i + 1)) its.toArray.size) t') { s3 with heap := h', toks := k } := fun {its} rv h' t' k hk => by
    have e : its.toArray.size = ns.length := by have := rv.length; rw [List.length_map] at this; simp only [List.size_toArray]; omega
    rw [e, pre_acc ns _ val_get]
    exact ⟨.int _, H2, I3.kept hk, ⟨t', rfl⟩, q3⟩
  rcases hq with hq | hq
  · obtain ⟨its, rv, hl, _⟩ := I3.list hq
    exact wpAny_mono (Ac.sum_accL (val := fun i : Nat => ns[i]?.getD 0) (Q := EP X pins σ Q) (E := X.xe) (I3.ok.hd hc) hl.isList (ints_val rv) (fin rv)) (fun v s4 h4 => Calls.spliced_nil h4) fun _ _ z => z
  · obtain ⟨its, rv, hl, _⟩ := I3.tuple hq
    exact wpAny_mono (Ac.sum_acc (val := fun i : Nat => ns[i]?.getD 0) (Q := EP X pins σ Q) (E := X.xe) (I3.ok.hd hc) hl (ints_val rv) (fin rv)) (fun v s4 h4 => Calls.spliced_nil h4) fun _ _ z => z
theorem w_sumAc2 {K : PySem.W.Frag} {ta : TA} {σ : St} {H : Hp} {Q : VK} (h : ta σ H fun vs H2 => ∃ (q : Addr) (ns : List Int), vs = [V.ref q] ∧ (SqL K H2 q (ns.map V.int) ∨ SqT K H2 q (ns.map V.int)) ∧ Q (.int (accI 0 ns)) H2) : tSumAc2 K ta σ H Q := h
end
end L2
end

section
-- part Fgn
set_option Elab.async false
set_option linter.all false
set_option maxRecDepth 100000
set_option maxHeartbeats 2000000
/-! Fgn: any, all of a test over a tuple of ints, the def's table of code objects kept by names -/
namespace GnI
open PySem PySem.Spec PyProof.Rows L2 LamX
open GxR (GenS keeps_refl keeps_tok sh_eta passing_true)
/-- the test of an int -/
def EltI (prog : Program) (w : World) (scope : Scope) (x : Str) (elt : Expr) (pb : Int → Bool) : Prop :=
  ∀ (ce : Env) (B : Around) (F : Value → Shared → Prop) (c : Int) (t : Tok) (z : Shared) (m : Str → Option Value), ce.scope = scope → z.heap.Ns ce.locals m → m x = some (.int c t) →
    wpAny (model prog w) B (eval elt ce) (fun y z' => y = .bool (pb c) ∧ Keeps z z') F z
/-- x != k -/
theorem eltI_ne {prog : Program} {w : World} {scope : Scope} {x : Str} {k : Int} {j : Nat} {p1 p2 p3 : Pos} (hk : scope.kind = .function) (hl : scope.names.lookup x = some .local) (hd : (x == ("__debug__" : Str)) = false := by decide) :
    EltI prog w scope x (.Compare (.Name x p1) [.NotEq] [.Constant (.int k) j p2] p3) (fun c => c != k) := by
  intro ce B F c t z m hs hn hm
  refine wpAny_Compare1 (wpAny_Name (wpAny_loadName_local (by rw [hs]; exact hk) (show ce.scope.names.lookup x = some .local by rw [hs]; exact hl) hn hm ?_) hd)
  refine wpAny_Constant_int ?_
  exact PyProof.Rows.ne_int ⟨rfl, keeps_tok _ _⟩
def genSB (scope : Scope) (x : Str) : Bool := decide (scope.kind = .function) && !scope.isCoroutine && decide (scope.names.lookup (".0" : Str) = some NameKind.local) && decide (scope.names.lookup x = some .local) && scope.names.all fun y => !decide (y.2 = .cell) && !decide (y.2 = .free)
theorem genS_by {env : Env} {scope : Scope} {x : Str} (h : genSB scope x = true) : GenS env scope x := by
  unfold genSB at h
  simp only [Bool.and_eq_true, Bool.not_eq_true', decide_eq_true_eq, decide_eq_false_iff_not, List.all_eq_true] at h
  obtain ⟨⟨⟨⟨h1, h2⟩, h3⟩, h4⟩, h5⟩ := h
  exact ⟨h1, h2, fun y hy => (h5 y hy).1, h3, h4, fun y hy e => absurd e (h5 y hy).2⟩
/-- the test at place j -/
def trI (pb : Int → Bool) (l : List Int) (j : Nat) : Bool := (l[j]?).elim false pb
theorem trI_some {pb : Int → Bool} {l : List Int} {j : Nat} {b : Int} (h : l[j]? = some b) : trI pb l j = pb b := by show (l[j]?).elim false pb = pb b; rw [h]; rfl
theorem any_trI (l : List Int) (pb : Int → Bool) : (List.range l.length).any (trI pb l) = l.any pb := by
  rw [Bool.eq_iff_iff, List.any_eq_true, List.any_eq_true]
  refine ⟨fun ⟨j, hj, h⟩ => ?_, fun ⟨b, hb, h⟩ => ?_⟩
  · have hl := List.mem_range.mp hj
    exact ⟨l[j], List.getElem_mem hl, by rw [← trI_some (pb := pb) (List.getElem?_eq_getElem hl)]; exact h⟩
  · obtain ⟨j, hl, e⟩ := List.getElem_of_mem hb
    exact ⟨j, List.mem_range.mpr hl, by rw [trI_some (List.getElem?_eq_getElem hl), e]; exact h⟩
theorem all_trI (l : List Int) (pb : Int → Bool) : (List.range l.length).all (trI pb l) = l.all pb := by
  rw [Bool.eq_iff_iff, List.all_eq_true, List.all_eq_true]
  refine ⟨fun h b hb => ?_, fun h j hj => ?_⟩
  · obtain ⟨j, hl, e⟩ := List.getElem_of_mem hb
    have := h j (List.mem_range.mpr hl)
    rwa [trI_some (List.getElem?_eq_getElem hl), e] at this
  · have hl := List.mem_range.mp hj
    rw [trI_some (List.getElem?_eq_getElem hl)]
    exact h _ (List.getElem_mem hl)
variable {X : Cx} {pins : List (Addr × Obj)} {σ : L2.St} {H : Hp} {s : Shared}
/-- the generator g over the ints ns, ready to be walked, in the state z -/
def Ready (X : Cx) (pins : List (Addr × Obj)) (σ : L2.St) (H1 : Hp) (T : List (Addr × Str)) (ns : List Int) (pb : Int → Bool) (g : Addr) (z : Shared) : Prop :=
  ∃ (fp wr : List Addr) (G : Array GenState → Array GenState → Prop) (F : Nat → Value → Prop) (St : Nat → Shared → Prop),
    WalksS X.prog X.w X.A.in1 g fp wr G ns.length F St ∧ St 0 z ∧ TruthOf X.prog X.w X.A.in1 F (trI pb ns) ∧ ∀ z', Moved wr G z z' → ∃ H2, ExtN H1 H2 ∧ Tabs T H2 ∧ Inv X pins σ H2 z'
theorem moved_inv {g' : Array GenState} {d' : Drawn} {t' : Nat} {h' : Heap} (I : Inv X pins σ H s) (k : ∀ b o, s.heap.get? b = some o → h'.get? b = some o) (hg : AllBare g') : Inv X pins σ H { s with heap := h', gens := g', drawn := d', toks := t' } := by
  refine I.step (g' := g') (d' := d') (ch := []) (fun b hb => nomatch hb) (fun b o _ _ _ e n => k b o e) (fun b o _ _ _ e n => ⟨o.slots, k b o e⟩) (fun b o _ e n => n) (fun b o _ e => ⟨o, k b o e⟩) (fun b xs e => e) (fun b o u e => e) (fun b qs e => by rw [e]; exact ⟨#[], by simp⟩)
    (fun m hn => ?_) (fun b u e => (I.hok b u e).stay (fun d v _ q => k d v q) (fun d q => q) fun d xs q => q) hg
  obtain ⟨ob, es, ep, ho, r⟩ := hn
  exact ⟨ob, es, ep, k _ ob ho, r⟩
theorem gen_ints {T : List (Addr × Str)} {c P : Addr} {elt iter : Expr} {x : Str} {px gpos : Pos} {scope : Scope} {pb : Int → Bool} {te : TE} {k : Nat} {Q' : Value → Shared → Prop} {R : Addr → List Int → Hp → Prop}
    (hr : Room k X.A) (TB : TabB X.base X.mg c P) (hcode : X.env.code = .ref c) (hm : (P, X.env.qual ++ "<genexpr>") ∈ T) (hu : ∀ p ∈ T, p.1 = P → p.2 = X.env.qual ++ "<genexpr>") (S : GenS X.env scope x) (hi : PE X iter te) (hel : EltI X.prog X.w scope x elt pb)
    (hs : ∀ v, genFold iter X.env v = pure v) (I : Inv X pins σ H s) (h : te σ H fun v H1 => ∃ a ns, v = .ref a ∧ SqT X.K H1 a (ns.map V.int) ∧ Tabs T H1 ∧ R a ns H1)
    (hQ : ∀ a ns H1 g z, R a ns H1 → Ready X pins σ H1 T ns pb g z → Q' (.ref g) z) : wpAny (model X.prog X.w) X.A (eval (.GeneratorExp elt [⟨.Name x px, iter, [], 0⟩] scope gpos) X.env) Q' X.xe s := by
  refine wpAny_GeneratorExp_walksQ hr.hd S.co (closure_ok S.free) S.cell S.dot S.loc S.kind (by have := hr.dp; omega) (thn (hi.run pins s σ H _ I h) fun xv s1 ⟨v, H1, I1, r1, q1⟩ => ?_) hs
  obtain ⟨a, ns, rfl, hS, hT, q1⟩ := q1
  obtain ⟨its, rv, ht, _⟩ := I1.tuple hS
  cases r1
  have la : a < s1.heap.objs.size := by obtain ⟨o, ho, _⟩ := id ht; exact Heap.lt_size ho
  have hlen : its.toArray.size = ns.length := by have := rv.length; rw [List.length_map] at this; simp only [List.size_toArray]; omega
  have hval : ∀ (i : Nat) (u : Value), its.toArray[i]? = some u → ∃ b t, ns[i]? = some b ∧ u = .int b t := fun i u e => by
    have e' : its[i]? = some u := by simpa using e
    have hl : i < ns.length := by have := (List.getElem?_eq_some_iff.mp e').1; rw [← hlen]; simpa using this
    obtain ⟨u2, e2, r2⟩ := rv.get (i := i) (x := V.int ns[i]) (by rw [List.getElem?_map, List.getElem?_eq_getElem hl]; rfl)
    rw [e'] at e2
    cases e2
    obtain ⟨t, rfl⟩ := r2
    exact ⟨_, t, List.getElem?_eq_getElem hl, rfl⟩
  obtain ⟨ps, hP, htr, hnm⟩ := hT _ hm
  refine wpAny_pyIter_tuple ht ?_
  have hPs : s1.heap.get? P = some { cls := .none, data := .fields ps } := I1.hok P _ hP
  have haP : a ≠ P := fun z => by
    obtain ⟨o, ho, hc, _⟩ := id ht
    rw [z, hPs] at ho
    cases ho
    cases hc
  have hPlt : P < s1.heap.objs.size := Heap.lt_size hPs
  obtain ⟨N, eN⟩ : ∃ N : Nat, N = s1.heap.objs.size := ⟨_, rfl⟩
  obtain ⟨o, eo⟩ : ∃ o : Obj, o = { cls := .type "tuple_iterator", data := .fields #[.ref a, .int 0 0] } := ⟨_, rfl⟩
  rw [← eo]
  have sz2 : (s1.heap.push o).objs.size = N + 1 := by rw [Heap.size_push, ← eN]
  have kp2 : ∀ b u, s1.heap.get? b = some u → (s1.heap.push o).get? b = some u := fun b u e => Heap.get?_push_of_some _ e
  have hit : (s1.heap.push o).IsTupleIter N a 0 := by rw [eN, eo]; exact ⟨_, Heap.get?_push_size _ rfl, rfl, rfl⟩
  have cd : PySem.W.CodeHd (s1.heap.push o) c P := TB.code.keeps fun b u e => kp2 b u (I1.bk b u e)
  have lim2 : (s1.heap.push o).NoLimit := I1.nolimit.push o
  have W : ∀ B : Around, B.handled = none → Walks X.prog X.w B N [N, a] [N] its.toArray.size (fun i u => its.toArray[i]? = some u) (fun i hh => hh.IsTupleIter N a i ∧ hh.IsTuple a its.toArray) := fun B hB => Walks.tuple hB N a (by rw [eN]; exact Nat.ne_of_lt la) its.toArray
  have cont : ∀ (code : Value) (h3 : Heap) (tk : Nat), Heap.ExtBut P (s1.heap.push o) h3 → (s1.heap.push o).objs.size ≤ h3.objs.size →
      (∀ (h' : Heap) (t' : Nat), (∀ b u, b ≠ N → h3.get? b = some u → h'.get? b = some u) → ∃ H3, ExtN H1 H3 ∧ Tabs T H3 ∧ Inv X pins σ H3 { s1 with heap := h', toks := t' }) →
      wpAny (model X.prog X.w) X.A (builtinsFor X.env.globals X.env.builtins) (fun bi z =>
        ∃ Ia fp wr n₀ Pf St₀ pz F, Value.ref N = .ref Ia ∧ (∀ B : Around, B.handled = none → Walks X.prog X.w B Ia fp wr n₀ Pf St₀) ∧ St₀ 0 z.heap ∧ (∀ b ∈ fp, b < z.heap.objs.size) ∧ z.heap.NoLimit ∧ cStatics ∉ wr ∧
          (∀ hz : Heap, (∀ b o, z.heap.get? b = some o → hz.get? b = some o) →
            QuietGen X.prog X.w (genEnv scope (cloFrom X.env.cells scope.names []) z.heap.objs.size code bi X.env) x [] elt (List.range z.heap.objs.size) wr Pf pz F hz) ∧
          (∀ a h₅ tk gs, gs.bare = true → z.heap.objs.size < a → h₅.objs.size = a + 1 → (∀ b o, z.heap.get? b = some o → h₅.get? b = some o) →
            WalksS X.prog X.w X.A.in4 a (a :: z.heap.objs.size :: List.range z.heap.objs.size) (z.heap.objs.size :: wr) (GenOnlyQ z.gens.size) (passing pz n₀ 0).length
              (fun j y => ∃ i, (passing pz n₀ 0)[j]? = some i ∧ F i y) (GenAt X.prog X.w X.A.in4 a z.gens.size z.heap.objs.size (List.range z.heap.objs.size) wr pz n₀ F) →
            GenAt X.prog X.w X.A.in4 a z.gens.size z.heap.objs.size (List.range z.heap.objs.size) wr pz n₀ F 0 { z with gens := z.gens.push gs, toks := tk, heap := h₅ } →
            Q' (.ref a) { z with gens := z.gens.push gs, toks := tk, heap := h₅ })) X.xe { s1 with heap := h3, toks := tk } := by
    intro code h3 tk hx hsz hI
    obtain ⟨bm, ob, e1, e2, e3, e4, e5, e6, e7, e8⟩ := TB.bm
    have hsz' : N + 1 ≤ h3.objs.size := by rw [← sz2]; exact hsz
    have keep3 : ∀ b u, b ≠ P → s1.heap.get? b = some u → h3.get? b = some u := fun b u hb e => hx b u hb (kp2 b u e)
    have hclt : cStatics < N := by rw [eN]; exact let ⟨_, hns, _⟩ := I1.nolimit; hns.lt
    refine wpAny_builtinsFor (m := X.mg) (by rw [I1.ok.glob]; exact ((I1.mod.glob.keeps I1.bk).push o).extBut hx TB.gP) e1 e2 (keep3 _ _ e4 (I1.bk _ _ e5)) e6 e7 e8 ?_
    have itP : N ≠ P := fun z => by rw [eN] at z; exact Nat.ne_of_lt hPlt z.symm
    have hta : h3.IsTuple a its.toArray := by
      obtain ⟨o1, g1, r1⟩ := ht
      exact ⟨o1, keep3 a o1 haP g1, r1⟩
    obtain ⟨_, _, _, I3⟩ := hI h3 tk fun b u _ e => e
    refine ⟨N, [N, a], [N], its.toArray.size, _, _, (fun _ => true), (fun i y => ∃ b, ns[i]? = some b ∧ y = .bool (pb b)), rfl, W, ⟨hit.at fun u e => hx N u itP e, hta⟩, fun b hb => ?_, I3.nolimit, fun z => ?_, fun hz hhz => ?_, fun g h5 tk5 gs hgb hag hsz5 hk5 W5 hat => ?_⟩
    · show b < h3.objs.size
      rcases List.mem_cons.mp hb with z | hb
      · rw [z]; exact Nat.lt_of_lt_of_le (Nat.lt_succ_self N) hsz'
      · rw [List.mem_singleton.mp hb]; exact Nat.lt_of_lt_of_le (Nat.lt_succ_of_lt (eN ▸ la)) hsz'
    · rw [List.mem_singleton.mp z] at hclt
      exact Nat.lt_irrefl _ hclt
    · refine ⟨fun B F' i v s₂ m₂ hB hPv hn hm hk => ?_, fun B F' i v s₂ m₂ hB hPv hp hn hm hk => ?_⟩
      · simp only [List.forIn_nil]
        exact wpAny_pure ⟨rfl, keeps_refl _⟩
      · obtain ⟨b, u, hb, rfl⟩ := hval i v hPv
        exact wpAny_mono (hel _ B F' b u s₂ m₂ rfl hn hm) (fun y s3 r => ⟨⟨b, hb, r.1⟩, r.2⟩) fun _ _ e => e
    · simp only [GxR.passing_true, List.length_range, hlen] at W5
      refine hQ a ns H1 g _ q1 ⟨_, _, _, _, _, W5.in4_1, by rw [hlen] at hat; exact hat, fun j y sj Qj Ej hy hQj => ?_, fun z' hmv => ?_⟩
      · obtain ⟨i, hij, b, hb, rfl⟩ := hy
        obtain ⟨hj, ej⟩ := List.getElem?_eq_some_iff.mp hij
        rw [List.getElem_range] at ej
        subst ej
        have hQ2 : Qj (trI pb ns j) sj := hQj
        rw [trI_some hb] at hQ2
        exact wpAny_truthy_bool hQ2
      · obtain ⟨H3, eN3, hT3, I4⟩ := hI z'.heap z'.toks fun b u hb e => hmv.heap b u (fun z => by
          rcases List.mem_cons.mp z with z | z
          · rw [z] at e
            exact Nat.lt_irrefl _ (Heap.lt_size e)
          · exact hb (List.mem_singleton.mp z)) (hk5 b u e)
        have J := moved_inv (g' := z'.gens) (d' := z'.drawn) (t' := z'.toks) (h' := z'.heap) I4 (fun b u e => e) (AllBare.movedS (I1.bare.push hgb) hmv)
        have J2 := sh_eta { s1 with heap := h3, toks := tk } z' hmv.os
        rw [← J2]
        exact ⟨H3, eN3, hT3, J⟩
  subst eN
  refine ⟨lim2, ?_⟩
  have hP2 : (s1.heap.push o).get? P = some { cls := .none, data := .fields ps } := kp2 _ _ hPs
  have nN : ∀ b u, s1.heap.get? b = some u → b ≠ s1.heap.objs.size := fun b u e => Nat.ne_of_lt (Heap.lt_size e)
  cases hf : codeAmong gpos ps.toList with
  | none =>
    refine wpAny_genexprCodeX hcode (cd.code hP2 htr) (cd.tab hP2) hf fun c' h' tk hx hge hlt hco' hrec htab' _ => ?_
    obtain ⟨c2, oc, vs, t, e2, hoc, hd, hv⟩ := hrec
    cases e2
    have hge1 : s1.heap.objs.size + 1 ≤ c' := by rw [← sz2]; exact hge
    have hge' : s1.heap.objs.size ≤ c' := Nat.le_of_succ_le hge1
    have nC : H1 c' = none := I1.hok.fresh hge'
    have hE : ExtN H1 (upd (upd H1 P (.tbl (ps ++ #[rawInt gpos.line, rawInt gpos.col, .ref c']))) c' (CodeO c' (X.env.qual ++ "<genexpr>"))) := fun b u e n => by
      rw [upd_ne (ne_of_none e nC), upd_ne (fun z => n ps (Option.some.inj (e.symm.trans (by rw [z]; exact hP))))]
      exact e
    have eL : (ps ++ #[rawInt gpos.line, rawInt gpos.col, .ref c']).toList = ps.toList ++ [rawInt gpos.line, rawInt gpos.col, .ref c'] := by simp
    refine cont _ h' tk hx (Nat.le_trans hge (Nat.le_of_lt hlt)) fun h'' t'' k'' => ⟨_, hE, fun p hp => ?_, inv_table (t' := t'') (more := #[rawInt gpos.line, rawInt gpos.col, .ref c']) (h' := h'') I1 hP (fun b u hb e => k'' b u (nN b u e) (hx b u hb (kp2 b u e))) (k'' P _ (nN _ _ hPs) htab'.2) hge' ⟨oc, vs, t, k'' c' _ (Nat.ne_of_gt hge1) hoc, hd, hv⟩⟩
    by_cases hb : p.1 = P
    · rw [hu p hp hb, hb]
      refine ⟨_, by rw [upd_ne (ne_of_none hP nC), upd_same], by rw [eL]; exact PySem.TriplesOk_snoc _ _ _ _ htr, fun p' cv hcv => ?_⟩
      rw [eL] at hcv
      rcases among_app _ htr hcv with z | z
      · obtain ⟨c0, e1, e2⟩ := hnm p' cv z
        exact ⟨c0, e1, hE _ _ e2 codeO_ne⟩
      · exact ⟨c', z, upd_same⟩
    · obtain ⟨ps', a1, a2, a3⟩ := hT p hp
      refine ⟨ps', by rw [upd_ne (ne_of_none a1 nC), upd_ne hb]; exact a1, a2, fun p' cv hcv => ?_⟩
      obtain ⟨c0, e1, e2⟩ := a3 p' cv hcv
      exact ⟨c0, e1, hE _ _ e2 codeO_ne⟩
  | some cv =>
    refine wpAny_genexprCode_hit hcode (cd.code hP2 htr) hf ?_
    exact cont cv (s1.heap.push o) s1.toks (Heap.ExtBut.refl _ _) (Nat.le_refl _) fun h'' t'' k'' => ⟨H1, ExtN.refl H1, hT, I1.kept fun b u e => k'' b u (nN b u e) (kp2 b u e)⟩
/-- any(test for x in e), e a tuple of ints -/
def tAnyI (K : PySem.W.Frag) (T : List (Addr × Str)) (pb : Int → Bool) (te : TE) : TE := fun σ H Q => te σ H fun v H1 => ∃ (a : Addr) (ns : List Int), v = .ref a ∧ SqT K H1 a (ns.map V.int) ∧ Tabs T H1 ∧ ∀ H2, ExtN H1 H2 → Tabs T H2 → Q (.bl (ns.any pb)) H2
theorem pe_anyI {T : List (Addr × Str)} {c P : Addr} {elt iter : Expr} {x : Str} {px p pos gpos : Pos} {scope : Scope} {pb : Int → Bool} {te : TE} {k : Nat} (hr : Room k X.A) (hg : Gl X "any") (hma : X.mg "any" = none) (TB : TabB X.base X.mg c P) (hcode : X.env.code = .ref c)
    (hm : (P, X.env.qual ++ "<genexpr>") ∈ T) (hu : ∀ p ∈ T, p.1 = P → p.2 = X.env.qual ++ "<genexpr>") (S : GenS X.env scope x) (hi : PE X iter te) (hel : EltI X.prog X.w scope x elt pb) (hs : ∀ v, genFold iter X.env v = pure v)
    (he : starEach [.GeneratorExp elt [⟨.Name x px, iter, [], 0⟩] scope gpos] X.env = (false, eval (.GeneratorExp elt [⟨.Name x px, iter, [], 0⟩] scope gpos) X.env) :: starEach [] X.env := by rfl) :
    PE X (.Call (.Name "any" p) [.GeneratorExp elt [⟨.Name x px, iter, [], 0⟩] scope gpos] [] pos) (tAnyI X.K T pb te) := by
  refine ⟨fun pins s σ H Q I h => wpAny_Call_Name_kw (ld_blt I hg hma boot_any (PyProof.Rows.callWith_builtin1 ?_ he (by rfl)))⟩
  rw [he]
  show wpAny _ _ (spliced ((false, eval (.GeneratorExp elt [⟨.Name x px, iter, [], 0⟩] scope gpos) X.env) :: backTo pos (starEach [] X.env))) _ _ s
  refine Calls.spliced_cons (gen_ints (R := fun a ns H1 => ∀ H2, ExtN H1 H2 → Tabs T H2 → Q (.bl (ns.any pb)) H2) hr TB hcode hm hu S hi hel hs I h fun a ns H1 g z hR hG => Calls.spliced_nil ?_)
  obtain ⟨fp, wr, G, F, St, W, hst, htr, hI⟩ := hG
  refine call_any_walkS (W.self 0 _ _ _ hst ⟨g, fp, wr, G, _, F, St, _, rfl, W, hst, htr, fun s' hmv => ?_⟩)
  obtain ⟨H2, hE, hT, J⟩ := hI s' hmv
  exact ⟨.bl _, H2, J, rfl, by rw [any_trI ns pb]; exact hR H2 hE hT⟩
theorem w_anyI {K : PySem.W.Frag} {T : List (Addr × Str)} {pb : Int → Bool} {te : TE} {Q : VK} (h : te σ H fun v H1 => ∃ (a : Addr) (ns : List Int), v = .ref a ∧ SqT K H1 a (ns.map V.int) ∧ Tabs T H1 ∧ ∀ H2, ExtN H1 H2 → Tabs T H2 → Q (.bl (ns.any pb)) H2) : tAnyI K T pb te σ H Q := h
end GnI
end

section
-- part Fno
set_option Elab.async false
set_option linter.all false
set_option maxRecDepth 100000
set_option maxHeartbeats 2000000
/-! Fno: an instance without == of its own is not equal to a text -/
namespace NoS
open PySem PySem.Spec PyProof.Rows PySem.SeqAt L2
section
variable {M : Model} {prog : Program} {w : World} {A : Around} {E : Value → Shared → Prop} {s : Shared} {K : PySem.W.Frag} {x C : Addr} {ox : Obj} {od : Option Obj} {z : Str} {t : Tok}
theorem same_str {R : Bool → Shared → Prop} (h : R false s) : wpAny M A (isSame (.ref x) (.str z t)) R E s := wpAny_of_eq (rfl : isSame (.ref x) (.str z t) = pure false) h
theorem entryE {Q : Fin → Shared → Prop} (hq : Q (.done (.ret .notImplemented)) s) : wpAny M A (Builtin.«object.__eq__» ⟨[.ref x, .str z t], []⟩) Q E s := by
  unfold Builtin.«object.__eq__»
  repeat (first | with_reducible refine same_str ?_ | wp_step)
  exact hq
theorem callE {Q : Value → Shared → Prop} (X : K.In s.heap) (I : PySem.W.InstAt s.heap x ox C od) (hm : PySem.W.mroIn K C (.type "object") = some true) (hq : Q .notImplemented s) : wpAny (model prog w) A (call (.builtin "object.__eq__") [.ref x, .str z t]) Q E s :=
  wpAny_call (codeAny_call_builtin F.cmp_object.eq.plain F.cmpEntry_eq (PySem.W.check_slot F.cmpKind_eq F.cmpSplit_eq (I.type.andThen (PySem.W.looks_mroIn X hm)) (F.cmpArgs_eq _ _) (entryE hq)))
theorem ifBoundN {args : List Value} {Q : Option Value → Shared → Prop} (X : K.In s.heap) (I : PySem.W.InstAt s.heap x ox C od) (hs : PySem.W.findIn K (.ref C) "__ne__" = some (some (.builtin "object.__ne__")))
    (h : wpAny M A (call (.builtin "object.__ne__") (.ref x :: args)) (fun v => Q (some v)) E s) : wpAny M A (callSpecialIfBound? (.ref x) "__ne__" args) Q E s := by
  simp only [callSpecialIfBound?, bindSpecialIfBound?]
  refine wpAny_holding (wpAny_bind (wpAny_bind (wpAny_bind (I.type.here ((PySem.W.looks_findIn X hs).here (wpAny_bind (wpAny_askSetting (wpAny_ite ?_))))))))
  have fin : wpAny M A (call (.builtin "object.__ne__") ([.ref x] ++ args) >>= fun v => pure (some v)) Q E s := wpAny_bind (wpAny_mono h (fun v s' h' => wpAny_pure h') fun _ _ h' => h')
  split
  · exact wpAny_bind (wpAny_of_eq (F.cmp_object.ne.bind _) (wpAny_pure (by exact fin)))
  · exact wpAny_tryCatch (wpAny_bind (wpAny_of_eq (F.cmp_object.ne.bind _) (wpAny_pure (by exact fin))))
theorem entryN {Q : Fin → Shared → Prop} (hu : A.units < cLine) (X : K.In s.heap) (I : PySem.W.InstAt s.heap x ox C od) (hm : PySem.W.mroIn K C (.type "object") = some true) (hs : PySem.W.findIn K (.ref C) "__eq__" = some (some (.builtin "object.__eq__")))
    (hq : Q (.done (.ret .notImplemented)) s) : wpAny (model prog w) A (Builtin.«object.__ne__» ⟨[.ref x, .str z t], []⟩) Q E s := by
  unfold Builtin.«object.__ne__»
  repeat (first | with_reducible refine wpAny_cRoomFor hu ?_ | with_reducible refine HN.ifBound_objEq X I hs (callE X I hm ?_) | wp_step)
  exact hq
theorem callN {Q : Value → Shared → Prop} (hu : A.units + 1 < cLine) (X : K.In s.heap) (I : PySem.W.InstAt s.heap x ox C od) (hm : PySem.W.mroIn K C (.type "object") = some true) (hs : PySem.W.findIn K (.ref C) "__eq__" = some (some (.builtin "object.__eq__"))) (hq : Q .notImplemented s) :
    wpAny (model prog w) A (call (.builtin "object.__ne__") [.ref x, .str z t]) Q E s :=
  wpAny_call (codeAny_call_builtin F.cmp_object.ne.plain F.cmpEntry_ne (PySem.W.check_slot F.cmpKind_ne F.cmpSplit_ne (I.type.andThen (PySem.W.looks_mroIn X hm)) (F.cmpArgs_ne _ _) (entryN (A := A.in1) hu X I hm hs hq)))
theorem subS : PySem.W.subIn K (.type "str") (.ref C) = some false := by
  have e : fastBuiltinMro "str" = some [.type "str", .type "object"] := by decide +kernel
  show (fastBuiltinMro "str").map (·.contains (.ref C)) = some false
  rw [e]
  first
    | rfl
    | simp
theorem strNe {Q : Fin → Shared → Prop} {dx : Addr} (I : s.heap.get? x = some (PySem.W.instObj C dx)) (hq : Q (.done (.ret .notImplemented)) s) : wpAny (model prog w) A (Builtin.«str.__ne__» ⟨[.str z t, .ref x], []⟩) Q E s := by
  obtain ⟨hp, g, d, tk, os⟩ := s
  wp_walk
  exact hq
theorem rcNe {dx : Addr} {Q : Value → Shared → Prop} (hu : A.units + 1 < cLine) (X : K.In s.heap) (I : PySem.W.InstAt s.heap x (PySem.W.instObj C dx) C od) (hm : PySem.W.mroIn K C (.type "object") = some true) (he : PySem.W.findIn K (.ref C) "__eq__" = some (some (.builtin "object.__eq__")))
    (hn : PySem.W.findIn K (.ref C) "__ne__" = some (some (.builtin "object.__ne__"))) (h : Q (.bool true) s) : wpAny (model prog w) A (richCompare .NotEq (.ref x) (.str z t)) Q E s := by
  have hu0 : A.units < cLine := Nat.lt_of_succ_lt hu
  have one : wpAny (model prog w) A (tryCompare (.ref x) "__ne__" (.str z t)) (fun r s' => r = none ∧ s' = s) E s := by
    unfold tryCompare
    exact wpAny_bind (ifBoundN X I hn (callN hu X I hm he (wpAny_pure ⟨rfl, rfl⟩)))
  have hT : s.TypeIs (.str z t) "str" := typeIs_str s z t
  have two : wpAny (model prog w) A (tryCompare (.str z t) "__ne__" (.ref x)) (fun r s' => r = none ∧ s' = s) E s :=
    wpAny_tryCompare_declines hT F.slot_str_ne_refl (wpAny_call (codeAny_call_builtin F.slot_str_ne_refl.plain F.entry_str_ne (F.slot_str_ne_refl.check _ _ _ _ _ _ _ _ hT (F.args_str_ne_2 _ _) (strNe I.at_ ⟨rfl, rfl, rfl⟩))))
  simp only [richCompare, cmpInfo_NotEq, oneThing_ref]
  refine wpAny_holding (wpAny_bind (wpAny_cRoomFor hu0 ?_))
  refine wpAny_bind (I.type.here ?_)
  refine wpAny_bind (wpAny_typeOf hT ?_)
  split
  · refine wpAny_bind ((PySem.W.looks_subIn X subS).here ?_)
    simp only [Bool.false_eq_true, if_false, Bool.not_false, if_true]
    refine wpAny_bind (m := tryCompare (.ref x) _ (.str z t)) (wpAny_mono one (fun r s1 q => ?_) fun _ _ e => e)
    obtain ⟨q1, q2⟩ := q
    subst q1 q2
    refine wpAny_bind (m := tryCompare (.str z t) _ (.ref x)) (wpAny_mono two (fun r s2 q => ?_) fun _ _ e => e)
    obtain ⟨q1, q2⟩ := q
    subst q1 q2
    exact wpAny_bind (wpAny_rule (wpAny_bind (wpAny_of_eq (rfl : isSame (.ref x) (.str z t) = pure false) (wpAny_pure h))))
  · rename_i q
    exact absurd (by simp) q
end
end NoS
namespace L2
open PySem PySem.Spec PyProof.Rows
/-- the class C has no == of its own -/
structure NoEq (K : PySem.W.Frag) (C : Addr) : Prop where
  mro : PySem.W.mroIn K C (.type "object") = some true
  eq : PySem.W.findIn K (.ref C) "__eq__" = some (some (.builtin "object.__eq__"))
  ne : PySem.W.findIn K (.ref C) "__ne__" = some (some (.builtin "object.__ne__"))
/-- x != 't', x a text or an instance -/
def rNeO (K : PySem.W.Frag) : R2 := fun x y H Q => ∃ z, y = .str z ∧ ((∃ a, x = .str a ∧ Q (.bl (!decide (V.str a = V.str z))) H) ∨ ∃ a C dx fs, x = .ref a ∧ H a = some (.ins C dx fs) ∧ NoEq K C ∧ Q (.bl true) H)
theorem op_neO {X : Cx} (hu : X.A.units + 64 < cLine) : OpR X (compareOp .NotEq) (rNeO X.K) := by
  intro pins s σ H x y v u Q I rx ry h
  obtain ⟨z, rfl, h⟩ := h
  rcases h with ⟨a, rfl, q⟩ | ⟨a, C, dx, fs, rfl, ha, N, q⟩
  · exact op_ne pins s σ H _ _ v u Q I rx ry ⟨rfl, q⟩
  · cases rx
    obtain ⟨t, rfl⟩ := ry
    obtain ⟨mA, O, _⟩ := ins_get I.hok ha
    obtain ⟨od, J, _⟩ := O.look
    exact NoS.rcNe (by omega) I.kIn J N.mro N.eq N.ne ⟨.bl true, H, I, rfl, q⟩
theorem w_neOs {K : PySem.W.Frag} {a b : Str} {H : Hp} {Q : VK} (q : Q (.bl (!decide (V.str a = V.str b))) H) : rNeO K (.str a) (.str b) H Q := ⟨b, rfl, .inl ⟨a, rfl, q⟩⟩
theorem w_neOi {K : PySem.W.Frag} {a C dx : Addr} {fs : List (Str × V)} {b : Str} {H : Hp} {Q : VK} (h : H a = some (.ins C dx fs)) (n : NoEq K C) (q : Q (.bl true) H) : rNeO K (.ref a) (.str b) H Q := ⟨b, rfl, .inr ⟨a, C, dx, fs, rfl, h, n, q⟩⟩
end L2
end

section
-- part K05M
set_option Elab.async false
set_option linter.all false
set_option maxRecDepth 100000
set_option maxHeartbeats 2000000
/-! K05M: rows as bytes; core Lean -/
namespace M5
open PySem PySem.Spec PyProof.Rows L2 Fw
abbrev HI : Int := 9223372036854775807
inductive RV where
  | non
  | txt (l : List Nat)
  | num (n : Int)
deriving DecidableEq
def alphabet : List Nat := [10, 32, 33, 34, 35, 36, 38, 39, 40, 41, 42, 43, 44, 45, 46, 47, 48, 49, 50, 51, 52, 53, 54, 55, 56, 57, 58, 59, 60, 61, 62, 63, 64, 65, 66, 67, 68, 69, 70, 71, 72, 73, 74, 75, 76, 77, 78, 79, 80, 81, 82, 83, 84, 85, 86, 87, 88, 89, 90, 91, 92, 93, 94, 95, 96, 97, 98, 99, 100, 101, 102, 103, 104, 105, 106, 107, 108, 109, 110, 111, 112, 113, 114, 115, 116, 117, 118, 119, 120, 121, 122, 123, 124, 125, 126]
def sgn (c : Nat) : Nat := alphabet.findIdx (· == c)
theorem al_len : alphabet.length = 95 := by decide +kernel
theorem sgn_ok {c : Nat} (h : c ∈ alphabet) : sgn c < 95 ∧ alphabet[sgn c]? = some c := by
  have h2 : alphabet.all (fun c => decide (sgn c < 95 ∧ alphabet[sgn c]? = some c)) = true := by decide +kernel
  exact of_decide_eq_true (List.all_eq_true.mp h2 c h)
theorem sgn_at {i : Nat} (h : i < 95) : ∃ c ∈ alphabet, alphabet[i]? = some c ∧ sgn c = i := by
  have h2 : ∀ i < 95, (match alphabet[i]? with | some c => decide (c ∈ alphabet ∧ sgn c = i) | none => false) = true := by decide +kernel
  have h3 := h2 i h
  cases e : alphabet[i]? with
  | none => rw [e] at h3; cases h3
  | some c => rw [e] at h3; exact ⟨c, (of_decide_eq_true h3).1, rfl, (of_decide_eq_true h3).2⟩
theorem sgn_lt {c d : Nat} (hc : c ∈ alphabet) (hd : d ∈ alphabet) : sgn c < sgn d ↔ c < d := by
  have h2 : alphabet.all (fun c => alphabet.all fun d => decide (sgn c < sgn d ↔ c < d)) = true := by decide +kernel
  exact of_decide_eq_true (List.all_eq_true.mp (List.all_eq_true.mp h2 c hc) d hd)
theorem sgn_inj {c d : Nat} (hc : c ∈ alphabet) (hd : d ∈ alphabet) (h : sgn c = sgn d) : c = d := by
  have h1 := sgn_lt hc hd
  have h2 := sgn_lt hd hc
  omega
/-! bytes -/
def Byt (d : List Int) : Prop := ∀ b ∈ d, 0 ≤ b ∧ b < 256
def fixedL (n : Int) : Nat → List Int
  | 0 => []
  | k + 1 => fixedL (n / 256) k ++ [n % 256]
def fromL (d : List Int) : Int := d.foldl (fun a b => a * 256 + b) 0
theorem fromL_snoc (d : List Int) (b : Int) : fromL (d ++ [b]) = fromL d * 256 + b := by simp [fromL]
theorem fixed_len (n : Int) (k : Nat) : (fixedL n k).length = k := by
  induction k generalizing n with
  | zero => rfl
  | succ k ih => rw [fixedL, List.length_append, ih]; rfl
theorem fixed_byt (n : Int) (k : Nat) : Byt (fixedL n k) := by
  induction k generalizing n with
  | zero => intro b hb; cases hb
  | succ k ih =>
    intro b hb
    rcases List.mem_append.mp hb with hb | hb
    · exact ih _ b hb
    · rw [List.mem_singleton.mp hb]; omega
theorem from_fixed (k : Nat) : ∀ n : Int, 0 ≤ n → n < 256 ^ k → fromL (fixedL n k) = n := by
  induction k with
  | zero => intro n h0 h1; simp at h1; have : n = 0 := by omega
            subst this; rfl
  | succ k ih =>
    intro n h0 h1
    rw [fixedL, fromL_snoc, ih (n / 256) (by omega) (by rw [Int.pow_succ] at h1; omega)]
    omega
theorem fixed_from : ∀ d : List Int, Byt d → fixedL (fromL d) d.length = d := by
  intro d
  rw [← List.reverse_reverse d]
  generalize d.reverse = e
  induction e with
  | nil => intro _; rfl
  | cons b e ih =>
    intro h
    rw [List.reverse_cons] at h ⊢
    have hb := h b (by simp)
    have h2 : Byt e.reverse := fun c hc => h c (List.mem_append_left _ hc)
    rw [fromL_snoc, List.length_append, List.length_singleton, fixedL]
    have e1 : (fromL e.reverse * 256 + b) / 256 = fromL e.reverse := by omega
    have e2 : (fromL e.reverse * 256 + b) % 256 = b := by omega
    rw [e1, e2, ih h2]
theorem from_bound : ∀ d : List Int, Byt d → 0 ≤ fromL d ∧ fromL d < 256 ^ d.length := by
  intro d
  rw [← List.reverse_reverse d]
  generalize d.reverse = e
  induction e with
  | nil => intro _; exact ⟨by decide, by decide⟩
  | cons b e ih =>
    intro h
    rw [List.reverse_cons] at h ⊢
    have hb := h b (by simp)
    have h2 : Byt e.reverse := fun c hc => h c (List.mem_append_left _ hc)
    obtain ⟨i1, i2⟩ := ih h2
    rw [fromL_snoc, List.length_append, List.length_singleton, Int.pow_succ]
    omega
/-! two lists that part at a place -/
def Div (a b : List Int) (lt : Bool) : Prop := ∃ p x y a' b', a = p ++ x :: a' ∧ b = p ++ y :: b' ∧ x ≠ y ∧ lt = decide (x < y)
theorem Div.app {a b : List Int} {lt : Bool} (h : Div a b lt) (u v : List Int) : Div (a ++ u) (b ++ v) lt := by
  obtain ⟨p, x, y, a', b', rfl, rfl, n, l⟩ := h
  exact ⟨p, x, y, a' ++ u, b' ++ v, by simp, by simp, n, l⟩
theorem Div.pre {a b : List Int} {lt : Bool} (h : Div a b lt) (u : List Int) : Div (u ++ a) (u ++ b) lt := by
  obtain ⟨p, x, y, a', b', rfl, rfl, n, l⟩ := h
  exact ⟨u ++ p, x, y, a', b', by simp, by simp, n, l⟩
theorem Div.ne {a b : List Int} {lt : Bool} (h : Div a b lt) : a ≠ b := by
  obtain ⟨p, x, y, a', b', rfl, rfl, n, l⟩ := h
  intro e
  exact n (List.cons.inj (List.append_cancel_left e)).1
theorem Div.nopre {a b : List Int} {lt : Bool} (h : Div a b lt) : b.take a.length ≠ a := by
  obtain ⟨p, x, y, a', b', rfl, rfl, n, l⟩ := h
  intro e
  rw [List.take_append, List.take_of_length_le (by simp)] at e
  have e2 := List.append_cancel_left e
  have : (p ++ x :: a').length - p.length = a'.length + 1 := by simp
  rw [this, List.take_succ_cons] at e2
  exact n (List.cons.inj e2).1.symm
theorem lex_app (p a b : List Int) : HT.lexLt (p ++ a) (p ++ b) = HT.lexLt a b := by
  induction p with
  | nil => rfl
  | cons x p ih =>
    rw [List.cons_append, List.cons_append]
    simp [HT.lexLt, ih]
theorem Div.lex {a b : List Int} {lt : Bool} (h : Div a b lt) : HT.lexLt a b = lt := by
  obtain ⟨p, x, y, a', b', rfl, rfl, n, l⟩ := h
  rw [lex_app, l]
  simp [HT.lexLt, n]
theorem lex_same (a : List Int) : HT.lexLt a a = false := by
  induction a with
  | nil => rfl
  | cons x a ih => simp [HT.lexLt, ih]
theorem fixed_div (k : Nat) : ∀ n m : Int, 0 ≤ n → n < 256 ^ k → 0 ≤ m → m < 256 ^ k → n ≠ m → Div (fixedL n k) (fixedL m k) (decide (n < m)) := by
  induction k with
  | zero => intro n m h0 h1 h2 h3 hn; simp at h1 h3; omega
  | succ k ih =>
    intro n m h0 h1 h2 h3 hn
    rw [Int.pow_succ] at h1 h3
    rw [fixedL, fixedL]
    by_cases c : n / 256 = m / 256
    · refine ⟨fixedL (n / 256) k, n % 256, m % 256, [], [], rfl, by rw [c], by omega, ?_⟩
      rw [decide_eq_decide]
      omega
    · have := ih (n / 256) (m / 256) (by omega) (by omega) (by omega) (by omega) c
      have e : decide (n < m) = decide (n / 256 < m / 256) := by rw [decide_eq_decide]; omega
      rw [e]
      exact this.app _ _
/-! keys -/
def okV : RV → Prop
  | .non => True
  | .txt l => ∀ c ∈ l, c ∈ alphabet
  | .num n => -HI ≤ n ∧ n ≤ HI
def sg (l : List Nat) : List Int := l.map fun c => ((sgn c + 2 : Nat) : Int)
def keyV : RV → List Int
  | .non => [1]
  | .txt l => 3 :: (sg l ++ [1])
  | .num n => 2 :: fixedL (n + HI) 8
def keyR (r : List RV) : List Int := r.flatMap keyV
/-- as ranks compare -/
def vlt : RV → RV → Bool
  | .non, .non => false
  | .non, _ => true
  | .num _, .non => false
  | .num n, .num m => decide (n < m)
  | .num _, .txt _ => true
  | .txt _, .non => false
  | .txt _, .num _ => false
  | .txt l, .txt m => decide (l < m)
theorem sg_div : ∀ l m : List Nat, (∀ c ∈ l, c ∈ alphabet) → (∀ c ∈ m, c ∈ alphabet) → l ≠ m → Div (sg l ++ [1]) (sg m ++ [1]) (decide (l < m))
  | [], [], _, _, h => absurd rfl h
  | [], d :: m, _, _, _ => ⟨[], 1, ((sgn d + 2 : Nat) : Int), [], sg m ++ [1], rfl, rfl, by omega, by
      have e1 : decide ((1 : Int) < ((sgn d + 2 : Nat) : Int)) = true := decide_eq_true (by omega)
      have e2 : decide (([] : List Nat) < d :: m) = true := by simp
      rw [e1, e2]⟩
  | c :: l, [], _, _, _ => ⟨[], ((sgn c + 2 : Nat) : Int), 1, sg l ++ [1], [], rfl, rfl, by omega, by
      have e1 : decide (((sgn c + 2 : Nat) : Int) < 1) = false := decide_eq_false (by omega)
      have e2 : decide (c :: l < ([] : List Nat)) = false := by simp
      rw [e1, e2]⟩
  | c :: l, d :: m, hl, hm, h => by
    have hc := hl c List.mem_cons_self
    have hd := hm d List.mem_cons_self
    by_cases e : c = d
    · subst e
      have ih := sg_div l m (fun x hx => hl x (List.mem_cons_of_mem _ hx)) (fun x hx => hm x (List.mem_cons_of_mem _ hx)) (fun q => h (by rw [q]))
      have e2 : decide (c :: l < c :: m) = decide (l < m) := by
        rw [decide_eq_decide, List.cons_lt_cons_iff]
        constructor
        · rintro (z | z)
          · omega
          · exact z.2
        · exact fun z => .inr ⟨rfl, z⟩
      rw [e2]
      exact ih.pre [((sgn c + 2 : Nat) : Int)]
    · refine ⟨[], ((sgn c + 2 : Nat) : Int), ((sgn d + 2 : Nat) : Int), sg l ++ [1], sg m ++ [1], rfl, rfl, fun q => e (sgn_inj hc hd (by omega)), ?_⟩
      rw [decide_eq_decide, List.cons_lt_cons_iff]
      have := sgn_lt hc hd
      constructor
      · rintro (z | z)
        · have := this.mpr z; omega
        · exact absurd z.1 e
      · intro z
        exact .inl (this.mp (by omega))
theorem key_div : ∀ v w : RV, okV v → okV w → v ≠ w → Div (keyV v) (keyV w) (vlt v w)
  | .non, .non, _, _, h => absurd rfl h
  | .non, .txt l, _, _, _ => ⟨[], 1, 3, [], _, rfl, rfl, by decide, rfl⟩
  | .non, .num n, _, _, _ => ⟨[], 1, 2, [], _, rfl, rfl, by decide, rfl⟩
  | .txt l, .non, _, _, _ => ⟨[], 3, 1, _, [], rfl, rfl, by decide, rfl⟩
  | .num n, .non, _, _, _ => ⟨[], 2, 1, _, [], rfl, rfl, by decide, rfl⟩
  | .txt l, .num n, _, _, _ => ⟨[], 3, 2, _, _, rfl, rfl, by decide, rfl⟩
  | .num n, .txt l, _, _, _ => ⟨[], 2, 3, _, _, rfl, rfl, by decide, rfl⟩
  | .txt l, .txt m, hl, hm, h => (sg_div l m hl hm (fun e => h (by rw [e]))).pre [3]
  | .num n, .num m, hn, hm, h => by
    have hn' : -HI ≤ n ∧ n ≤ HI := hn
    have hm' : -HI ≤ m ∧ m ≤ HI := hm
    have hne : n + HI ≠ m + HI := fun e => h (by rw [show n = m by omega])
    have := fixed_div 8 (n + HI) (m + HI) (by omega) (Int.lt_of_le_of_lt (by omega : n + HI ≤ 2 * HI) (by decide)) (by omega) (Int.lt_of_le_of_lt (by omega : m + HI ≤ 2 * HI) (by decide)) hne
    have e : decide (n + HI < m + HI) = decide (n < m) := by rw [decide_eq_decide]; omega
    rw [e] at this
    exact this.pre [2]
/-- rows of as many values -/
def rlt : List RV → List RV → Bool
  | v :: r, w :: s => if v = w then rlt r s else vlt v w
  | [], _ :: _ => true
  | _, [] => false
theorem row_div : ∀ r s : List RV, r.length = s.length → (∀ v ∈ r, okV v) → (∀ v ∈ s, okV v) → r ≠ s → Div (keyR r) (keyR s) (rlt r s)
  | [], [], _, _, _, h => absurd rfl h
  | v :: r, w :: s, hl, hr, hs, h => by
    show Div (keyV v ++ keyR r) (keyV w ++ keyR s) _
    by_cases e : v = w
    · subst e
      rw [rlt, if_pos rfl]
      exact (row_div r s (by simpa using hl) (fun x hx => hr x (List.mem_cons_of_mem _ hx)) (fun x hx => hs x (List.mem_cons_of_mem _ hx)) (fun q => h (by rw [q]))).pre _
    · rw [rlt, if_neg e]
      exact (key_div v w (hr v List.mem_cons_self) (hs w List.mem_cons_self) e).app _ _
theorem rlt_same (r : List RV) : rlt r r = false := by
  induction r with
  | nil => rfl
  | cons v r ih => rw [rlt, if_pos rfl, ih]
theorem row_lex {r s : List RV} (hl : r.length = s.length) (hr : ∀ v ∈ r, okV v) (hs : ∀ v ∈ s, okV v) : HT.lexLt (keyR r) (keyR s) = rlt r s := by
  by_cases e : r = s
  · subst e
    rw [lex_same, rlt_same]
  · exact (row_div r s hl hr hs e).lex
end M5
end

section
-- part K05N
set_option Elab.async false
set_option linter.all false
set_option maxRecDepth 100000
set_option maxHeartbeats 2000000
/-! K05N: reading back; core Lean -/
namespace M5
open PySem PySem.Spec PyProof.Rows L2 Fw
/-- one sign's number read; none: no such sign -/
def chr (b : Int) : Option Nat := if 0 ≤ b ∧ b < 95 then alphabet[b.toNat]? else none
theorem chr_sgn {c : Nat} (h : c ∈ alphabet) : chr (sgn c : Int) = some c := by
  have h2 := sgn_ok h
  rw [chr, if_pos (by omega)]
  exact h2.2
theorem chr_ok {b : Int} {c : Nat} (h : chr b = some c) : c ∈ alphabet ∧ (sgn c : Int) = b := by
  rw [chr] at h
  split at h
  · rename_i h1
    obtain ⟨d, hd, e, s⟩ := sgn_at (i := b.toNat) (by omega)
    rw [e] at h
    cases h
    exact ⟨hd, by omega⟩
  · cases h
theorem chr_none {b : Int} (h : chr b = none) : ¬ (0 ≤ b ∧ b < 95) := fun h1 => by
  rw [chr, if_pos h1] at h
  obtain ⟨d, hd, e, s⟩ := sgn_at (i := b.toNat) (by omega)
  rw [e] at h
  cases h
/-- a text's signs up to the byte 1, and how many bytes it takes with it -/
def tfk : List Int → Option (List Nat × Nat)
  | [] => none
  | b :: r => if b = 1 then some ([], 1) else match chr (b - 2) with
    | none => none
    | some c => (tfk r).map fun q => (c :: q.1, q.2 + 1)
/-- a value from a key's bytes, and how many it takes -/
def vfk : List Int → Option (RV × Nat)
  | [] => none
  | b :: r =>
    if b = 1 then some (.non, 1)
    else if b = 2 then (if r.length < 8 then none else if HI < fromL (r.take 8) - HI then none else some (.num (fromL (r.take 8) - HI), 9))
    else if b = 3 then (tfk r).map fun q => (.txt q.1, q.2 + 1)
    else none
theorem tfk_len : ∀ {d : List Int} {l : List Nat} {k : Nat}, tfk d = some (l, k) → 0 < k ∧ k ≤ d.length
  | [], l, k, h => by cases h
  | b :: r, l, k, h => by
    rw [tfk] at h
    split at h
    · cases h; simp
    · split at h
      · cases h
      · obtain ⟨⟨l', k'⟩, h1, h2⟩ := Option.map_eq_some_iff.mp h
        cases h2
        have := tfk_len h1
        simp only [List.length_cons]
        omega
theorem vfk_len {d : List Int} {v : RV} {k : Nat} (h : vfk d = some (v, k)) : 0 < k ∧ k ≤ d.length := by
  cases d with
  | nil => cases h
  | cons b r =>
    rw [vfk] at h
    split at h
    · cases h; simp
    · split at h
      · split at h
        · cases h
        · split at h
          · cases h
          · cases h; simp only [List.length_cons]; omega
      · split at h
        · obtain ⟨⟨l', k'⟩, h1, h2⟩ := Option.map_eq_some_iff.mp h
          cases h2
          have := tfk_len h1
          simp only [List.length_cons]
          omega
        · cases h
theorem tfk_sg : ∀ (l : List Nat) (r : List Int), (∀ c ∈ l, c ∈ alphabet) → tfk (sg l ++ 1 :: r) = some (l, l.length + 1)
  | [], r, _ => by
    show tfk (1 :: r) = _
    rw [tfk, if_pos rfl]
    rfl
  | c :: l, r, h => by
    have ih := tfk_sg l r fun x hx => h x (List.mem_cons_of_mem _ hx)
    show tfk (((sgn c + 2 : Nat) : Int) :: (sg l ++ 1 :: r)) = _
    have e : ((sgn c + 2 : Nat) : Int) - 2 = (sgn c : Int) := by omega
    rw [tfk, if_neg (by omega), e, chr_sgn (h c List.mem_cons_self), ih]
    rfl
theorem vfk_key (v : RV) (r : List Int) (h : okV v) : vfk (keyV v ++ r) = some (v, (keyV v).length) := by
  cases v with
  | non =>
    show vfk (1 :: r) = _
    rw [vfk, if_pos rfl]
    rfl
  | txt l =>
    show vfk (3 :: (sg l ++ [1] ++ r)) = _
    rw [vfk, if_neg (by decide), if_neg (by decide), if_pos rfl, List.append_assoc]
    show Option.map _ (tfk (sg l ++ 1 :: r)) = _
    rw [tfk_sg l r h]
    show some (RV.txt l, l.length + 1 + 1) = some (RV.txt l, (3 :: (sg l ++ [1])).length)
    simp [sg]
  | num n =>
    have hn : -HI ≤ n ∧ n ≤ HI := h
    have e8 : ((fixedL (n + HI) 8) ++ r).take 8 = fixedL (n + HI) 8 := by
      rw [List.take_append, List.take_of_length_le (by rw [fixed_len]; exact Nat.le_refl _), fixed_len]
      simp
    have ef := from_fixed 8 (n + HI) (by omega) (Int.lt_of_le_of_lt (by omega : n + HI ≤ 2 * HI) (by decide))
    show vfk (2 :: (fixedL (n + HI) 8 ++ r)) = _
    rw [vfk, if_neg (by decide), if_pos rfl, if_neg (by rw [List.length_append, fixed_len]; omega), e8, ef, if_neg (by omega)]
    have e9 : n + HI - HI = n := by omega
    rw [e9]
    show some (RV.num n, 9) = some (RV.num n, (2 :: fixedL (n + HI) 8).length)
    rw [List.length_cons, fixed_len]
theorem tfk_back : ∀ {d : List Int} {l : List Nat} {k : Nat}, tfk d = some (l, k) → (∀ c ∈ l, c ∈ alphabet) ∧ sg l ++ [1] = d.take k ∧ l.length ≤ k
  | [], l, k, h => by cases h
  | b :: r, l, k, h => by
    rw [tfk] at h
    split at h
    · rename_i e
      cases h
      subst e
      exact ⟨fun c hc => absurd hc List.not_mem_nil, rfl, Nat.zero_le _⟩
    · split at h
      · cases h
      · rename_i c hc
        obtain ⟨⟨l', k'⟩, h1, h2⟩ := Option.map_eq_some_iff.mp h
        cases h2
        obtain ⟨i1, i2, i3⟩ := tfk_back h1
        obtain ⟨c1, c2⟩ := chr_ok hc
        refine ⟨fun x hx => ?_, ?_, ?_⟩
        · rcases List.mem_cons.mp hx with rfl | hx
          · exact c1
          · exact i1 x hx
        · rw [List.take_succ_cons, ← i2]
          show ((sgn c + 2 : Nat) : Int) :: (sg l' ++ [1]) = _
          rw [show ((sgn c + 2 : Nat) : Int) = b by omega]
        · show l'.length + 1 ≤ k' + 1
          omega
theorem vfk_back {d : List Int} {v : RV} {k : Nat} (hb : Byt d) (h : vfk d = some (v, k)) : okV v ∧ keyV v = d.take k := by
  cases d with
  | nil => cases h
  | cons b r =>
    rw [vfk] at h
    split at h
    · rename_i e
      cases h
      subst e
      exact ⟨trivial, rfl⟩
    · split at h
      · rename_i e
        subst e
        split at h
        · cases h
        · rename_i hl
          split at h
          · cases h
          · rename_i hh
            cases h
            have h8 : (r.take 8).length = 8 := by rw [List.length_take]; omega
            have hb8 : Byt (r.take 8) := fun c hc => hb c (List.mem_cons_of_mem _ (List.mem_of_mem_take hc))
            have bd := from_bound _ hb8
            have ff := fixed_from _ hb8
            rw [h8] at ff
            refine ⟨⟨by omega, by omega⟩, ?_⟩
            show 2 :: fixedL (fromL (r.take 8) - HI + HI) 8 = _
            rw [show fromL (r.take 8) - HI + HI = fromL (r.take 8) by omega, ff]
            rfl
      · split at h
        · rename_i e
          subst e
          obtain ⟨⟨l', k'⟩, h1, h2⟩ := Option.map_eq_some_iff.mp h
          cases h2
          obtain ⟨i1, i2, _⟩ := tfk_back h1
          exact ⟨i1, by rw [List.take_succ_cons, ← i2]; rfl⟩
        · cases h
/-- all values of a key; the fuel: more than its bytes -/
def vsk : Nat → List Int → Option (List RV)
  | 0, _ => none
  | f + 1, d => if d = [] then some [] else match vfk d with
    | none => none
    | some (v, k) => (vsk f (d.drop k)).map (v :: ·)
theorem vsk_key : ∀ (r : List RV) (f : Nat), (∀ v ∈ r, okV v) → r.length < f → vsk f (keyR r) = some r
  | [], f + 1, _, _ => by rw [vsk]; rfl
  | v :: r, f + 1, h, hf => by
    have hv := vfk_key v (keyR r) (h v List.mem_cons_self)
    have ne : keyR (v :: r) ≠ [] := by cases v <;> simp [keyR, keyV]
    have e : keyR (v :: r) = keyV v ++ keyR r := rfl
    rw [vsk, if_neg ne, e, hv]
    show Option.map _ (vsk f ((keyV v ++ keyR r).drop (keyV v).length)) = _
    rw [List.drop_append, List.drop_of_length_le (Nat.le_refl _), Nat.sub_self, List.drop_zero, List.nil_append, vsk_key r f (fun x hx => h x (List.mem_cons_of_mem _ hx)) (by simpa using hf)]
    rfl
theorem byt_drop {d : List Int} (h : Byt d) (k : Nat) : Byt (d.drop k) := fun b hb => h b (List.mem_of_mem_drop hb)
theorem vsk_back : ∀ {f : Nat} {d : List Int} {r : List RV}, Byt d → vsk f d = some r → (∀ v ∈ r, okV v) ∧ keyR r = d ∧ r.length ≤ d.length
  | 0, d, r, _, h => by cases h
  | f + 1, d, r, hb, h => by
    rw [vsk] at h
    split at h
    · rename_i e
      cases h
      subst e
      exact ⟨fun v hv => absurd hv List.not_mem_nil, rfl, Nat.le_refl _⟩
    · split at h
      · cases h
      · rename_i v k hv
        obtain ⟨r', h1, h2⟩ := Option.map_eq_some_iff.mp h
        subst h2
        obtain ⟨i1, i2, i3⟩ := vsk_back (byt_drop hb k) h1
        obtain ⟨o1, o2⟩ := vfk_back hb hv
        have kl := vfk_len hv
        refine ⟨fun x hx => ?_, ?_, ?_⟩
        · rcases List.mem_cons.mp hx with rfl | hx
          · exact o1
          · exact i1 x hx
        · show keyV v ++ keyR r' = d
          rw [o2, i2, List.take_append_drop]
        · rw [List.length_drop] at i3
          rw [List.length_cons]
          omega
/-! natural numbers -/
def nat7 (n : Nat) : List Int := if n < 128 then [(n : Int)] else ((n % 128 + 128 : Nat) : Int) :: nat7 (n / 128)
termination_by n
theorem nat7_lt {n : Nat} (h : n < 128) : nat7 n = [(n : Int)] := by rw [nat7, if_pos h]
theorem nat7_ge {n : Nat} (h : ¬ n < 128) : nat7 n = ((n % 128 + 128 : Nat) : Int) :: nat7 (n / 128) := by rw [nat7, if_neg h]
/-- a number read: the flag: nothing is read yet -/
def nf : Bool → List Int → Option (Nat × Nat)
  | _, [] => none
  | f, b :: r => if b < 128 then (if b = 0 ∧ f = false then none else some ((b % 128).toNat, 1)) else (nf false r).map fun q => ((b % 128).toNat + 128 * q.1, q.2 + 1)
theorem nf_len : ∀ {f : Bool} {d : List Int} {m k : Nat}, nf f d = some (m, k) → 0 < k ∧ k ≤ d.length
  | f, [], m, k, h => by cases f <;> cases h
  | f, b :: r, m, k, h => by
    rw [nf] at h
    split at h
    · split at h
      · cases h
      · cases h; simp
    · obtain ⟨⟨m', k'⟩, h1, h2⟩ := Option.map_eq_some_iff.mp h
      cases h2
      have := nf_len h1
      simp only [List.length_cons]
      omega
theorem nf_nat7 (n : Nat) : ∀ (f : Bool) (r : List Int), (f = true ∨ n ≠ 0) → nf f (nat7 n ++ r) = some (n, (nat7 n).length) := by
  induction n using Nat.strongRecOn with
  | _ n ih =>
    intro f r h
    by_cases c : n < 128
    · rw [nat7_lt c]
      show nf f ((n : Int) :: r) = _
      have c2 : ¬ ((n : Int) = 0 ∧ f = false) := fun q => by
        rcases h with h | h
        · rw [h] at q; cases q.2
        · omega
      rw [nf, if_pos (by omega), if_neg c2]
      show some (((n : Int) % 128).toNat, 1) = some (n, 1)
      rw [show ((n : Int) % 128).toNat = n by omega]
    · rw [nat7_ge c]
      show nf f (((n % 128 + 128 : Nat) : Int) :: (nat7 (n / 128) ++ r)) = _
      rw [nf, if_neg (by omega), ih (n / 128) (by omega) false r (.inr (by omega))]
      show some ((((n % 128 + 128 : Nat) : Int) % 128).toNat + 128 * (n / 128), (nat7 (n / 128)).length + 1) = some (n, (nat7 (n / 128)).length + 1)
      rw [show (((n % 128 + 128 : Nat) : Int) % 128).toNat + 128 * (n / 128) = n by omega]
theorem nf_back : ∀ {f : Bool} {d : List Int} {m k : Nat}, Byt d → nf f d = some (m, k) → nat7 m = d.take k ∧ (f = true ∨ m ≠ 0)
  | f, [], m, k, _, h => by cases f <;> cases h
  | f, b :: r, m, k, hb, h => by
    have b1 := hb b List.mem_cons_self
    rw [nf] at h
    split at h
    · rename_i c
      split at h
      · cases h
      · rename_i c2
        cases h
        refine ⟨?_, ?_⟩
        · rw [nat7_lt (by omega)]
          show [(((b % 128).toNat : Nat) : Int)] = [b]
          rw [show (((b % 128).toNat : Nat) : Int) = b by omega]
        · cases f with
          | true => exact .inl rfl
          | false => exact .inr fun e => c2 ⟨by omega, rfl⟩
    · rename_i c
      obtain ⟨⟨m', k'⟩, h1, h2⟩ := Option.map_eq_some_iff.mp h
      cases h2
      obtain ⟨i1, i2⟩ := nf_back (fun x hx => hb x (List.mem_cons_of_mem _ hx)) h1
      have hm : m' ≠ 0 := by
        rcases i2 with i2 | i2
        · cases i2
        · exact i2
      refine ⟨?_, .inr (by omega)⟩
      rw [List.take_succ_cons, ← i1, nat7_ge (by omega)]
      rw [show (((((b % 128).toNat + 128 * m') % 128 + 128 : Nat)) : Int) = b by omega, show ((b % 128).toNat + 128 * m') / 128 = m' by omega]
theorem nat7_byt (n : Nat) : Byt (nat7 n) := by
  induction n using Nat.strongRecOn with
  | _ n ih =>
    by_cases c : n < 128
    · rw [nat7_lt c]
      intro b hb
      rw [List.mem_singleton.mp hb]
      omega
    · rw [nat7_ge c]
      intro b hb
      rcases List.mem_cons.mp hb with rfl | hb
      · omega
      · exact ih (n / 128) (by omega) b hb
theorem nat7_len (k : Nat) : ∀ n : Nat, n < 128 ^ (k + 1) → (nat7 n).length ≤ k + 1 := by
  induction k with
  | zero => intro n h; rw [nat7_lt (by simpa using h)]; exact Nat.le_refl _
  | succ k ih =>
    intro n h
    by_cases c : n < 128
    · rw [nat7_lt c]; simp
    · rw [nat7_ge c, List.length_cons]
      have := ih (n / 128) (by rw [Nat.pow_succ] at h; omega)
      omega
end M5
end

section
-- part K05R
set_option Elab.async false
set_option linter.all false
set_option maxRecDepth 100000
set_option maxHeartbeats 2000000
/-! K05R: records; core Lean -/
namespace M5
open PySem PySem.Spec PyProof.Rows L2 Fw
def zz (n : Int) : Nat := if 0 ≤ n then (2 * n).toNat else (-2 * n - 1).toNat
def uz (m : Nat) : Int := if m % 2 = 0 then (m / 2 : Nat) else -((m + 1) / 2 : Nat)
theorem uz_zz (n : Int) : uz (zz n) = n := by
  unfold uz zz
  split <;> split <;> omega
theorem zz_uz (m : Nat) : zz (uz m) = m := by
  unfold uz zz
  split <;> split <;> omega
def sgR (l : List Nat) : List Int := l.map fun c => ((sgn c : Nat) : Int)
def recV : RV → List Int
  | .non => [1]
  | .txt l => 3 :: (nat7 l.length ++ sgR l)
  | .num n => 2 :: nat7 (zz n)
def recR (r : List RV) : List Int := nat7 r.length ++ r.flatMap recV
def sgs : List Int → Option (List Nat)
  | [] => some []
  | b :: r => match chr b with
    | none => none
    | some c => (sgs r).map (c :: ·)
theorem sgs_sg : ∀ l : List Nat, (∀ c ∈ l, c ∈ alphabet) → sgs (sgR l) = some l
  | [], _ => rfl
  | c :: l, h => by
    show sgs (((sgn c : Nat) : Int) :: sgR l) = _
    rw [sgs, chr_sgn (h c List.mem_cons_self), sgs_sg l fun x hx => h x (List.mem_cons_of_mem _ hx)]
    rfl
theorem sgs_back : ∀ {d : List Int} {l : List Nat}, sgs d = some l → (∀ c ∈ l, c ∈ alphabet) ∧ sgR l = d
  | [], l, h => by cases h; exact ⟨fun c hc => absurd hc List.not_mem_nil, rfl⟩
  | b :: r, l, h => by
    rw [sgs] at h
    split at h
    · cases h
    · rename_i c hc
      obtain ⟨l', h1, h2⟩ := Option.map_eq_some_iff.mp h
      subst h2
      obtain ⟨i1, i2⟩ := sgs_back h1
      obtain ⟨c1, c2⟩ := chr_ok hc
      refine ⟨fun x hx => ?_, ?_⟩
      · rcases List.mem_cons.mp hx with rfl | hx
        · exact c1
        · exact i1 x hx
      · show (sgn c : Int) :: sgR l' = _
        rw [c2, i2]
/-- a value from a record's bytes, and how many it takes -/
def vfr : List Int → Option (RV × Nat)
  | [] => none
  | b :: r => if b = 1 then some (.non, 1) else match nf true r with
    | none => none
    | some (m, k) =>
      if b = 2 then (if -HI ≤ uz m ∧ uz m ≤ HI then some (.num (uz m), k + 1) else none)
      else if b ≠ 3 ∨ (r.drop k).length < m then none
      else (sgs ((r.drop k).take m)).map fun l => (.txt l, k + 1 + m)
theorem vfr_len {d : List Int} {v : RV} {k : Nat} (h : vfr d = some (v, k)) : 0 < k ∧ k ≤ d.length := by
  cases d with
  | nil => cases h
  | cons b r =>
    rw [vfr] at h
    split at h
    · cases h; simp
    · split at h
      · cases h
      · rename_i m k' hn
        have := nf_len hn
        split at h
        · split at h
          · cases h; simp only [List.length_cons]; omega
          · cases h
        · split at h
          · cases h
          · rename_i c
            obtain ⟨l, h1, h2⟩ := Option.map_eq_some_iff.mp h
            cases h2
            rw [List.length_drop] at c
            simp only [List.length_cons]
            omega
theorem vfr_rec (v : RV) (r : List Int) (h : okV v) : vfr (recV v ++ r) = some (v, (recV v).length) := by
  cases v with
  | non =>
    show vfr (1 :: r) = _
    rw [vfr, if_pos rfl]
    rfl
  | num n =>
    have hn : -HI ≤ n ∧ n ≤ HI := h
    show vfr (2 :: (nat7 (zz n) ++ r)) = _
    rw [vfr, if_neg (by decide), nf_nat7 _ true r (.inl rfl)]
    dsimp only
    rw [if_pos rfl, uz_zz, if_pos hn]
    rfl
  | txt l =>
    have e1 : (nat7 l.length ++ sgR l ++ r).drop (nat7 l.length).length = sgR l ++ r := by
      rw [List.append_assoc, List.drop_append, List.drop_of_length_le (Nat.le_refl _), Nat.sub_self, List.drop_zero, List.nil_append]
    have el : (sgR l).length = l.length := by simp [sgR]
    have e2 : (sgR l ++ r).take l.length = sgR l := by rw [← el]; simp
    show vfr (3 :: (nat7 l.length ++ sgR l ++ r)) = _
    rw [vfr, if_neg (by decide), List.append_assoc, nf_nat7 _ true _ (.inl rfl), ← List.append_assoc]
    dsimp only
    rw [if_neg (by decide), e1, if_neg (by rw [List.length_append, el]; intro q; rcases q with q | q; exact q rfl; omega), e2, sgs_sg l h]
    show some (RV.txt l, (nat7 l.length).length + 1 + l.length) = some (RV.txt l, (3 :: (nat7 l.length ++ sgR l)).length)
    rw [List.length_cons, List.length_append, el, show (nat7 l.length).length + 1 + l.length = (nat7 l.length).length + l.length + 1 by omega]
theorem vfr_back {d : List Int} {v : RV} {k : Nat} (hb : Byt d) (h : vfr d = some (v, k)) : okV v ∧ recV v = d.take k := by
  cases d with
  | nil => cases h
  | cons b r =>
    have hbr : Byt r := fun x hx => hb x (List.mem_cons_of_mem _ hx)
    rw [vfr] at h
    split at h
    · rename_i e
      cases h
      subst e
      exact ⟨trivial, rfl⟩
    · split at h
      · cases h
      · rename_i m k' hn
        obtain ⟨n1, _⟩ := nf_back hbr hn
        have nl := nf_len hn
        split at h
        · rename_i e
          subst e
          split at h
          · rename_i c
            cases h
            refine ⟨c, ?_⟩
            show 2 :: nat7 (zz (uz m)) = _
            rw [zz_uz, n1, List.take_succ_cons]
          · cases h
        · split at h
          · cases h
          · rename_i c
            obtain ⟨l, h1, h2⟩ := Option.map_eq_some_iff.mp h
            cases h2
            obtain ⟨i1, i2⟩ := sgs_back h1
            have b3 : b = 3 := by
              by_cases q : b = 3
              · exact q
              · exact absurd (.inl q) c
            subst b3
            have el : l.length = m := by
              have e3 : (sgR l).length = l.length := by simp [sgR]
              rw [← e3, i2, List.length_take]
              rw [List.length_drop] at c
              rw [List.length_drop]
              omega
            refine ⟨i1, ?_⟩
            show 3 :: (nat7 l.length ++ sgR l) = _
            rw [el, n1, i2, show k' + 1 + m = (k' + m) + 1 by omega, List.take_succ_cons, List.take_add]
/-- so many values of a record, and the bytes they take -/
def vsr : Nat → List Int → Option (List RV × Nat)
  | 0, _ => some ([], 0)
  | n + 1, d => match vfr d with
    | none => none
    | some (v, k) => (vsr n (d.drop k)).map fun q => (v :: q.1, k + q.2)
theorem vsr_rec : ∀ (r : List RV) (t : List Int), (∀ v ∈ r, okV v) → vsr r.length (r.flatMap recV ++ t) = some (r, (r.flatMap recV).length)
  | [], t, _ => rfl
  | v :: r, t, h => by
    have e : (v :: r).flatMap recV ++ t = recV v ++ (r.flatMap recV ++ t) := by simp
    rw [e, List.length_cons, vsr, vfr_rec v _ (h v List.mem_cons_self)]
    dsimp only
    rw [List.drop_append, List.drop_of_length_le (Nat.le_refl _), Nat.sub_self, List.drop_zero, List.nil_append, vsr_rec r t fun x hx => h x (List.mem_cons_of_mem _ hx)]
    show some (v :: r, (recV v).length + (r.flatMap recV).length) = some (v :: r, ((v :: r).flatMap recV).length)
    simp
theorem vsr_back : ∀ {n : Nat} {d : List Int} {r : List RV} {k : Nat}, Byt d → vsr n d = some (r, k) → (∀ v ∈ r, okV v) ∧ r.flatMap recV = d.take k ∧ r.length = n ∧ n ≤ k ∧ k ≤ d.length
  | 0, d, r, k, _, h => by cases h; exact ⟨fun v hv => absurd hv List.not_mem_nil, by simp, rfl, Nat.le_refl _, Nat.zero_le _⟩
  | n + 1, d, r, k, hb, h => by
    rw [vsr] at h
    split at h
    · cases h
    · rename_i v k1 hv
      obtain ⟨⟨r', k2⟩, h1, h2⟩ := Option.map_eq_some_iff.mp h
      cases h2
      obtain ⟨i1, i2, i3, i4, i5⟩ := vsr_back (byt_drop hb k1) h1
      obtain ⟨o1, o2⟩ := vfr_back hb hv
      have kl := vfr_len hv
      rw [List.length_drop] at i5
      refine ⟨fun x hx => ?_, ?_, by rw [List.length_cons, i3], by omega, by omega⟩
      · rcases List.mem_cons.mp hx with rfl | hx
        · exact o1
        · exact i1 x hx
      · show recV v ++ r'.flatMap recV = _
        rw [o2, i2, ← List.take_add]
/-- a row from a record -/
def rowOf (d : List Int) : Option (List RV) := match nf true d with
  | none => none
  | some (m, k) => match vsr m (d.drop k) with
    | none => none
    | some (r, j) => if k + j = d.length then some r else none
theorem rowOf_rec {r : List RV} (h : ∀ v ∈ r, okV v) : rowOf (recR r) = some r := by
  have e := vsr_rec r [] h
  rw [List.append_nil] at e
  rw [rowOf, recR, nf_nat7 _ true _ (.inl rfl)]
  dsimp only
  rw [List.drop_append, List.drop_of_length_le (Nat.le_refl _), Nat.sub_self, List.drop_zero, List.nil_append, e]
  dsimp only
  rw [if_pos (by rw [List.length_append])]
theorem rowOf_back {d : List Int} {r : List RV} (hb : Byt d) (h : rowOf d = some r) : (∀ v ∈ r, okV v) ∧ recR r = d ∧ r.length ≤ d.length := by
  rw [rowOf] at h
  split at h
  · cases h
  · rename_i m k hn
    split at h
    · cases h
    · rename_i r' j hv
      split at h
      · rename_i e
        cases h
        obtain ⟨n1, _⟩ := nf_back hb hn
        obtain ⟨i1, i2, i3, i4, i5⟩ := vsr_back (byt_drop hb k) hv
        refine ⟨i1, ?_, by omega⟩
        rw [List.length_drop] at i5
        have e3 : (d.drop k).take j = d.drop k := List.take_of_length_le (by rw [List.length_drop]; omega)
        rw [recR, i3, n1, i2, e3, List.take_append_drop]
      · cases h
theorem sgR_byt {l : List Nat} (h : ∀ c ∈ l, c ∈ alphabet) : Byt (sgR l) := by
  intro b hb
  obtain ⟨c, hc, rfl⟩ := List.mem_map.mp hb
  have := (sgn_ok (h c hc)).1
  omega
theorem recV_byt {v : RV} (h : okV v) : Byt (recV v) := by
  cases v with
  | non => intro b hb; rw [List.mem_singleton.mp hb]; decide
  | num n =>
    intro b hb
    rcases List.mem_cons.mp hb with rfl | hb
    · decide
    · exact nat7_byt _ b hb
  | txt l =>
    intro b hb
    rcases List.mem_cons.mp hb with rfl | hb
    · decide
    · rcases List.mem_append.mp hb with hb | hb
      · exact nat7_byt _ b hb
      · exact sgR_byt h b hb
theorem recR_byt {r : List RV} (h : ∀ v ∈ r, okV v) : Byt (recR r) := by
  intro b hb
  rcases List.mem_append.mp hb with hb | hb
  · exact nat7_byt _ b hb
  · obtain ⟨v, hv, hb⟩ := List.mem_flatMap.mp hb
    exact recV_byt (h v hv) b hb
/-! the least key above a prefix -/
def upLen (d : List Int) : Nat := (d.reverse.dropWhile (· == 255)).length
theorem upLen_le (d : List Int) : upLen d ≤ d.length := by
  unfold upLen
  have := List.dropWhile_sublist (p := (· == (255 : Int))) (l := d.reverse)
  have := this.length_le
  simpa using this
theorem upLen_snoc (d : List Int) (b : Int) : upLen (d ++ [b]) = if b = 255 then upLen d else d.length + 1 := by
  unfold upLen
  rw [List.reverse_append, List.reverse_singleton, List.singleton_append, List.dropWhile_cons]
  by_cases h : b = 255
  · simp [h]
  · simp [h]
theorem upLen_pos {d : List Int} {b : Int} (h : b ∈ d) (hb : b ≠ 255) : 0 < upLen d := by
  rw [← List.reverse_reverse d] at h ⊢
  generalize d.reverse = e at *
  induction e with
  | nil => cases h
  | cons c e ih =>
    rw [List.reverse_cons] at h ⊢
    rw [upLen_snoc]
    split
    · rename_i q
      refine ih ?_
      rcases List.mem_append.mp h with h | h
      · exact h
      · rw [List.mem_singleton.mp h] at hb
        exact absurd q hb
    · omega
def upper (d : List Int) : Option (List Int) := if upLen d = 0 then none else some (d.take (upLen d - 1) ++ [d.getD (upLen d - 1) 0 + 1])
theorem upper_ok {d : List Int} (h : 0 < upLen d) (q : List Int) : ∃ u, upper d = some u ∧ HT.lexLt (d ++ q) u = true ∧ u.length = upLen d ∧ u.take (upLen d - 1) = d.take (upLen d - 1) := by
  have hl := upLen_le d
  refine ⟨d.take (upLen d - 1) ++ [d.getD (upLen d - 1) 0 + 1], by rw [upper, if_neg (by omega)], ?_, ?_, ?_⟩
  · have hlt : upLen d - 1 < d.length := by omega
    have e : d = d.take (upLen d - 1) ++ d[upLen d - 1] :: d.drop (upLen d - 1 + 1) := by
      rw [← List.drop_eq_getElem_cons hlt, List.take_append_drop]
    have e2 : d.getD (upLen d - 1) 0 = d[upLen d - 1] := by simp [List.getD, List.getElem?_eq_getElem hlt]
    have dv : Div (d ++ q) (d.take (upLen d - 1) ++ [d.getD (upLen d - 1) 0 + 1]) true :=
      ⟨d.take (upLen d - 1), d[upLen d - 1], d.getD (upLen d - 1) 0 + 1, d.drop (upLen d - 1 + 1) ++ q, [], by
        have e4 : d ++ q = (d.take (upLen d - 1) ++ d[upLen d - 1] :: d.drop (upLen d - 1 + 1)) ++ q := by rw [← e]
        rw [e4, List.append_assoc, List.cons_append], rfl, by rw [e2]; omega, by rw [e2]; exact (decide_eq_true (by omega)).symm⟩
    exact dv.lex
  · rw [List.length_append, List.length_take, List.length_singleton]
    omega
  · rw [List.take_append, List.take_take, Nat.min_self, List.length_take, show upLen d - 1 - min (upLen d - 1) d.length = 0 by omega, List.take_zero, List.append_nil]
end M5
end

section
-- part K10M
set_option Elab.async false
set_option linter.all false
set_option maxRecDepth 100000
set_option maxHeartbeats 2000000
/-! K10M: frames, records and groups of a log; core Lean -/
namespace M10
open M5
abbrev Img := Nat × List Int
abbrev Grp := Nat × List Img
def ckStep (s : Int × Int) (b : Int) : Int × Int := ((s.1 + b) % 65521, (s.2 + (s.1 + b) % 65521) % 65521)
def ck (d : List Int) : Int × Int := d.foldl ckStep (1, 0)
def sum4 (p : List Int) : List Int := fixedL (65536 * (ck p).2 + (ck p).1) 4
def frameL (p : List Int) : List Int := fixedL (p.length : Int) 4 ++ (p ++ sum4 p)
theorem frame_len (p : List Int) : (frameL p).length = p.length + 8 := by
  simp only [frameL, sum4, List.length_append, fixed_len]
  omega
theorem drop_lt {d : List Int} {n : Nat} (h : 4 ≤ d.length) : (d.drop (n + 8)).length < d.length := by
  rw [List.length_drop]
  omega
/-- the bytes of a log's records -/
def frs (d : List Int) : List (List Int) :=
  if h : 4 ≤ d.length then
    if d.length < (fromL (d.take 4)).toNat + 8 ∨ (d.drop ((fromL (d.take 4)).toNat + 4)).take 4 ≠ sum4 ((d.drop 4).take (fromL (d.take 4)).toNat) then []
    else (d.drop 4).take (fromL (d.take 4)).toNat :: frs (d.drop ((fromL (d.take 4)).toNat + 8))
  else []
termination_by d.length
decreasing_by exact drop_lt h
inductive Rc where
  | img (n : Nat) (b : List Int)
  | fin (n : Nat)
def recO : List Int → Option Rc
  | [] => none
  | b :: r => if b = 1 ∨ b = 2 then (match nf true r with
    | none => none
    | some (m, k) => if b = 1 then some (.img m (r.drop k)) else if k = r.length then some (.fin m) else none) else none
def grs : List (List Int) → List Img → List Grp
  | [], _ => []
  | p :: ps, im => match recO p with
    | none => []
    | some (.img n b) => grs ps (im ++ [(n, b)])
    | some (.fin n) => (n, im) :: grs ps []
def imgP (i : Img) : List Int := 1 :: (nat7 i.1 ++ i.2)
def endP (n : Nat) : List Int := 2 :: nat7 n
def grpB (g : Grp) : List Int := g.2.flatMap (fun i => frameL (imgP i)) ++ frameL (endP g.1)
def logB (gs : List Grp) : List Int := gs.flatMap grpB
def Fits (p : List Int) : Prop := p.length < 256 ^ 4
theorem frs_frame {p : List Int} (h : Fits p) (r : List Int) : frs (frameL p ++ r) = p :: frs r := by
  have e4 : (frameL p ++ r).take 4 = fixedL (p.length : Int) 4 := by
    rw [frameL, List.append_assoc, List.take_append_of_le_length (by rw [fixed_len]; exact Nat.le_refl _), List.take_of_length_le (by rw [fixed_len]; exact Nat.le_refl _)]
  have hp : ((p.length : Nat) : Int) < 256 ^ 4 := by
    have h : p.length < 256 ^ 4 := h
    have e : (256 : Nat) ^ 4 = 4294967296 := by decide
    have e2 : (256 : Int) ^ 4 = 4294967296 := by decide
    omega
  have en : (fromL ((frameL p ++ r).take 4)).toNat = p.length := by
    rw [e4, from_fixed 4 _ (by omega) hp]
    rfl
  have hl := frame_len p
  have d4 : (frameL p ++ r).drop 4 = p ++ (sum4 p ++ r) := by
    rw [frameL, List.append_assoc, List.drop_append_of_le_length (by rw [fixed_len]; exact Nat.le_refl _), List.drop_of_length_le (by rw [fixed_len]; exact Nat.le_refl _)]
    simp
  have dp : ((frameL p ++ r).drop 4).take p.length = p := by rw [d4]; simp
  have ds : ((frameL p ++ r).drop (p.length + 4)).take 4 = sum4 p := by
    rw [show p.length + 4 = 4 + p.length by omega, ← List.drop_drop, d4]
    have l4 : (sum4 p).length = 4 := fixed_len _ _
    simp [l4]
  have dr : (frameL p ++ r).drop (p.length + 8) = r := by
    rw [← hl]; simp
  rw [frs, en, dp, ds, dr, dif_pos (by rw [List.length_append]; omega), if_neg]
  rintro (z | z)
  · rw [List.length_append] at z; omega
  · exact z rfl
theorem frs_short {d : List Int} (h : d.length < 4) : frs d = [] := by rw [frs, dif_neg (by omega)]
/-- a record that is cut -/
theorem frs_cut {p : List Int} (h : Fits p) (r : List Int) {k : Nat} (hk : k < p.length + 8) : frs ((frameL p ++ r).take k) = [] := by
  by_cases c : 4 ≤ k
  · have hl := frame_len p
    have e4 : ((frameL p ++ r).take k).take 4 = fixedL (p.length : Int) 4 := by
      rw [List.take_take, Nat.min_eq_left c, frameL, List.append_assoc, List.take_append_of_le_length (by rw [fixed_len]; exact Nat.le_refl _), List.take_of_length_le (by rw [fixed_len]; exact Nat.le_refl _)]
    have hp : ((p.length : Nat) : Int) < 256 ^ 4 := by
      have h : p.length < 256 ^ 4 := h
      have e : (256 : Nat) ^ 4 = 4294967296 := by decide
      have e2 : (256 : Int) ^ 4 = 4294967296 := by decide
      omega
    have en : (fromL (((frameL p ++ r).take k).take 4)).toNat = p.length := by
      rw [e4, from_fixed 4 _ (by omega) hp]
      rfl
    rw [frs, en]
    split
    · rw [if_pos (.inl (by rw [List.length_take]; omega))]
    · rfl
  · exact frs_short (by rw [List.length_take]; omega)
def okI (i : Img) : Prop := Fits (imgP i)
def okG (g : Grp) : Prop := (∀ i ∈ g.2, okI i) ∧ Fits (endP g.1)
def recsG (g : Grp) : List (List Int) := g.2.map imgP ++ [endP g.1]
theorem rec_img (i : Img) : recO (imgP i) = some (.img i.1 i.2) := by
  simp [recO, imgP, nf_nat7 i.1 true i.2 (.inl rfl)]
theorem rec_end (n : Nat) : recO (endP n) = some (.fin n) := by
  have := nf_nat7 n true [] (.inl rfl)
  rw [List.append_nil] at this
  simp [recO, endP, this]
theorem grs_imgs : ∀ (is : List Img) (ps : List (List Int)) (im : List Img), grs (is.map imgP ++ ps) im = grs ps (im ++ is)
  | [], ps, im => by simp
  | i :: is, ps, im => by
    rw [List.map_cons, List.cons_append, grs, rec_img]
    show grs (is.map imgP ++ ps) (im ++ [(i.1, i.2)]) = _
    rw [grs_imgs is ps]
    simp
theorem grs_group (g : Grp) (ps : List (List Int)) : grs (recsG g ++ ps) [] = g :: grs ps [] := by
  rw [recsG, List.append_assoc, grs_imgs, List.nil_append, List.singleton_append, grs, rec_end]
/-- the whole log -/
theorem frs_imgs : ∀ (is : List Img) (r : List Int), (∀ i ∈ is, okI i) → frs (is.flatMap (fun i => frameL (imgP i)) ++ r) = is.map imgP ++ frs r
  | [], r, _ => rfl
  | i :: is, r, h => by
    rw [List.flatMap_cons, List.append_assoc, frs_frame (h i List.mem_cons_self), frs_imgs is r fun j hj => h j (List.mem_cons_of_mem _ hj)]
    rfl
theorem frs_group {g : Grp} (h : okG g) (r : List Int) : frs (grpB g ++ r) = recsG g ++ frs r := by
  rw [grpB, List.append_assoc, frs_imgs _ _ h.1, frs_frame h.2, recsG]
  simp
theorem frs_log : ∀ {gs : List Grp} (r : List Int), (∀ g ∈ gs, okG g) → frs (logB gs ++ r) = gs.flatMap recsG ++ frs r
  | [], r, _ => rfl
  | g :: gs, r, h => by
    show frs (grpB g ++ logB gs ++ r) = _
    rw [List.append_assoc, frs_group (h g List.mem_cons_self), frs_log r fun j hj => h j (List.mem_cons_of_mem _ hj), List.flatMap_cons, List.append_assoc]
theorem grs_log : ∀ (gs : List Grp) (ps : List (List Int)), grs (gs.flatMap recsG ++ ps) [] = gs ++ grs ps []
  | [], ps => rfl
  | g :: gs, ps => by
    rw [List.flatMap_cons, List.append_assoc, grs_group, grs_log gs ps]
    rfl
theorem read_log {gs : List Grp} (h : ∀ g ∈ gs, okG g) : grs (frs (logB gs)) [] = gs := by
  have := frs_log (gs := gs) [] h
  rw [List.append_nil, frs_short (d := []) (by decide), List.append_nil] at this
  have g2 := grs_log gs []
  rw [List.append_nil] at g2
  rw [this, g2]
  exact List.append_nil gs
/-- a log that is cut -/
theorem grs_imgs_cut : ∀ (is : List Img) (n : Nat) (r : List Int) (im : List Img) (k : Nat), (∀ i ∈ is, okI i) → Fits (endP n) → k < (is.flatMap (fun i => frameL (imgP i)) ++ frameL (endP n)).length →
    grs (frs ((is.flatMap (fun i => frameL (imgP i)) ++ frameL (endP n) ++ r).take k)) im = []
  | [], n, r, im, k, _, hn, hk => by
    rw [List.flatMap_nil, List.nil_append] at hk ⊢
    rw [frs_cut hn r (by rw [← frame_len]; exact hk)]
    rfl
  | i :: is, n, r, im, k, h, hn, hk => by
    have hi := h i List.mem_cons_self
    rw [List.flatMap_cons, List.append_assoc, List.append_assoc] at *
    by_cases c : k < (imgP i).length + 8
    · rw [frs_cut hi _ c]
      rfl
    · have hl := frame_len (imgP i)
      obtain ⟨j, rfl⟩ : ∃ j, k = (frameL (imgP i)).length + j := ⟨k - (frameL (imgP i)).length, by omega⟩
      rw [List.take_length_add_append, frs_frame hi, grs, rec_img]
      show grs _ (im ++ [(i.1, i.2)]) = []
      rw [← List.append_assoc]
      refine grs_imgs_cut is n r _ j (fun x hx => h x (List.mem_cons_of_mem _ hx)) hn ?_
      rw [List.length_append] at hk
      omega
def cutG : List Grp → Nat → List Grp
  | [], _ => []
  | g :: gs, c => if (grpB g).length ≤ c then g :: cutG gs (c - (grpB g).length) else []
theorem read_cut : ∀ {gs : List Grp} (c : Nat), (∀ g ∈ gs, okG g) → grs (frs ((logB gs).take c)) [] = cutG gs c
  | [], c, _ => by
    rw [show (logB []).take c = [] by simp [logB], frs_short (by decide)]
    rfl
  | g :: gs, c, h => by
    have hg := h g List.mem_cons_self
    show grs (frs ((grpB g ++ logB gs).take c)) [] = _
    rw [cutG]
    split
    · rename_i hc
      obtain ⟨j, rfl⟩ : ∃ j, c = (grpB g).length + j := ⟨c - (grpB g).length, by omega⟩
      rw [List.take_length_add_append, frs_group hg, grs_group, read_cut j fun x hx => h x (List.mem_cons_of_mem _ hx)]
      rw [show (grpB g).length + j - (grpB g).length = j by omega]
    · rename_i hc
      exact grs_imgs_cut g.2 g.1 _ [] c hg.1 hg.2 (by show c < (grpB g).length; omega)
/-- as the law reads -/
def lrd (d : List Int) (im : List Img) : List Grp :=
  if h : 8 ≤ d.length then
    if d.length < (fromL (d.take 4)).toNat + 8 ∨ sum4 ((d.drop 4).take (fromL (d.take 4)).toNat) ≠ (d.drop ((fromL (d.take 4)).toNat + 4)).take 4 then []
    else match recO ((d.drop 4).take (fromL (d.take 4)).toNat) with
      | none => []
      | some (.img n b) => lrd (d.drop ((fromL (d.take 4)).toNat + 8)) (im ++ [(n, b)])
      | some (.fin n) => (n, im) :: lrd (d.drop ((fromL (d.take 4)).toNat + 8)) []
  else []
termination_by d.length
decreasing_by all_goals exact drop_lt (by omega)
theorem lrd_eq (d : List Int) (im : List Img) : lrd d im = grs (frs d) im := by
  generalize hn : d.length = n
  induction n using Nat.strongRecOn generalizing d im with
  | _ n ih =>
    rw [lrd, frs]
    by_cases c8 : 8 ≤ d.length
    · rw [dif_pos c8, dif_pos (by omega : 4 ≤ d.length)]
      by_cases c : d.length < (fromL (d.take 4)).toNat + 8 ∨ (d.drop ((fromL (d.take 4)).toNat + 4)).take 4 ≠ sum4 ((d.drop 4).take (fromL (d.take 4)).toNat)
      · rw [if_pos c, if_pos (c.imp id fun z => Ne.symm z)]
        rfl
      · rw [if_neg c, if_neg (fun z => c (z.imp id fun z => Ne.symm z)), grs]
        have hlt := drop_lt (d := d) (n := (fromL (d.take 4)).toNat) (by omega)
        cases recO ((d.drop 4).take (fromL (d.take 4)).toNat) with
        | none => rfl
        | some r =>
          cases r with
          | img n b => exact ih _ (by omega) _ _ rfl
          | fin n =>
            show (n, im) :: _ = (n, im) :: _
            rw [ih _ (by omega) _ _ rfl]
    · rw [dif_neg c8]
      split
      · rw [if_pos (.inl (by omega))]
        rfl
      · rfl
end M10
end

section
-- part Gk
set_option Elab.async false
set_option linter.all false
set_option maxRecDepth 100000
set_option maxHeartbeats 2000000
/-! Gk: what the laws share: ints as data, slices, heaps -/
namespace Gk
open PySem PySem.Spec PyProof.Rows L2 Fw M5 M10 LamX
section
variable {P : Program} {w : World} {K : PySem.W.Frag} {mg : Str → Option Value} {base : Heap} {X : Cx} {σ : L2.St} {H : Hp} {Q : VK} {a b : Addr} {d e : List Int} {te : TE} {vs : List Nat} {tt : TT} {g : TG} {ta : TA}
def Cin (mg : Str → Option Value) (x : Str) (n : Int) : Prop := ∃ u, mg x = some u ∧ RelV (.int n) u
structure Ex (K : PySem.W.Frag) (mg : Str → Option Value) (x : Str) (C : Addr) : Prop where
  ox : PySem.W.excIn K C [.type "ValueError", .type "Exception", .type "BaseException", .type "object"] "ValueError.__new__" = true
  og : mg x = some (.ref C)
  ok : PySem.W.keepIn K (.ref C) = true
  ob : PySem.W.subIn K (.ref C) (.type "BaseException") = some true
  ot : PySem.W.typeIn K (.ref C) = some (.type "type")
theorem same_upd {H H' : Hp} {L : Addr} {o : HO} (s : Same H H') (hL : H L = none) : Same H (upd H' L o) := fun b u e => by rw [upd_ne (ne_of_none e hL)]; exact s _ _ e
/-- a new tuple of ints -/
def GivesT (H : Hp) (Q : VK) (d : List Int) : Prop := ∀ (p : Addr) (H' : Hp), Same H H' → H p = none → H' p = some (.tup (d.map V.int)) → Q (.ref p) H'
def spFixed : Sp := fun vs H Q _ => ∃ (n : Int) (k : Nat), vs = [.int n, .int (k : Int)] ∧ k ≤ 64 ∧ GivesT H Q (fixedL n k)
def spNumF (K : PySem.W.Frag) : Sp := fun vs H Q _ => ∃ (a : Addr) (d : List Int), vs = [.ref a] ∧ SqT K H a (d.map V.int) ∧ Q (.int (fromL d)) H
theorem fromL_take {d : List Int} {i : Nat} {b : Int} (h : d[i]? = some b) : fromL (d.take (i + 1)) = fromL (d.take i) * 256 + b := by
  rw [List.take_add_one, h]
  exact fromL_snoc _ _
theorem ints_get {d : List Int} {i : Nat} {x : V} (h : (d.map V.int)[i]? = some x) : ∃ b, d[i]? = some b ∧ x = .int b := by
  rw [List.getElem?_map] at h
  cases e : d[i]? with
  | none => rw [e] at h; cases h
  | some b => rw [e] at h; exact ⟨b, rfl, (Option.some.inj h).symm⟩
/-- a new pair (value, place) -/
def Pair (H : Hp) (Q : VK) (v : V) (e : Nat) : Prop := ∀ (q : Addr) (H' : Hp), Same H H' → H q = none → H' q = some (.tup [v, .int (e : Int)]) → Q (.ref q) H'
def Fails (H : Hp) (E : XK) (C : Addr) : Prop := ∀ H', Same H H' → E (.ref C) none H'
theorem int_get {d : List Int} {i : Nat} {b : Int} (h : d[i]? = some b) : atI (d.map V.int) (i : Int) = some (.int b) := atI_nat (by rw [List.getElem?_map, h]; rfl)
theorem w_ixT {K : PySem.W.Frag} {a : Addr} {d : List Int} {i : Nat} {b : Int} {H : Hp} {Q : VK} (hS : SqT K H a (d.map V.int)) (h : d[i]? = some b) (q : Q (.int b) H) : rIxT K (.ref a) (.int (i : Int)) H Q := ⟨a, _, _, _, rfl, rfl, hS, int_get h, q⟩
theorem w_lenT {K : PySem.W.Frag} {a : Addr} {d : List Int} {H : Hp} {R : V → Hp → Prop} (hS : SqT K H a (d.map V.int)) (q : R (.int (d.length : Int)) H) : ∃ p xs, [V.ref a] = [.ref p] ∧ (SqL K H p xs ∨ SqT K H p xs) ∧ R (.int (xs.length : Int)) H :=
  ⟨a, d.map V.int, rfl, .inr hS, by rw [List.length_map]; exact q⟩
def spNat : Sp := fun vs H Q _ => ∃ n : Nat, vs = [.int (n : Int)] ∧ n < 128 ^ 200 ∧ GivesT H Q (nat7 n)
theorem ck_gen : ∀ (d : List Int) (a b : Int), d.foldl ckStep (a % 65521, b % 65521) = ((a + d.sum) % 65521, (b + d.length * a + accI 0 d) % 65521)
  | [], a, b => by simp [accI]
  | x :: r, a, b => by
    have e : ckStep (a % 65521, b % 65521) x = ((a + x) % 65521, (b + (a + x)) % 65521) := by
      unfold ckStep
      congr 1 <;> omega
    rw [List.foldl_cons, e, ck_gen r (a + x) (b + (a + x)), List.sum_cons]
    have e2 : accI 0 (x :: r) = x + (r.length * x + accI 0 r) := by
      show 0 + x + accI (0 + x) r = _
      rw [accI_add (0 + x) r, Int.zero_add]
    rw [e2, List.length_cons, Int.natCast_add, Int.add_mul, Int.mul_add, Int.natCast_one, Int.one_mul]
    congr 1 <;> congr 1 <;> omega
theorem ck_sums (d : List Int) : ck d = ((1 + d.sum) % 65521, ((d.length : Int) + accI 0 d) % 65521) := by
  have := ck_gen d 1 0
  rw [Int.mul_one, Int.zero_add] at this
  exact this
theorem sqT_same {H H' : Hp} {a : Addr} {xs : List V} (h : SqT K H a xs) (s : Same H H') : SqT K H' a xs := by
  rcases h with (h | ⟨o, h⟩) | h
  · exact .inl (.inl (s _ _ h))
  · exact .inl (.inr ⟨o, s _ _ h⟩)
  · exact .inr h
theorem sqL_same {H H' : Hp} {a : Addr} {xs : List V} (h : SqL K H a xs) (s : Same H H') : SqL K H' a xs := by
  rcases h with (h | ⟨o, h⟩) | h
  · exact .inl (.inl (s _ _ h))
  · exact .inl (.inr ⟨o, s _ _ h⟩)
  · exact .inr h
theorem w_gtupS {n : Nat} {t : TGs} {xs : List V} {Q : L2.St → Hp → Prop} (h : SqT K H a xs) (hn : xs.length = n) (q : t xs σ H Q) : gTup K n t (.ref a) σ H Q := ⟨a, xs, rfl, h, hn, q⟩
theorem sqT_ex {H H' : Hp} {a : Addr} {xs : List V} (h : SqT K H a xs) (s : ExtN H H') : SqT K H' a xs := by
  rcases h with (h | ⟨o, h⟩) | h
  · exact .inl (.inl (s _ _ h (fun ps e => by cases e)))
  · exact .inl (.inr ⟨o, s _ _ h (fun ps e => by cases e)⟩)
  · exact .inr h
theorem sqL_ex {H H' : Hp} {a : Addr} {xs : List V} (h : SqL K H a xs) (s : ExtN H H') : SqL K H' a xs := by
  rcases h with (h | ⟨o, h⟩) | h
  · exact .inl (.inl (s _ _ h (fun ps e => by cases e)))
  · exact .inl (.inr ⟨o, s _ _ h (fun ps e => by cases e)⟩)
  · exact .inr h
theorem lenR {xs : List Int} {f : Int → V} : (xs.map f).length = xs.length := List.length_map ..
theorem ints_shaped (ns : List Int) : SeqAt.shaped (.tuple (ns.map PyData.int)) = true := by
  have h1 : PyData.canLayAll0 (ns.map PyData.int) = true := by
    induction ns with
    | nil => rfl
    | cons n r ih => rw [List.map_cons, PyData.canLayAll0, ih]; rfl
  have h2 : PyData.depthAll (ns.map PyData.int) ≤ 1 := by
    induction ns with
    | nil => simp [PyData.depthAll]
    | cons n r ih =>
      have h3 := ih (by rw [List.map_cons, PyData.canLayAll0, Bool.and_eq_true] at h1; exact h1.2)
      simp only [List.map_cons, PyData.depthAll, PyData.depth]
      omega
  unfold SeqAt.shaped
  rw [Bool.and_eq_true]
  refine ⟨h1, decide_eq_true ?_⟩
  simp only [PyData.depth]
  omega
theorem ints_eqv : ∀ ns ms : List Int, PyData.eqvAll (ns.map PyData.int) (ms.map PyData.int) = decide (ns = ms)
  | [], [] => rfl
  | n :: r, [] => by simp [PyData.eqvAll]
  | [], m :: t => by simp [PyData.eqvAll]
  | n :: r, m :: t => by
    rw [List.map_cons, List.map_cons, PyData.eqvAll, ints_eqv r t, PyData.eqv]
    by_cases c : n = m <;> by_cases c2 : r = t <;> simp [c, c2]
theorem w_neInts (ha : SqT K H a (d.map V.int)) (hb : SqT K H b (e.map V.int)) (q : Q (.bl (!decide (d = e))) H) : rNeD K (.ref a) (.ref b) H Q :=
  ⟨_, _, .tup ha (dp_ints d), .tup hb (dp_ints e), ints_shaped d, ints_shaped e, by
    show Q (.bl (!PyData.eqvAll (d.map PyData.int) (e.map PyData.int))) H
    rw [ints_eqv]
    exact q⟩
theorem cut_mid (xs : List V) {i j : Nat} : cutV xs (some (i : Int)) (some (j : Int)) = (xs.drop i).take (j - i) := by
  unfold cutV
  rw [HT.sIx_nat, HT.sIx_nat]
  by_cases h : i ≤ xs.length
  · rw [Nat.min_eq_left h]
    by_cases h2 : j ≤ xs.length
    · rw [Nat.min_eq_left h2]
    · rw [Nat.min_eq_right (by omega), List.take_of_length_le (by rw [List.length_drop]; omega), List.take_of_length_le (by rw [List.length_drop]; omega)]
  · rw [Nat.min_eq_right (by omega : xs.length ≤ i), List.drop_eq_nil_of_le (Nat.le_refl _), List.drop_eq_nil_of_le (by omega), List.take_nil, List.take_nil]
theorem w_slMid {i j : Nat} (e : SqT K H a (d.map V.int)) (q : ∀ p H', Same H H' → SqT K H' p (((d.drop i).take (j - i)).map V.int) → Q (.ref p) H') : rSlA K (.ref a) (some (i : Int)) (some (j : Int)) H Q := by
  refine ⟨a, _, rfl, e, fun hw => ?_, fun _ p hp => ?_⟩
  · rw [HT.sIx_nat, HT.sIx_nat, List.length_map] at hw
    have : (d.drop i).take (j - i) = d := by
      by_cases c : d.length = 0
      · rw [List.eq_nil_of_length_eq_zero c]; simp
      · obtain rfl : i = 0 := by omega
        rw [List.drop_zero, List.take_of_length_le (by omega)]
    refine q a H (Same.refl H) ?_
    rw [this]
    exact e
  · refine q p _ (same_new hp _) (SqT.of ?_)
    rw [upd_same, cut_mid, List.map_take, List.map_drop]
def Tups (H : Hp) : List Addr → List (List Int) → Prop := Paired fun z p => H z = some (.tup (p.map V.int))
def TupsK (K : PySem.W.Frag) (H : Hp) : List Addr → List (List Int) → Prop := Paired fun z p => SqT K H z (p.map V.int)
theorem TupsK.sm {H H' : Hp} (s : Same H H') : ∀ {zs : List Addr} {ps : List (List Int)}, TupsK K H zs ps → TupsK K H' zs ps
  | _, _, .nil => .nil
  | _, _, .cons h r => .cons (sqT_same h s) (TupsK.sm s r)
/-- the object L alone is another list -/
theorem sqT_wr {H : Hp} {L a : Addr} {xs ys : List V} {o : HO} (h : SqT K H a xs) (hL : H L = some (.lst ys)) : SqT K (upd H L o) a xs := by
  rcases h with (h | ⟨u, h⟩) | h
  · exact .inl (.inl (by rw [upd_ne (fun z => by rw [z, hL] at h; cases h)]; exact h))
  · exact .inl (.inr ⟨u, by rw [upd_ne (fun z => by rw [z, hL] at h; cases h)]; exact h⟩)
  · exact .inr h
theorem TupsK.wr {H : Hp} {L : Addr} {ys : List V} {o : HO} (hL : H L = some (.lst ys)) : ∀ {zs : List Addr} {ps : List (List Int)}, TupsK K H zs ps → TupsK K (upd H L o) zs ps
  | _, _, .nil => .nil
  | _, _, .cons h r => .cons (sqT_wr h hL) (TupsK.wr hL r)
theorem map_get {α : Type} {f : α → V} {l : List α} {i : Nat} {x : V} (h : (l.map f)[i]? = some x) : ∃ b, l[i]? = some b ∧ x = f b := by
  rw [List.getElem?_map] at h
  cases e : l[i]? with
  | none => rw [e] at h; cases h
  | some b => rw [e] at h; exact ⟨b, rfl, (Option.some.inj h).symm⟩
theorem cut_drop {xs : List V} {n : Nat} : cutV xs (some (n : Int)) none = xs.drop n := by
  unfold cutV
  rw [HT.sIx_nat, HT.sIx_none]
  by_cases h : n ≤ xs.length
  · rw [Nat.min_eq_left h, List.take_of_length_le (by rw [List.length_drop]; omega)]
  · rw [Nat.min_eq_right (by omega), List.drop_eq_nil_of_le (Nat.le_refl _), List.drop_eq_nil_of_le (by omega)]
    exact List.take_nil
theorem w_slFrom {a : Addr} {d : List Int} {n : Nat} {H : Hp} {Q : VK} (e : SqT K H a (d.map V.int)) (q : ∀ p H', Same H H' → SqT K H' p ((d.drop n).map V.int) → Q (.ref p) H') : rSlA K (.ref a) (some (n : Int)) none H Q := by
  refine ⟨a, _, rfl, e, fun hw => ?_, fun _ p hp => ?_⟩
  · rw [HT.sIx_nat, List.length_map] at hw
    refine q a H (Same.refl H) ?_
    have : d.drop n = d := by
      by_cases c : d.length = 0
      · rw [List.eq_nil_of_length_eq_zero c]; simp
      · obtain rfl : n = 0 := by omega
        rfl
    rw [this]
    exact e
  · refine q p _ (same_new hp _) (SqT.of ?_)
    rw [upd_same, cut_drop, List.map_drop]
theorem tup_wr {H : Hp} {L a : Addr} {xs ys : List V} {o : HO} (h : H a = some (.tup xs)) (hL : H L = some (.lst ys)) : (upd H L o) a = some (.tup xs) := by
  rw [upd_ne (fun z => by rw [z, hL] at h; cases h)]
  exact h
theorem sum_eq (f s : Int) (hf : 0 ≤ f ∧ f < 65521) (hs : 0 ≤ s ∧ s < 65521) : fixedL (65536 * s + f) 4 = [(s * 65536 + f) / 16777216 % 256, (s * 65536 + f) / 65536 % 256, (s * 65536 + f) / 256 % 256, (s * 65536 + f) % 256] := by
  simp only [fixedL, List.nil_append, List.cons_append]
  congr 1
  · omega
  congr 1
  · omega
  congr 1
  · omega
  congr 1
  omega
theorem ck_take {d : List Int} {i : Nat} {b : Int} (h : d[i]? = some b) : ck (d.take (i + 1)) = ckStep (ck (d.take i)) b := by
  rw [List.take_add_one, h]
  simp [ck]
theorem ck_b (d : List Int) : (0 ≤ (ck d).1 ∧ (ck d).1 < 65521) ∧ 0 ≤ (ck d).2 ∧ (ck d).2 < 65521 := by
  rw [← List.reverse_reverse d]
  generalize d.reverse = e
  induction e with
  | nil => exact ⟨⟨by decide, by decide⟩, by decide, by decide⟩
  | cons b e ih =>
    rw [List.reverse_cons]
    have : ck (e.reverse ++ [b]) = ckStep (ck e.reverse) b := by simp [ck]
    rw [this]
    simp only [ckStep]
    omega
theorem len4 (n : Nat) (h : n ≤ 900) : fixedL (n : Int) 4 = [(n : Int) / 16777216, (n : Int) / 65536 % 256, (n : Int) / 256 % 256, (n : Int) % 256] := by
  simp only [fixedL, List.nil_append, List.cons_append]
  have h1 : (n : Int) / 256 / 256 / 256 % 256 = (n : Int) / 16777216 := by omega
  have h2 : (n : Int) / 256 / 256 % 256 = (n : Int) / 65536 % 256 := by omega
  rw [h1, h2]
theorem w_catInts {a b : Addr} {d e : List Int} {H : Hp} {Q : VK} (ha : SqT K H a (d.map V.int)) (hb : SqT K H b (e.map V.int)) (hl : d.length + e.length ≤ 2000) (q : ∀ p H', Same H H' → SqT K H' p ((d ++ e).map V.int) → Q (.ref p) H') : rCatA K (.ref a) (.ref b) H Q := by
  refine ⟨a, b, _, _, rfl, rfl, ha, hb, ?_, fun z => ?_, fun _ z => ?_, fun _ _ p hp => ?_⟩
  · rw [List.length_map, List.length_map]
    exact Nat.le_trans hl (by decide)
  · have := List.map_eq_nil_iff.mp z
    subst this
    exact q b H (Same.refl H) hb
  · have := List.map_eq_nil_iff.mp z
    subst this
    rw [List.append_nil] at q
    exact q a H (Same.refl H) ha
  · exact q p _ (same_new hp _) (SqT.of (by rw [upd_same, List.map_append]))
/-- a tuple of ints, new or not -/
def GivesS (K : PySem.W.Frag) (H : Hp) (Q : VK) (d : List Int) : Prop := ∀ p H', Same H H' → SqT K H' p (d.map V.int) → Q (.ref p) H'
def spSum (K : PySem.W.Frag) : Sp := fun vs H Q _ => ∃ (a : Addr) (d : List Int), vs = [.ref a] ∧ SqT K H a (d.map V.int) ∧ GivesT H Q (sum4 d)
theorem w_break {D : Ends} {σ : L2.St} {H : Hp} (h : D.bk σ H) : tBreak D σ H := h
theorem sums_eq (f s : Int) (hf : 0 ≤ f ∧ f < 65521) (hs : 0 ≤ s ∧ s < 65521) : fixedL (65536 * s + f) 4 = [s / 256, s % 256, f / 256, f % 256] := by
  simp only [fixedL, List.nil_append, List.cons_append]
  have h1 : (65536 * s + f) / 256 / 256 / 256 % 256 = s / 256 := by omega
  have h2 : (65536 * s + f) / 256 / 256 % 256 = s % 256 := by omega
  have h3 : (65536 * s + f) / 256 % 256 = f / 256 := by omega
  have h4 : (65536 * s + f) % 256 = f % 256 := by omega
  rw [h1, h2, h3, h4]
theorem w_par3 {i j l : Nat} {ta : TA} {D : Ends} {σ : L2.St} {H : Hp} (h : ta σ H fun vs H1 => ∃ u v w, vs = [u, v, w] ∧ D.nx (((σ.set i (some u)).set j (some v)).set l (some w)) H1) : tPar3 i j l ta D σ H := h
theorem w_ixZ {a : Addr} {d : List Int} {i : Nat} {b z : Int} {H : Hp} {Q : VK} (hS : SqT K H a (d.map V.int)) (hz : z = (i : Int)) (h : d[i]? = some b) (q : Q (.int b) H) : rIxT K (.ref a) (.int z) H Q := by
  subst hz
  exact w_ixT hS h q
theorem w_slZ {a : Addr} {d : List Int} {i j : Nat} {x y : Int} {H : Hp} {Q : VK} (e : SqT K H a (d.map V.int)) (hx : x = (i : Int)) (hy : y = (j : Int)) (q : ∀ p H', Same H H' → SqT K H' p (((d.drop i).take (j - i)).map V.int) → Q (.ref p) H') : rSlA K (.ref a) (some x) (some y) H Q := by
  subst hx hy
  exact w_slMid e q
theorem w_eqInts {a b : Addr} {d e : List Int} {H : Hp} {Q : VK} (ha : SqT K H a (d.map V.int)) (hb : SqT K H b (e.map V.int)) (q : Q (.bl (decide (d = e))) H) : rEqD K (.ref a) (.ref b) H Q :=
  ⟨_, _, .tup ha (dp_ints d), .tup hb (dp_ints e), ints_shaped d, ints_shaped e, by
    show Q (.bl (PyData.eqvAll (d.map PyData.int) (e.map PyData.int))) H
    rw [ints_eqv]
    exact q⟩
theorem w_catL {a b : Addr} {xs ys : List V} {H : Hp} {Q : VK} (ha : H a = some (.lst xs)) (hb : H b = some (.lst ys)) (hl : xs.length + ys.length ≤ 2000) (q : ∀ p, H p = none → Q (.ref p) (upd H p (.lst (xs ++ ys)))) : rCat (.ref a) (.ref b) H Q :=
  ⟨a, b, xs, ys, rfl, rfl, ha, hb, Nat.le_trans hl (by decide), q⟩
theorem in12 (b : Int) : inV (.int b) [.int 1, .int 2] = decide (b = 1 ∨ b = 2) := by
  by_cases c3 : b = 1
  · subst c3; rfl
  · by_cases c4 : b = 2
    · subst c4; rfl
    · rw [decide_eq_false (by omega)]
      show ((1 == b) || ((2 == b) || false)) = false
      rw [beq_eq_false_iff_ne.mpr (fun z => c3 z.symm), beq_eq_false_iff_ne.mpr (fun z => c4 z.symm)]
      rfl
/-- all objects but lists are kept -/
def Tk (H H' : Hp) : Prop := ∀ b u, H b = some u → (∀ zs, u ≠ .lst zs) → H' b = some u
theorem Tk.of {H H' : Hp} (s : Same H H') : Tk H H' := fun b u e _ => s b u e
theorem Tk.kp {d : Addr} {H H' : Hp} (k : Kp d H H') (h : Dice H d) : Tk H H' := fun b u e n => k b u (fun z => by
  obtain ⟨x, y, z', q⟩ := h
  rw [z, q] at e
  cases e
  exact n _ rfl) e
theorem Tk.wr {L : Addr} {H : Hp} {zs : List V} {o : HO} (h : H L = some (.lst zs)) : Tk H (upd H L o) := fun b u e n => by
  rw [upd_ne (fun z => by rw [z, h] at e; cases e; exact n _ rfl)]
  exact e
theorem Tk.trans {H H1 H2 : Hp} (a : Tk H H1) (b : Tk H1 H2) : Tk H H2 := fun c u e n => b c u (a c u e n) n
theorem sqT_tk {K : PySem.W.Frag} {H H' : Hp} {a : Addr} {xs : List V} (h : SqT K H a xs) (s : Tk H H') : SqT K H' a xs := by
  rcases h with (h | ⟨o, h⟩) | h
  · exact .inl (.inl (s _ _ h (fun zs e => by cases e)))
  · exact .inl (.inr ⟨o, s _ _ h (fun zs e => by cases e)⟩)
  · exact .inr h
theorem tup_tk {H H' : Hp} {a : Addr} {xs : List V} (h : H a = some (.tup xs)) (s : Tk H H') : H' a = some (.tup xs) := s _ _ h (fun zs e => by cases e)
theorem Kp.wr {d L : Addr} {H0 Hc : Hp} {o : HO} (k : Kp d H0 Hc) (h : H0 L = none) : Kp d H0 (upd Hc L o) := fun b u n e => by
  rw [upd_ne (ne_of_none e h)]
  exact k b u n e
theorem Dice.wr {d L : Addr} {Hc : Hp} {o : HO} (k : Dice Hc d) (h : L ≠ d) : Dice (upd Hc L o) d := by
  obtain ⟨a, b, c, e⟩ := k
  exact ⟨a, b, c, by rw [upd_ne h.symm]; exact e⟩
theorem Dice.sm {H H' : Hp} {d : Addr} (h : Dice H d) (s : Same H H') : Dice H' d := by
  obtain ⟨a, b, c, e⟩ := h
  exact ⟨a, b, c, s _ _ e⟩
theorem all_lay {ds : List PyData} (h : ∀ d ∈ ds, d.canLay0 = true) : PyData.canLayAll0 ds = true := by
  induction ds with
  | nil => rfl
  | cons d r ih => rw [PyData.canLayAll0, h d List.mem_cons_self, ih fun x hx => h x (List.mem_cons_of_mem _ hx)]; rfl
theorem all_depth {ds : List PyData} {k : Nat} (h : ∀ d ∈ ds, d.depth ≤ k) : PyData.depthAll ds ≤ k := by
  induction ds with
  | nil => simp [PyData.depthAll]
  | cons d r ih =>
    have h1 := h d List.mem_cons_self
    have h2 := ih fun x hx => h x (List.mem_cons_of_mem _ hx)
    rw [PyData.depthAll]
    omega
theorem all_eqv {ds : List PyData} (h : ∀ d ∈ ds, PyData.eqv d d = true) : PyData.eqvAll ds ds = true := by
  induction ds with
  | nil => rfl
  | cons d r ih => rw [PyData.eqvAll, h d List.mem_cons_self, ih fun x hx => h x (List.mem_cons_of_mem _ hx)]; rfl
/-- what may be compared with itself -/
def Fine (k : Nat) (d : PyData) : Prop := d.canLay0 = true ∧ d.depth ≤ k ∧ PyData.eqv d d = true
theorem Fine.int (n : Int) : Fine 0 (.int n) := ⟨rfl, by simp [PyData.depth], by simp [PyData.eqv]⟩
theorem Fine.le {j k : Nat} {d : PyData} (h : Fine j d) (hk : j ≤ k) : Fine k d := ⟨h.1, Nat.le_trans h.2.1 hk, h.2.2⟩
theorem Fine.tup {k : Nat} {ds : List PyData} (h : ∀ d ∈ ds, Fine k d) : Fine (k + 1) (.tuple ds) := by
  refine ⟨all_lay fun d hd => (h d hd).1, ?_, all_eqv fun d hd => (h d hd).2.2⟩
  have := all_depth fun d hd => (h d hd).2.1
  rw [PyData.depth]
  omega
theorem Fine.lst {k : Nat} {ds : List PyData} (h : ∀ d ∈ ds, Fine k d) : Fine (k + 1) (.list ds) := by
  refine ⟨all_lay fun d hd => (h d hd).1, ?_, all_eqv fun d hd => (h d hd).2.2⟩
  have := all_depth fun d hd => (h d hd).2.1
  rw [PyData.depth]
  omega
theorem Fine.shaped {k : Nat} {d : PyData} (h : Fine k d) (hk : k ≤ 64) : SeqAt.shaped d = true := by
  unfold SeqAt.shaped
  rw [Bool.and_eq_true]
  exact ⟨h.1, decide_eq_true (Nat.le_trans h.2.1 hk)⟩
theorem fine_ints (ns : List Int) : Fine 1 (.tuple (ns.map PyData.int)) := Fine.tup fun d hd => by
  obtain ⟨n, _, rfl⟩ := List.mem_map.mp hd
  exact Fine.int n
theorem byt_app {a b : List Int} (ha : Byt a) (hb : Byt b) : Byt (a ++ b) := fun x hx => (List.mem_append.mp hx).elim (ha x) (hb x)
theorem byt_take {a : List Int} (h : Byt a) (k : Nat) : Byt (a.take k) := fun b hb => h b (List.mem_of_mem_take hb)
theorem byt_cons {x : Int} {a : List Int} (hx : 0 ≤ x ∧ x < 256) (ha : Byt a) : Byt (x :: a) := fun b hb => by
  rcases List.mem_cons.mp hb with rfl | hb
  · exact hx
  · exact ha b hb
theorem flat_byt {α : Type} {f : α → List Int} : ∀ {l : List α}, (∀ x ∈ l, Byt (f x)) → Byt (l.flatMap f)
  | [], _ => fun b hb => by cases hb
  | x :: r, h => by
    rw [List.flatMap_cons]
    exact byt_app (h x List.mem_cons_self) (flat_byt fun y hy => h y (List.mem_cons_of_mem _ hy))
theorem w_iEnum {R : It → Hp → Prop} (h : ta σ H fun vs H1 => ∃ a xs, vs = [.ref a] ∧ SqL K H1 a xs ∧ R (Ite K a) H1) : iEnum K ta σ H R := h
/-- a comprehension over enumerate of a list -/
theorem w_lcEn {p : Addr} {xs : List V} {R : Addr → Hp → Prop} (hS : SqL K H p xs) (h : ∀ D, H D = none → ∃ Pv : Nat → Hp → Prop, Pv 0 (upd H D (.lst [])) ∧ (∀ i H2, i ≤ xs.length → Pv i H2 → SqL K H2 p xs) ∧
      (∀ (i : Nat) x T H2, xs[i]? = some x → Pv i H2 → H2 T = none → g (.ref T) (wipe σ vs) (upd H2 T (.tup [.int (i : Nat), x])) fun σ2 H2 => wipe σ2 vs = wipe σ vs ∧ tt σ2 H2 fun b H3 =>
        if b = true then te σ2 H3 fun y H4 => ∃ acc, H4 D = some (.lst acc) ∧ acc.length < sizeLine ∧ Pv (i + 1) (upd H4 D (.lst (acc ++ [y]))) else Pv (i + 1) H3) ∧ (∀ H2, Pv xs.length H2 → R D H2)) :
    ∃ a ys, [V.ref p] = [V.ref a] ∧ SqL K H a ys ∧ ∀ D, H D = none → ∃ W : Nat → Nat → Hp → Prop, (∃ m, W 0 m (upd H D (.lst []))) ∧ ∀ i m H, W i m H →
      ((Ite K a).stop i H ∧ R D H) ∨ ((Ite K a).go i H ∧ ∃ Nx : Hp → Prop, (∀ H', Nx H' → ∃ m', m' < m ∧ W (i + 1) m' H') ∧ ∀ x H', (Ite K a).yld i H x H' → g x (wipe σ vs) H' fun σ2 H2 => wipe σ2 vs = wipe σ vs ∧ tt σ2 H2 fun b H3 =>
        if b = true then te σ2 H3 fun y H4 => ∃ acc, H4 D = some (.lst acc) ∧ acc.length < sizeLine ∧ Nx (upd H4 D (.lst (acc ++ [y]))) else Nx H3) := by
  refine ⟨p, xs, rfl, hS, fun D hD => ?_⟩
  obtain ⟨Pv, h0, hl, hs, hd⟩ := h D hD
  refine ⟨fun i m H => m + i = xs.length ∧ Pv i H, ⟨xs.length, rfl, h0⟩, ?_⟩
  rintro i m H2 ⟨hm, p2⟩
  have q := hl i H2 (by omega) p2
  by_cases h1 : i < xs.length
  · refine .inr ⟨⟨xs, xs[i], q, List.getElem?_eq_getElem h1⟩, Pv (i + 1), fun H' p' => ⟨m - 1, by omega, by omega, p'⟩, ?_⟩
    rintro v H' ⟨T, x, rfl, hT, rfl, hx⟩
    exact hs i x T H2 (hx xs q) p2 hT
  · obtain rfl : i = xs.length := by omega
    exact .inl ⟨⟨xs, q, Nat.le_refl _⟩, hd H2 p2⟩
theorem cut_to10 (xs : List V) (n : Nat) : cutV xs none (some (n : Int)) = xs.take n := by
  unfold cutV
  rw [HT.sIx_nat, HT.sIx_none, List.drop_zero, Nat.sub_zero]
  by_cases h : n ≤ xs.length
  · rw [Nat.min_eq_left h]
  · rw [Nat.min_eq_right (by omega), List.take_length, List.take_of_length_le (by omega)]
theorem w_slTo {a : Addr} {d : List Int} {n : Nat} {H : Hp} {Q : VK} (e : SqT K H a (d.map V.int)) (q : ∀ p H', Same H H' → SqT K H' p ((d.take n).map V.int) → Q (.ref p) H') : rSlA K (.ref a) none (some (n : Int)) H Q := by
  refine ⟨a, _, rfl, e, fun hw => ?_, fun _ p hp => ?_⟩
  · rw [HT.sIx_nat, List.length_map] at hw
    have : d.take n = d := List.take_of_length_le (by omega)
    refine q a H (Same.refl H) ?_
    rw [this]
    exact e
  · refine q p _ (same_new hp _) (SqT.of ?_)
    rw [upd_same, cut_to10, List.map_take]
theorem Fine.str {x : Str} (h : PyData.strOk x = true) : Fine 0 (.str x) := ⟨by rw [PyData.canLay0]; exact h, by simp [PyData.depth], by simp [PyData.eqv]⟩
/-- two tuples of the same data -/
theorem w_neSame {a b : Addr} {xs ys : List V} {ds : List PyData} {k : Nat} (ha : SqT K H a xs) (hb : SqT K H b ys) (h1 : DpAll K H xs ds) (h2 : DpAll K H ys ds) (f : Fine k (.tuple ds)) (hk : k ≤ 64) (q : Q (.bl false) H) : rNeD K (.ref a) (.ref b) H Q :=
  ⟨_, _, .tup ha h1, .tup hb h2, f.shaped hk, f.shaped hk, by
    rw [f.2.2]
    exact q⟩
theorem w_eqSame {a b : Addr} {xs ys : List V} {ds : List PyData} {k : Nat} (ha : SqT K H a xs) (hb : SqT K H b ys) (h1 : DpAll K H xs ds) (h2 : DpAll K H ys ds) (f : Fine k (.tuple ds)) (hk : k ≤ 64) (q : Q (.bl true) H) : rEqD K (.ref a) (.ref b) H Q :=
  ⟨_, _, .tup ha h1, .tup hb h2, f.shaped hk, f.shaped hk, by
    rw [f.2.2]
    exact q⟩
theorem fine_pair {x : Str} {n : Int} (h : PyData.strOk x = true) : Fine 1 (.tuple [.str x, .int n]) := Fine.tup fun d hd => by
  rcases List.mem_cons.mp hd with rfl | hd
  · exact Fine.str h
  · rw [List.mem_singleton.mp hd]; exact Fine.int n
theorem passLam {A : Around} {outer : List Env} {s : Shared} {H : Hp} {E : XK} {scope : Scope} {f c' : Addr} : Passes (L2.CX (lamCx X A outer s H E scope f c').prog (lamCx X A outer s H E scope f c').w) (lamCx X A outer s H E scope f c') E := passes_call (takes_of rfl rfl rfl rfl) fun _ _ _ _ h => h
theorem op_neDK (K0 : PySem.W.Frag) (hK : X.K = K0) (hu : X.A.units + 64 < cLine) : OpR X (compareOp .NotEq) (rNeD K0) := by
  subst hK
  exact op_neD hu
theorem op_eqDK (K0 : PySem.W.Frag) (hK : X.K = K0) (hu : X.A.units + 64 < cLine) : OpR X (compareOp .Eq) (rEqD K0) := by
  subst hK
  exact op_eqD hu
theorem tabs_kp {T : List (Addr × Str)} {H H' : Hp} {d : Addr} (t : Tabs T H) (k : Kp d H H') (hd : Dice H d) : Tabs T H' := fun p hp => by
  obtain ⟨ps, h1, h2, h3⟩ := t p hp
  obtain ⟨x, y, z, e⟩ := hd
  refine ⟨ps, k _ _ (fun n => by rw [n, e] at h1; cases h1) h1, h2, fun pos cv hc => ?_⟩
  obtain ⟨c, e1, e2⟩ := h3 pos cv hc
  refine ⟨c, e1, k _ _ (fun n => ?_) e2⟩
  rw [n, e] at e2
  unfold CodeO at e2
  cases e2
theorem ne_dice {H : Hp} {L d : Addr} (h : H L = none) (k : Dice H d) : L ≠ d := fun z => by
  obtain ⟨a, b, c, e⟩ := k
  rw [z, e] at h
  cases h
theorem free_kp {d p : Addr} {H0 Hc : Hp} (k : Kp d H0 Hc) (hd : Dice Hc d) (hp : Hc p = none) : H0 p = none := (newl (o := .lst []) k hd hp rfl).2.2.2.2.1
theorem w_ifRest {c : TT} {a b : TS} {D : Ends} {σ : L2.St} {H : Hp} (I : L2.St → Hp → Prop) (h1 : ∀ N : L2.St → Hp → Prop, (∀ σ' H', I σ' H' → N σ' H') → tIfS c a b { D with nx := N } σ H) (h2 : ∀ σ' H', I σ' H' → D.nx σ' H') : tIfS c a b D σ H := h1 D.nx h2
theorem lst_kp {H H' : Hp} {L d : Addr} {o : HO} (k : Kp d H H') (h : H L = some o) (n : L ≠ d) : H' L = some o := k _ _ n h
theorem ext_lst {H H' : Hp} {L : Addr} {xs : List V} (x : ExtN H H') (h : H L = some (.lst xs)) : H' L = some (.lst xs) := x _ _ h fun q z => by cases z
theorem ext_tup {H H' : Hp} {L : Addr} {xs : List V} (x : ExtN H H') (h : H L = some (.tup xs)) : H' L = some (.tup xs) := x _ _ h fun q z => by cases z
theorem Tups.sm {H H' : Hp} (s : Same H H') : ∀ {zs : List Addr} {ps : List (List Int)}, Tups H zs ps → Tups H' zs ps
  | _, _, .nil => .nil
  | _, _, .cons h r => .cons (s _ _ h) (Tups.sm s r)
theorem Tups.ex {H H' : Hp} (s : ExtN H H') : ∀ {zs : List Addr} {ps : List (List Int)}, Tups H zs ps → Tups H' zs ps
  | _, _, .nil => .nil
  | _, _, .cons h r => .cons (ext_tup s h) (Tups.ex s r)
theorem w_lamT {cLF : Addr} {ret : Str} {tl : XK → Hp → VK → Prop} {H : Hp} {Q : VK} (h : tl (fun cls _ H' => ∃ b, PySem.W.exmOne K cls (.ref cLF) = some b ∧ (b = true → Q (.str ret) H') ∧ (b = false → False)) H Q) : TTold K cLF ret tl H Q := h
theorem sIx_neg {n k : Nat} {z : Int} (hz : z = -(k : Int)) (h0 : 0 < k) (h : k ≤ n) (d0 : Nat) : HT.sIx n d0 (some z) = n - k := by
  show (if z < 0 then (z + (n : Int)).toNat else min z.toNat n) = n - k
  rw [if_pos (by omega)]
  omega
theorem w_slToN {n : Nat} {z : Int} (hz : z = -(n : Int)) (h0 : 0 < n) (hn : n ≤ d.length) (e : SqT K H a (d.map V.int)) (q : ∀ p H', Same H H' → SqT K H' p ((d.take (d.length - n)).map V.int) → Q (.ref p) H') : rSlA K (.ref a) none (some z) H Q := by
  have hl : n ≤ (d.map V.int).length := by rw [List.length_map]; exact hn
  refine ⟨a, _, rfl, e, fun hw => ?_, fun _ p hp => ?_⟩
  · rw [sIx_neg hz h0 hl, List.length_map] at hw
    omega
  · refine q p _ (same_new hp _) (SqT.of ?_)
    rw [upd_same]
    unfold cutV
    rw [sIx_neg hz h0 hl, HT.sIx_none, List.drop_zero, Nat.sub_zero, List.map_take, List.length_map]
theorem w_slFromN {n : Nat} {z : Int} (hz : z = -(n : Int)) (h0 : 0 < n) (hn : n ≤ d.length) (e : SqT K H a (d.map V.int)) (q : ∀ p H', Same H H' → SqT K H' p ((d.drop (d.length - n)).map V.int) → Q (.ref p) H') : rSlA K (.ref a) (some z) none H Q := by
  have hl : n ≤ (d.map V.int).length := by rw [List.length_map]; exact hn
  refine ⟨a, _, rfl, e, fun hw => ?_, fun _ p hp => ?_⟩
  · rw [sIx_neg hz h0 hl, List.length_map] at hw
    have : d.drop (d.length - n) = d := by rw [show d.length - n = 0 by omega]; rfl
    refine q a H (Same.refl H) ?_
    rw [this]
    exact e
  · refine q p _ (same_new hp _) (SqT.of ?_)
    rw [upd_same]
    unfold cutV
    rw [sIx_neg hz h0 hl, HT.sIx_none, List.map_drop, List.length_map, List.take_of_length_le (by rw [List.length_drop, List.length_map]; omega)]
theorem tup_once (l : Addr) (items : Array Value) (n : Nat) (dd : Option Addr) (sl : Array (Option Value)) (u : Tok) :
    Meets (Builtin.«tuple.__mul__» ⟨[.ref l, .int 1 u], []⟩) (fun _ R s => s.heap.get? l = some { cls := .type "tuple", dict := dd, data := .seq items n, slots := sl } ∧ R (.ok (.ret (.ref l))) s) :=
  .of_wp fun prog w A R s h => by
    obtain ⟨hp, g, d, tk, os⟩ := s
    obtain ⟨hl, h⟩ := h
    have f1 := AutoSeq1.idx_int
    wp_walk using wpAny_loadPart' hl
    exact ⟨_, rfl, h⟩
theorem rep_one {α : Type} (x : α) (n : Nat) : (List.replicate n [x]).flatten = List.replicate n x := by
  induction n with
  | zero => rfl
  | succ n ih => rw [List.replicate_succ, List.flatten_cons, ih, List.replicate_succ]; rfl
/-- t * k, for k from 1 on: once is t itself -/
def rRepA (K : PySem.W.Frag) : R2 := fun x y H Q => ∃ l k xs, x = .ref l ∧ y = .int k ∧ SqT K H l xs ∧ xs ≠ [] ∧ 1 ≤ k ∧ k ≤ 1000 ∧ xs.length ≤ 1000 ∧ (k = 1 → Q (.ref l) H) ∧ (2 ≤ k → ∀ p, H p = none → Q (.ref p) (upd H p (.tup (List.replicate k.toNat xs).flatten)))
theorem op_repA : OpR X (binaryOp .Mult) (rRepA X.K) := by
  intro pins s σ H x y v u Q I rx ry h
  obtain ⟨l, k, xs, rfl, rfl, hT, hne, h1, h2, hz, q1, q2⟩ := h
  by_cases c : 2 ≤ k
  · exact op_repT pins s σ H _ _ v u Q I rx ry ⟨l, k, xs, rfl, rfl, hT, hne, c, h2, hz, q2 c⟩
  obtain rfl : k = 1 := by omega
  cases rx
  obtain ⟨t, rfl⟩ := ry
  obtain ⟨its, r, ⟨⟨cls, dd, data, sl⟩, ho, hc, n, hd⟩, hs⟩ := I.tuple hT
  simp only at hc hd
  subst hc hd
  refine wpAny_binaryOp_repeat_ref (T := "tuple") (U := "int") (by decide) ⟨_, ho, rfl⟩ (fun s' => typeIs_int s' 1 t) noFill_tuple_mul F.fills_int_mul F.slot_int_rmul repeat_tuple F.slot_int_index.lookup
    (call_meets F.slot_int_rmul (typeIs_int s 1 t) F.entry_int_rmul (F.args_int_rmul_2 _ _) (int_rmul_tuple 1 t l its.toArray n dd sl)
      ⟨ho, rfl, ⟨_, ho, rfl⟩, call_meets F.slot_tuple_mul ⟨_, ho, rfl⟩ F.entry_tuple_mul (F.args_tuple_mul_2 _ _) (tup_once l its.toArray n dd sl t) ⟨ho, ?_⟩⟩)
  exact ⟨.ref l, H, I, rfl, q1 rfl⟩
theorem op_repAK (K : PySem.W.Frag) (h : X.K = K) : OpR X (binaryOp .Mult) (rRepA K) := by subst h; exact op_repA
theorem w_repInts {z k : Int} (ha : SqT K H a [.int z]) (h1 : 1 ≤ k) (h2 : k ≤ 1000) (q : ∀ p H', Same H H' → SqT K H' p ((List.replicate k.toNat z).map V.int) → Q (.ref p) H') : rRepA K (.ref a) (.int k) H Q := by
  refine ⟨a, k, _, rfl, rfl, ha, List.cons_ne_nil _ _, h1, h2, (by show 1 ≤ 1000; decide), fun z => ?_, fun _ p hp => ?_⟩
  · subst z
    exact q a H (fun _ _ h => h) ha
  · refine q p _ (same_new hp _) (SqT.of ?_)
    rw [upd_same, rep_one, List.map_replicate]
theorem w_rU {f : Int → V} {i : Int} (q : Q (f i) H) : rU f (.int i) H Q := ⟨i, rfl, q⟩
theorem w_slToZ {n : Nat} {z : Int} (hz : z = (n : Int)) (e : SqT K H a (d.map V.int)) (q : ∀ p H', Same H H' → SqT K H' p ((d.take n).map V.int) → Q (.ref p) H') : rSlA K (.ref a) none (some z) H Q := by
  subst hz
  exact w_slTo e q
theorem w_slFromZ {n : Nat} {z : Int} (hz : z = (n : Int)) (e : SqT K H a (d.map V.int)) (q : ∀ p H', Same H H' → SqT K H' p ((d.drop n).map V.int) → Q (.ref p) H') : rSlA K (.ref a) (some z) none H Q := by
  subst hz
  exact w_slFrom e q
def spCk2 (K : PySem.W.Frag) : Sp := fun vs H Q _ => ∃ (a : Addr) (d : List Int), vs = [.ref a] ∧ (SqL K H a (d.map V.int) ∨ SqT K H a (d.map V.int)) ∧ GivesT H Q (sum4 d)
end
end Gk
end

section
-- part Fll
set_option Elab.async false
set_option linter.all false
set_option maxRecDepth 100000
set_option maxHeartbeats 2000000
/-! Fll: lambdas as values: made, held in a list, handed to a def that calls them -/
namespace LmV
open PySem PySem.Spec PyProof.Rows L2 LamX
structure LamK where
  params : Arguments
  body : Expr
  scope : Scope
  q : Str
  cl : List (Str × Addr)
  c : Addr
/-- at f: such a lambda -/
def LamO (f : Addr) (m : LamK) : HO := .ext fun h => ∃ pm ctv : Value, h.get? f = some (PySem.W.kla_obj "<lambda>" m.q m.params m.body m.scope m.cl pm m.c ctv)
theorem lamO_ne {f : Addr} {m : LamK} (ps : Array Value) : LamO f m ≠ .tbl ps := fun z => by
  unfold LamO at z
  cases z
section
variable {X : Cx} {pins : List (Addr × Obj)} {σ : L2.St} {H : Hp} {s : Shared}
theorem inv_lam {m : LamK} {t' : Nat} {pm ctv : Value} (I : Inv X pins σ H s) : Inv X pins σ (upd H s.heap.objs.size (LamO s.heap.objs.size m)) { s with heap := s.heap.push (PySem.W.kla_obj "<lambda>" m.q m.params m.body m.scope m.cl pm m.c ctv), toks := t' } := by
  refine I.laid (a := s.heap.objs.size) (fun b u e => Heap.get?_push_of_some _ e) (Nat.le_refl _) ?_
  have e : (s.heap.push (PySem.W.kla_obj "<lambda>" m.q m.params m.body m.scope m.cl pm m.c ctv)).get? s.heap.objs.size = some (PySem.W.kla_obj "<lambda>" m.q m.params m.body m.scope m.cl pm m.c ctv) := Heap.get?_push_size _ rfl
  exact ⟨⟨pm, ctv, e⟩, ⟨_, e⟩, fun h1 h2 ⟨p, t, z⟩ st => ⟨p, t, st _ z⟩⟩
/-- the lambda is made, and known from now on -/
theorem lam_make3 {T : List (Addr × Str)} {c P : Addr} {params : Arguments} {body : Expr} {scope : Scope} {pos : Pos} {E : Value → Shared → Prop} {Q : Value → Shared → Prop} (I : Inv X pins σ H s) (TB : TabB X.base X.mg c P) (hcode : X.env.code = .ref c)
    (hm : (P, X.env.qual ++ "<lambda>") ∈ T) (hu : ∀ p ∈ T, p.1 = P → p.2 = X.env.qual ++ "<lambda>") (hT : Tabs T H) (hdef : defaultsOf params X.env = ([], [])) (hfree : ∀ y ∈ scope.names, y.2 = .free → ∃ c, X.env.cells.lookup y.1 = some c)
    (h : ∀ (f c' : Addr) (H1 : Hp) (z : Shared), Inv X pins σ H1 z → ExtN H H1 → Tabs T H1 → H f = none → H1 f = some (LamO f ⟨params, body, scope, X.env.qual ++ "<lambda>", cloFrom X.env.cells scope.names [], c'⟩) → H1 c' = some (CodeO c' (X.env.qual ++ "<lambda>")) → Q (.ref f) z) :
    wpAny (model X.prog X.w) X.A (eval (.Lambda params body scope pos) X.env) Q E s := by
  obtain ⟨ps, hP, htr, hnm⟩ := hT _ hm
  refine PySem.W.kla_eval hdef ?_
  have hPs : s.heap.get? P = some { cls := .none, data := .fields ps } := I.hok P _ hP
  have bP : s.heap.BuiltinsAt X.mg P := TB.bm.keeps I.bk
  cases hc : codeAmong pos ps.toList with
  | none =>
    refine PySem.W.kla_makeFunction (mg := X.mg) (c := c) (P := P) (ps := ps) (closure_ok hfree) I.ok.glob (I.mod.glob.keeps I.bk) hcode (TB.code.keeps I.bk) hPs htr hc TB.gP bP fun c' ctv h' tk hx hge hlt hrec htb => ?_
    obtain ⟨c2, oc, vs, t, e2, hoc, hd, hv⟩ := hrec
    cases e2
    have nC : H c' = none := I.hok.fresh hge
    have I1 := inv_table (t' := tk) (more := #[rawInt pos.line, rawInt pos.col, .ref c']) (h' := h') I hP (fun b o hb e => hx b o hb e) htb hge ⟨oc, vs, t, hoc, hd, hv⟩
    have hE : ExtN H (upd (upd H P (.tbl (ps ++ #[rawInt pos.line, rawInt pos.col, .ref c']))) c' (CodeO c' (X.env.qual ++ "<lambda>"))) := fun b u e n => by
      rw [upd_ne (ne_of_none e nC), upd_ne (fun z => n ps (Option.some.inj (e.symm.trans (by rw [z]; exact hP))))]
      exact e
    have eL : (ps ++ #[rawInt pos.line, rawInt pos.col, .ref c']).toList = ps.toList ++ [rawInt pos.line, rawInt pos.col, .ref c'] := by simp
    have T1 : Tabs T (upd (upd H P (.tbl (ps ++ #[rawInt pos.line, rawInt pos.col, .ref c']))) c' (CodeO c' (X.env.qual ++ "<lambda>"))) := fun p hp => by
      by_cases hb : p.1 = P
      · rw [hu p hp hb, hb]
        refine ⟨_, by rw [upd_ne (ne_of_none hP nC), upd_same], by rw [eL]; exact PySem.TriplesOk_snoc _ _ _ _ htr, fun p' cv hcv => ?_⟩
        rw [eL] at hcv
        rcases among_app _ htr hcv with z | z
        · obtain ⟨c0, e1, e2⟩ := hnm p' cv z
          exact ⟨c0, e1, hE _ _ e2 codeO_ne⟩
        · exact ⟨c', z, upd_same⟩
      · obtain ⟨ps', a1, a2, a3⟩ := hT p hp
        refine ⟨ps', by rw [upd_ne (ne_of_none a1 nC), upd_ne hb]; exact a1, a2, fun p' cv hcv => ?_⟩
        obtain ⟨c0, e1, e2⟩ := a3 p' cv hcv
        exact ⟨c0, e1, hE _ _ e2 codeO_ne⟩
    have eC : upd (upd H P (.tbl (ps ++ #[rawInt pos.line, rawInt pos.col, .ref c']))) c' (CodeO c' (X.env.qual ++ "<lambda>")) c' = some (CodeO c' (X.env.qual ++ "<lambda>")) := upd_same
    generalize upd (upd H P (.tbl (ps ++ #[rawInt pos.line, rawInt pos.col, .ref c']))) c' (CodeO c' (X.env.qual ++ "<lambda>")) = HA at I1 hE T1 eC
    have nF : HA h'.objs.size = none := I1.hok.fresh (Nat.le_refl _)
    have I2 := inv_lam (m := ⟨params, body, scope, X.env.qual ++ "<lambda>", cloFrom X.env.cells scope.names [], c'⟩) (t' := tk) (pm := (X.mg "__name__").getD .none) (ctv := ctv) I1
    exact h h'.objs.size c' _ _ I2 (fun b o e n => (upd_ne (ne_of_none (hE b o e n) nF)).trans (hE b o e n)) (T1.ext fun b o e => (upd_ne (ne_of_none e nF)).trans e) (I.hok.fresh (Nat.le_trans hge (Nat.le_of_lt hlt))) upd_same ((upd_ne (ne_of_none eC nF)).trans eC)
  | some cv =>
    obtain ⟨c', e, hco⟩ := hnm pos cv hc
    subst e
    refine PySem.W.kla_makeFunctionHit (mg := X.mg) (c := c) (P := P) (ps := ps) (closure_ok hfree) I.ok.glob (I.mod.glob.keeps I.bk) hcode (TB.code.keeps I.bk) hPs htr hc bP fun ctv h' tk hx hsz => ?_
    have I1 : Inv X pins σ H { s with heap := h', toks := tk } := I.kept hx
    have nF : H h'.objs.size = none := I1.hok.fresh (Nat.le_refl _)
    have I2 := inv_lam (m := ⟨params, body, scope, X.env.qual ++ "<lambda>", cloFrom X.env.cells scope.names [], c'⟩) (t' := tk) (pm := (X.mg "__name__").getD .none) (ctv := ctv) I1
    exact h h'.objs.size c' _ _ I2 (fun b o e n => (upd_ne (ne_of_none e nF)).trans e) (hT.ext fun b o e => (upd_ne (ne_of_none e nF)).trans e) nF upd_same ((upd_ne (ne_of_none hco nF)).trans hco)
end
/-- what the lambda's body does -/
structure LamR (X : Cx) (params : Arguments) (body : Expr) (scope : Scope) (t : XK → TE) (k : Nat) : Prop where
  names : LamS X.env.scope scope
  bind : ∀ (q : Str) (cl : List (Str × Addr)) (pm cv ctv : Value), bindArgs (PySem.W.kla_fn "<lambda>" q params body scope cl pm cv ctv) ⟨[], []⟩ = pure []
  does : ∀ (A : Around) (outer : List Env) (s : Shared) (H : Hp) (E : XK) (f c' : Addr), Room k (A.deeper (lamEnv X scope s.heap.objs.size f c')) → PE (lamCx X A outer s H E scope f c') body (t E)
/-- at f: a lambda of the running def that does t -/
def LamV (X : Cx) (k : Nat) (H : Hp) (f : Addr) (t : XK → TE) : Prop := ∃ params body scope c', LamR X params body scope t k ∧
  H f = some (LamO f ⟨params, body, scope, X.env.qual ++ "<lambda>", cloFrom X.env.cells scope.names [], c'⟩) ∧ H c' = some (CodeO c' (X.env.qual ++ "<lambda>"))
theorem LamV.at_ {X : Cx} {k : Nat} {H H' : Hp} {f : Addr} {t : XK → TE} (v : LamV X k H f t) (e : ∀ b o, H b = some o → (∀ ps, o ≠ .tbl ps) → (∀ xs, o ≠ .lst xs) → (∀ xs, o ≠ .dK xs) → (∀ C dx fs, o ≠ .ins C dx fs) → H' b = some o) : LamV X k H' f t := by
  obtain ⟨params, body, scope, c', h1, h2, h3⟩ := v
  exact ⟨params, body, scope, c', h1, e _ _ h2 lamO_ne (fun _ z => by unfold LamO at z; cases z) (fun _ z => by unfold LamO at z; cases z) (fun _ _ _ z => by unfold LamO at z; cases z),
    e _ _ h3 codeO_ne (fun _ z => by unfold CodeO at z; cases z) (fun _ z => by unfold CodeO at z; cases z) (fun _ _ _ z => by unfold CodeO at z; cases z)⟩
theorem LamV.ex {X : Cx} {k : Nat} {H H' : Hp} {f : Addr} {t : XK → TE} (v : LamV X k H f t) (e : ExtN H H') : LamV X k H' f t := v.at_ fun b o h n _ _ _ => e b o h n
def tLamV (X : Cx) (k : Nat) (T : List (Addr × Str)) (t : XK → TE) : TE := fun σ H Q => Tabs T H ∧ ∀ (f : Addr) (H1 : Hp), ExtN H H1 → Tabs T H1 → H f = none → LamV X k H1 f t → Q (.ref f) H1
section
variable {X : Cx}
/-- lambda: body -/
theorem pe_lamV {T : List (Addr × Str)} {c P : Addr} {k : Nat} {params : Arguments} {body : Expr} {scope : Scope} {t : XK → TE} {lpos : Pos} (TB : TabB X.base X.mg c P) (hcode : X.env.code = .ref c) (hm : (P, X.env.qual ++ "<lambda>") ∈ T) (hu : ∀ p ∈ T, p.1 = P → p.2 = X.env.qual ++ "<lambda>")
    (sc : Scope) (hsc : X.env.scope = sc) (L : lamSB sc scope = true) (hdef : defaultsOf params X.env = ([], [])) (hbind : ∀ (q : Str) (cl : List (Str × Addr)) (pm cv ctv : Value), bindArgs (PySem.W.kla_fn "<lambda>" q params body scope cl pm cv ctv) ⟨[], []⟩ = pure [])
    (hbody : ∀ (A : Around) (outer : List Env) (s : Shared) (H : Hp) (E : XK) (f c' : Addr), Room k (A.deeper (lamEnv X scope s.heap.objs.size f c')) → PE (lamCx X A outer s H E scope f c') body (t E)) :
    PE X (.Lambda params body scope lpos) (tLamV X k T t) := by
  refine ⟨fun pins s σ H Q I h => ?_⟩
  obtain ⟨hT, h⟩ := h
  have LS : LamS X.env.scope scope := hsc ▸ lamS_by L
  refine lam_make3 I TB hcode hm hu hT hdef (LS.has I.ok) fun f c' H1 z I1 eN T1 nf hf hc => ?_
  exact ⟨.ref f, H1, I1, rfl, h f H1 eN T1 nf ⟨params, body, scope, c', ⟨LS, hbind, hbody⟩, hf, hc⟩⟩
section
variable {pins : List (Addr × Obj)} {σ : L2.St} {H : Hp} {s : Shared}
/-- x(), in the def that got such a lambda -/
theorem pe_act3 {CXg : CXT} {Eg : XK} {Ng : List Str} {qg : Str} {sg : Scope} {g f c' : Addr} {cdg : Value} {params : Arguments} {body : Expr} {scope : Scope} {k i : Nat} {a : Str} {pn : List (Addr × Obj)} {xe : Value → Shared → Prop} {W : WX} {E : XK} {t : XK → TE} {p1 p2 : Pos}
    (I : Inv X pins σ H s) (R : LamR X params body scope t k)
    (tk : Takes ((cxOf CXg X.prog X.w X.K X.mg X.base Ng qg sg g cdg X.A X.stack s H Eg).tr pn xe) W) (hW : ∀ cls d σ' H', E cls d H' → W cls d σ' H') (hr : Room (k + 1) (X.A.deeper (envOfC qg sg s.heap.objs.size g cdg)))
    (hN : Ng[i]? = some a) (hv : Vis sg a) (hd : (a == ("__debug__" : Str)) = false := by decide) (hcd : (a == ("__classdict__" : Str)) = false := by decide) :
    PE ((cxOf CXg X.prog X.w X.K X.mg X.base Ng qg sg g cdg X.A X.stack s H Eg).tr pn xe) (.Call (.Name a p1) [] [] p2)
      (fun σZ HZ Q => σZ[i]? = some (some (.ref f)) ∧ HZ c' = some (CodeO c' (X.env.qual ++ "<lambda>")) ∧ HZ f = some (LamO f ⟨params, body, scope, X.env.qual ++ "<lambda>", cloFrom X.env.cells scope.names [], c'⟩) ∧ t E σ HZ Q) := by
  refine ⟨fun pinsZ sZ σZ HZ Q IZ h => ?_⟩
  obtain ⟨hs, hc, hf, ht⟩ := h
  refine wpAny_Call_Name_kw (thn ((pe_var (pos := p1) (i := i) hN hv hd hcd).run pinsZ sZ σZ HZ (fun v H1 => v = .ref f ∧ H1 = HZ) IZ ⟨.ref f, hs, rfl, rfl⟩) fun u s1 ⟨v, H1, I1, r1, ev, eH⟩ => ?_)
  subst ev
  rw [eH] at I1
  obtain rfl : u = Value.ref f := r1
  obtain ⟨⟨pm, ctv, of1⟩, _, _⟩ := I1.hok f _ hf
  refine PySem.W.callWith_F0 ⟨_, _, _, _, of1⟩ ?_
  have un : Un (frs X.stack) [] H HZ s.heap s1.heap := I1.base
  obtain ⟨⟨oc, vs, tt, hoc, hdc, hvc⟩, _, _⟩ := I1.hok c' _ hc
  have rc : codeAny (model X.prog X.w) (X.A.deeper (envOfC qg sg s.heap.objs.size g cdg)) (.call (.ref f) ⟨[], []⟩) (CR (L2.CX X.prog X.w) (envOfC qg sg s.heap.objs.size g cdg :: X.stack) X.prog X.w HZ s1 Q E) s1 := by
    refine PySem.W.kla_callFunE hr.depth of1 rfl R.names.co R.names.gen rfl ⟨c', oc, vs, tt, rfl, hoc, hdc, hvc⟩ ?_
    rw [R.bind]
    refine wpAny_pure (wpAny_newFunctionEnv (fun y hy => (R.names.own y hy).2) (fun y hy => absurd hy (by simp)) (fun h₁ hns hsb => ⟨I1.nolimit.fresh _ hsb, ?_⟩) R.names.kind)
    show codeAny _ _ (.expr body (lamEnv X scope s1.heap.objs.size f c')) _ _
    have kp : ∀ b o, s1.heap.get? b = some o → h₁.get? b = some o := fun b o e => hsb.extBut b o (Nat.ne_of_lt (Heap.lt_size e)) (Heap.get?_push_of_some _ e)
    have J : Inv (lamCx X (X.A.deeper (envOfC qg sg s.heap.objs.size g cdg)) (envOfC qg sg s.heap.objs.size g cdg :: X.stack) s1 HZ E scope f c') [] σ HZ { s1 with heap := h₁, toks := s1.toks + ([] : List (Str × Value)).length } := lam_start2 I R.names I1.env0 hr.hd un hns kp
    refine PySem.W.kla_codeExpr (wpAny_mono ((R.does _ _ s1 HZ E f c' (hr.deeper _)).run [] _ _ HZ Q J ht) (fun v z ⟨w', H', J', rv, q⟩ => ⟨w', H', J'.os, J'.bare, J'.base, J'.hok, rv, q⟩) fun e z hq => hq)
  have hx : Passes (L2.CX X.prog X.w) ((cxOf CXg X.prog X.w X.K X.mg X.base Ng qg sg g cdg X.A X.stack s H Eg).tr pn xe) E := passes_call tk hW
  refine wpAny_call (codeAny_mono rc fun r z hq => ?_)
  cases r with
  | error e => exact hx pinsZ σZ HZ s1 e z I1 hq
  | ok fl =>
    cases fl with
    | ret u => exact I1.after hq
    | next => exact False.elim hq
    | brk => exact False.elim hq
    | cont => exact False.elim hq
end
/-- told(e), e such a lambda -/
def tToldV (X : Cx) (k : Nat) (CS : Addr) (ret : Str) (te : TE) : TE := fun σ H Q => te σ H fun v H1 => ∃ f t, [v] = [V.ref f] ∧ LamV X k H1 f t ∧ TTold X.K CS ret (fun E H' Q' => t E σ H' Q') H1 Q
theorem pe_toldV {x a e e2 ret : Str} {te : TE} {ex : Expr} {g CS : Addr} {k j : Nat} {pg : Arguments} {sg : Scope} {dV kV doc pm cdv ct oc : Value} {an od : Option Addr} {osl : Array (Option Value)} {Ng : List Str} {p pos p1 p2 p3 p4 p5 p6 p7 p8 : Pos}
    (hg : Gl X x) (hm : X.mg x = some (.ref g)) (hk : PySem.W.keepIn X.K (.ref g) = true) (he : PE X ex te)
    (lk : X.K.lookup g = some ⟨oc, od, .func (PySem.W.fnOf x x pg [.Try [.Return (some (.Call (.Name a p1) [] [] p2)) p3] [.ExceptHandler (some (.Name e p4)) none [.Return (some (.Constant (.str ret) j p5)) p6] p7] [] [] p8] sg dV kV doc pm an cdv ct), osl⟩) (hcg : PySem.W.codeIn X.K cdv x = true)
    (hb : L2.Binds X.K (PySem.W.fnOf x x pg [.Try [.Return (some (.Call (.Name a p1) [] [] p2)) p3] [.ExceptHandler (some (.Name e p4)) none [.Return (some (.Constant (.str ret) j p5)) p6] p7] [] [] p8] sg dV kV doc pm an cdv ct) [a] []) (Sg : FnScope Ng [a] sg) (hNg : Ng[0]? = some a) (hva : Vis sg a) (hr : Room (k + 2) X.A)
    (hge : sg.names.lookup e = some .globalImplicit) (hme : X.mg e = some (.ref CS)) (hde : (e == ("__debug__" : Str)) = false) (h0 : ∀ f : Addr, (L2.start Ng [V.ref f])[0]? = some (some (V.ref f)))
    (hdb : (x == ("__debug__" : Str)) = false := by decide) (hd : (a == ("__debug__" : Str)) = false := by decide) (hcd : (a == ("__classdict__" : Str)) = false := by decide)
    (hst : starEach [ex] X.env = (false, eval ex X.env) :: starEach [] X.env := by rfl) (hpl : (backTo pos (starEach [] X.env)).any (·.1) = false := by rfl) :
    PE X (.Call (.Name x p) [ex] [] pos) (tToldV X k CS ret te) := by
  refine ⟨fun pins s σ H Q I h => ?_⟩
  have args : PA X [ex] (tCons te tNil) := pa_cons he pa_nil hst
  refine wpAny_Call_Name_kw (ld_glob I hg hm (PySem.W.callWith_K (h₀ := X.base) I.ok.mod.kin hk (thn (args.run pos pins s σ H (fun vs H1 => ∃ f t, vs = [V.ref f] ∧ LamV X k H1 f t ∧ TTold X.K CS ret (fun E H' Q' => t E σ H' Q') H1 Q) I h) ?_) hst hpl) hdb)
  rintro us z ⟨vs, H1, I1, rv, f, t, rfl, ⟨params, body, scope, c', R, hf, hc⟩, q⟩
  refine ⟨I1.kIn, ?_⟩
  rw [Vals.ref1 rv]
  have rc : codeAny (model X.prog X.w) X.A (.call (.ref g) ⟨[.ref f], []⟩) (CR C8.CX0 X.stack X.prog X.w H1 z Q C8.E0) z := by
    refine run_ofS (N := Ng) (ps := [a]) (us := [.ref f]) (vs := [.ref f]) lk hcg Sg hr I1.env0 (hb z [.ref f] I1.kIn rfl) (.cons rfl .nil) rfl fun hr' => ?_
    have G := told_gives (X := X) (Ng := Ng) (x := x) (a := a) (e := e) (q := X.env.qual ++ "<lambda>") (ret := ret) (sg := sg) (g := g) (CS := CS) (cdg := cdv) (j := j) (p1 := p1) (p2 := p2) (p3 := p3) (p4 := p4) (p5 := p5) (p6 := p6) (p7 := p7) (p8 := p8) hge hme hde h0
    obtain ⟨t', ht', hq'⟩ := G f c' z H1 Q (fun E H' Q' => H' f = some (LamO f ⟨params, body, scope, X.env.qual ++ "<lambda>", cloFrom X.env.cells scope.names [], c'⟩) ∧ t E σ H' Q')
      (fun W pn xe E p1 p2 tk hW => pe_act3 (i := 0) I1 R tk hW hr' hNg hva hd hcd) hc ⟨hf, q⟩
    exact ⟨t', ht'.nox, hq'⟩
  refine wpAny_call (codeAny_mono rc fun r s2 hq => ?_)
  cases r with
  | error e => exact (show False from hq).elim
  | ok fl =>
    cases fl with
    | ret u => exact I1.after hq
    | next => exact False.elim hq
    | brk => exact False.elim hq
    | cont => exact False.elim hq
end
end LmV
end

section
-- part Dq
set_option Elab.async false
set_option linter.all false
set_option maxRecDepth 100000
set_option maxHeartbeats 2000000
/-! Dq: classes with defaults; dicts: copied, compared, walked; heaps of which some objects are foreign -/
namespace Dq
open PySem PySem.Spec PyProof.Rows L2 Fw Gk
/-! ### a class made by its name, defaults behind -/
structure Mcd (P : Program) (w : World) (K : PySem.W.Frag) (mg : Str → Option Value) (base : Heap) (k : Nat) (x : Str) (C : Addr) (sp : Sp) (dvs : List V) : Prop where
  ex : ∃ (f : Addr) (fd : FuncData) (ps : List Str) (ds : List Value), Mk K C f ∧ FnOk P w K mg base (L2.CX P w) k f fd ps sp ∧ mg x = some (.ref C) ∧ Binds K fd ps ds ∧ Vals dvs ds
def tMkD (C : Addr) (sp : Sp) (dvs : List V) (E : XK) (t : TA) : TE := fun σ H Q => t σ H fun vs H1 => ∀ x dx, H1 x = none → H1 dx = none → dx ≠ x → sp (.ref x :: (vs ++ dvs)) (upd (upd H1 dx (.own x)) x (.ins C dx [])) (fun v H2 => v = .non ∧ Q (.ref x) H2) E
section
variable {X : Cx} {k j : Nat} {C : Addr} {x : Str} {sp : Sp} {dvs : List V} {E : XK} {p pos : Pos} {e : Expr} {es : List Expr} {t : TA}
theorem pe_mcd (c : Mcd X.prog X.w X.K X.mg X.base k x C sp dvs) (hr : Room j X.A) (hk : k + 1 ≤ j) (hg : Gl X x) (hx : Passes (L2.CX X.prog X.w) X E) (ha : PA X (e :: es) t)
    (hdb : (x == ("__debug__" : Str)) = false := by decide) (he : starEach (e :: es) X.env = (false, eval e X.env) :: starEach es X.env := by rfl) (hpl : (backTo pos (starEach es X.env)).any (·.1) = false := by rfl) :
    PE X (.Call (.Name x p) (e :: es) [] pos) (tMkD C sp dvs E t) := by
  obtain ⟨f, fd, ps, ds, M, F, hm, b, d⟩ := c.ex
  exact ⟨fun pins s σ H Q I h => (pe_make M F (hr.mono hk) hg hm b d hx ha hdb he hpl).run pins s σ H Q I h⟩
theorem w_mkd {σ : L2.St} {H : Hp} {Q : VK} (h : t σ H fun vs H1 => ∀ x dx, H1 x = none → H1 dx = none → dx ≠ x → sp (.ref x :: (vs ++ dvs)) (upd (upd H1 dx (.own x)) x (.ins C dx [])) (fun v H2 => v = .non ∧ Q (.ref x) H2) E) : tMkD C sp dvs E t σ H Q := h
end
section
variable {P : Program} {w : World} {K : PySem.W.Frag} {mg : Str → Option Value} {base : Heap} {x qual : Str} {st : Stmt} {C : Addr} {dvs : List V}
/-- n values are given (self counted), the defaults behind the first j fill up -/
theorem mcd_mk {N ps : List Str} {k : Nat} {sp : Sp} (n j : Nat) (F : ∃ (f : Addr) (fd : FuncData), FunD K "__init__" qual (defArgs st) (defBody st) (defScope st) dvs [] f fd ∧ Mk K C f) (hm : mg x = some (.ref C)) (S : FnScope N ps (defScope st)) (hd : dvs ≠ []) (hn : n + (dvs.length - j) = ps.length)
    (b : ∀ (T : Addr) (kV doc pm : Value) (an : Option Addr) (cdv ct : Value) (us its : List Value), us.length = n → its.length = dvs.length →
      ∃ k, bindArgs (PySem.W.fnOf "__init__" qual (defArgs st) (defBody st) (defScope st) (.ref T) kV doc pm an cdv ct) ⟨us, []⟩ = seqItems? (.ref T) >>= k ∧ k (some its.toArray) = pure (ps.zip (us ++ its.drop j)))
    (len : ∀ vs H Q E, sp vs H Q E → vs.length = ps.length)
    (hbody : ∀ (f : Addr) (cdv : Value) (A : Around) (outer : List Env) (s : Shared) (H : Hp) (vs : List V) (Q : VK) (E : XK), Room k (A.deeper (envOfC qual (defScope st) s.heap.objs.size f cdv)) → sp vs H Q E →
      ∃ t, PSs (cxOf (L2.CX P w) P w K mg base N qual (defScope st) f cdv A outer s H E) (defBody st) t ∧ t { nx := fun _ H' => Q .non H', rt := Q } (start N vs) H) : Mcd P w K mg base (k + 1) x C sp (dvs.drop j) := by
  obtain ⟨f, fd, F, M⟩ := F
  obtain ⟨ds, h1, h2⟩ := F.binds1 n j hd hn b
  exact ⟨f, fd, ps, ds, M, F.ok S len (hbody f), hm, h2, h1⟩
end
/-! ### dict(d) -/
section
variable {X : Cx}
def rCopy : List V → Hp → VK → Prop := fun xs H Q => ∃ (a : Addr) (kvs : List (Key × V)), xs = [.ref a] ∧ Rd H a (.dK kvs) ∧ ∀ p, H p = none → Q (.ref p) (upd H p (.dK kvs))
theorem call_dictC : CallR X (.type "dict") rCopy := by
  intro pins s σ H xs us Q I r q
  obtain ⟨a, kvs, ex, hq, q⟩ := q
  subst ex
  obtain ⟨u, eu, rx⟩ := vals1 r
  subst eu
  cases rx
  exact d_copyOf I hq fun p s' hp I' => ⟨.ref p, _, I', rfl, q p hp⟩
/-! ### dicts compared whose values are tuples of ints -/
def BlkEq (K : PySem.W.Frag) (H : Hp) (x y : V) : Prop := ∃ (a b : Addr) (d : List Int), x = .ref a ∧ y = .ref b ∧ SqT K H a (d.map V.int) ∧ SqT K H b (d.map V.int)
theorem hits_blk {pins : List (Addr × Obj)} {σ : L2.St} {H : Hp} {s : Shared} (I : Inv X pins σ H s) {A : Around} (hu : A.units + 1 < cLine) {ls : List (Key × V)} {vb : List (Key × Value)} (rb : KV ls vb) {ks : List (Key × V)} {va : List (Key × Value)} (ra : KV ks va) :
    (∀ p ∈ ks, ∃ u, valV ls p.1 = some u ∧ BlkEq X.K H p.2 u) → PySem.W.KeqHits A s vb va true := by
  unfold KV at ra
  induction ra with
  | nil => intro _; exact .nil
  | @cons p q ps qs h t ih =>
    intro hp
    obtain ⟨h1, h2⟩ := h
    obtain ⟨u, e, a, b, d, e1, e2, sa, sb⟩ := hp p List.mem_cons_self
    have rr : RelO (some u) (valueAt vb p.1) := by rw [← e]; exact rb.val p.1
    obtain ⟨y, hy, ry⟩ := rr.some_of
    obtain ⟨key, v⟩ := q
    have h1' : p.1 = key := h1
    rw [h1'] at hy
    show PySem.W.KeqHits A s vb ((key, v) :: qs) (true && true)
    subst e2
    have h2' : RelV p.2 v := h2
    rw [e1] at h2'
    obtain ⟨as, r1⟩ := Dp.reads I _ _ _ (Dp.tup sa (dp_ints d)) h2'
    obtain ⟨bs, r2⟩ := Dp.reads I _ _ _ (Dp.tup sb (dp_ints d)) ry
    have f := fine_ints d
    have dep : (PyData.tuple (d.map PyData.int)).depth ≤ 1 := f.2.1
    have k := SeqAt.eqAt_reads _ _ A s v y as bs r1 r2 f.1 f.1 (by omega)
    rw [f.2.2] at k
    exact .hit hy k (ih fun p' hm => hp p' (List.mem_cons_of_mem _ hm))
def rNeDV (K : PySem.W.Frag) : R2 := fun x y H Q => ∃ a b ks ls, x = .ref a ∧ y = .ref b ∧ H a = some (.dK ks) ∧ H b = some (.dK ls) ∧ ks.length = ls.length ∧ (∀ p ∈ ks, ∃ u, valV ls p.1 = some u ∧ BlkEq K H p.2 u) ∧ Q (.bl false) H
theorem op_ne_dictV (hu : X.A.units + 64 < cLine) : OpR X (compareOp .NotEq) (rNeDV X.K) := by
  intro pins s σ H x y v u Q I rx ry h
  obtain ⟨a, b, ks, ls, rfl, rfl, ea, eb, hlen, hp, q⟩ := h
  obtain rfl : v = Value.ref a := rx
  obtain rfl : u = Value.ref b := ry
  obtain ⟨_, ya, va, ra, da⟩ := (show ObjOk X.prog X.w H s.heap a (.dK ks) from I.hok a _ ea)
  obtain ⟨_, yb, vb, rb, db⟩ := (show ObjOk X.prog X.w H s.heap b (.dK ls) from I.hok b _ eb)
  have hl : va.length = vb.length := by rw [← ra.length, ← rb.length]; exact hlen
  exact PySem.W.keq_ne (knd := mixKind X.prog X.w) (r := true) ya yb da db (by omega) (fun _ => hits_blk I (A := X.A.in1) (by show X.A.units + 1 + 1 < cLine; omega) rb ra hp) (fin_bl I q (by simp [hl]))
end
/-! ### steps of the walk -/
section
variable {X : Cx} {K : PySem.W.Frag} {σ : L2.St} {H : Hp} {Q : VK} {td ty tx tv tk : TE} {tt : TT} {g : TG} {vs : List Nat} {D : Ends}
theorem w_dget (h : td σ H fun x H1 => ty σ H1 fun y H2 => ∃ a v, x = .ref a ∧ DGet H2 a y (some v) ∧ Q v H2) : tDGet td ty σ H Q := h
theorem w_din (h : ty σ H fun y H1 => td σ H1 fun x H2 => ∃ a o, x = .ref a ∧ DGet H2 a y o ∧ Q (.bl o.isSome) H2) : tDIn ty td σ H Q := h
theorem w_dnotin (h : ty σ H fun y H1 => td σ H1 fun x H2 => ∃ a o, x = .ref a ∧ DGet H2 a y o ∧ Q (.bl (!o.isSome)) H2) : tDNotIn ty td σ H Q := h
theorem w_dget2 (h : td σ H fun x H1 => ∃ a, x = .ref a ∧ IsD H1 a ∧ ty σ H1 fun y H2 => tx σ H2 fun z H3 => ∃ o, DGet H3 a y o ∧ Q (o.getD z) H3) : tDGet2 td ty tx σ H Q := h
theorem w_dnew (h : ∀ p, H p = none → Q (.ref p) (upd H p (.dK []))) : tDNewK σ H Q := h
theorem w_fldaug {ta : TE} {rd : V → V → Hp → VK → Prop} {f : Str} (h : ta σ H fun x H1 => ∃ a C dx fs v, x = .ref a ∧ H1 a = some (.ins C dx fs) ∧ Cls K C ∧ NoAttr K C f ∧ fs.lookup f = some v ∧
  tv σ H1 fun y H2 => rd v y H2 fun z H3 => ∃ dx' fs', H3 a = some (.ins C dx' fs') ∧ fs'.length < 1000 ∧ D.nx σ (upd H3 a (.ins C dx' (putF f z fs')))) : sFldAug K ta tv rd f D σ H := h
/-- {k: v for k in d} -/
theorem w_dcK {i : Nat} {d : Addr} {kvs : List (Key × V)} (hv : σ[i]? = some (some (.ref d))) (hd : H d = some (.dK kvs)) (h : ∀ o D, upd H d (.frz o (.dK kvs)) D = none → ∃ Pv : Nat → Hp → Prop, Pv 0 (upd (upd H d (.frz o (.dK kvs))) D (.dK [])) ∧ (∀ i H, i ≤ kvs.length → Pv i H → H d = some (.frz o (.dK kvs))) ∧
      (∀ i k v H, kvs[i]? = some (k, v) → Pv i H → g (kV k) (wipe σ vs) H fun σ2 H2 => wipe σ2 vs = wipe σ vs ∧ tt σ2 H2 fun b H3 =>
        if b = true then tk σ2 H3 fun y H4 => tv σ2 H4 fun z H5 => ∃ kvs k, y = kV k ∧ H5 D = some (.dK kvs) ∧ kvs.length < sizeLine ∧ Pv (i + 1) (upd H5 D (.dK (putK kvs k z))) else Pv (i + 1) H3) ∧
      (∀ H, Pv kvs.length H → Q (.ref D) (upd H d (.dK kvs)))) : tLockE (tDc (iKeys (tVar i)) g tt tk tv vs) σ H Q := by
  refine ⟨d, .dK kvs, hd, trivial, fun o => ?_⟩
  refine ⟨.ref d, hv, d, o, rfl, .inl ⟨kvs, upd_same, fun D hD => ?_⟩⟩
  obtain ⟨Pv, h0, hl, hs, hq⟩ := h o D hD
  refine ⟨fun i m H => m = kvs.length - i ∧ i ≤ kvs.length ∧ Pv i H, ⟨kvs.length, by simp, Nat.zero_le _, h0⟩, ?_⟩
  rintro i m H ⟨rfl, hi, p⟩
  have q := hl i H hi p
  by_cases hlt : i < kvs.length
  · refine .inr ⟨walk_keys.goes i H hlt q, Pv (i + 1), fun H' p' => ⟨kvs.length - (i + 1), by omega, rfl, hlt, p'⟩, fun x H' y => ?_⟩
    obtain ⟨rfl, k, v, e, rfl⟩ := walk_keys.yields i H x H' hlt q y
    exact hs i k v _ e p
  · have e : i = kvs.length := by omega
    subst e
    exact .inl ⟨walk_keys.stops H q, q, hq H p⟩
end
section
variable {K : PySem.W.Frag} {σ : L2.St} {H : Hp}
theorem for_enumL {g : TG} {tb : TS} {D : Ends} {a : Addr} {xs : List V} (Pv : Nat → L2.St → Hp → Prop) (h0 : Pv 0 σ H) (hq : ∀ i σ H, Pv i σ H → SqL K H a xs)
    (hs : ∀ (i : Nat) (x : V) (T : Addr) (σ : L2.St) (H : Hp), xs[i]? = some x → Pv i σ H → H T = none → g (.ref T) σ (upd H T (.tup [.int (i : Nat), x])) fun σ2 H2 => tb { D with nx := Pv (i + 1), ct := Pv (i + 1), bk := D.nx } σ2 H2)
    (hd : ∀ σ H, Pv xs.length σ H → D.nx σ H) :
    ∃ W : Nat → Nat → L2.St → Hp → Prop, (∃ m, W 0 m σ H) ∧ ∀ i m σ H, W i m σ H →
      ((Ite K a).stop i H ∧ D.nx σ H) ∨ ((Ite K a).go i H ∧ ∃ N : L2.St → Hp → Prop, (∀ σ' H', N σ' H' → ∃ m', m' < m ∧ W (i + 1) m' σ' H') ∧ ∀ x H', (Ite K a).yld i H x H' → g x σ H' fun σ2 H2 => tb { D with nx := N, ct := N, bk := D.nx } σ2 H2) :=
  for_it walk_enum Pv h0 (fun i σ H _ p => hq i σ H p) (fun i v σ H H' _ p y => by
    obtain ⟨T, x, y, rfl, hT, rfl, e1, e2⟩ := y
    cases e1
    exact hs i _ T σ H e2 p hT) hd
end
/-! ### foreign objects -/
/-- all but the objects of L are kept -/
def Fr (L : List Addr) (H H' : Hp) : Prop := ∀ b o, b ∉ L → H b = some o → H' b = some o
theorem Fr.refl (L : List Addr) (H : Hp) : Fr L H H := fun _ _ _ h => h
theorem Fr.trans {L : List Addr} {H H1 H2 : Hp} (a : Fr L H H1) (b : Fr L H1 H2) : Fr L H H2 := fun c o n h => b c o n (a c o n h)
theorem Fr.of {L : List Addr} {H H' : Hp} (s : Same H H') : Fr L H H' := fun b o _ e => s b o e
theorem Fr.up {L : List Addr} {H H' : Hp} {a : Addr} {o : HO} (k : Fr L H H') (h : a ∈ L) : Fr L H (upd H' a o) := fun b u n e => by
  rw [upd_ne (fun z : b = a => n (by rw [z]; exact h))]
  exact k b u n e
theorem Fr.new {L : List Addr} {H H' : Hp} {a : Addr} {o : HO} (k : Fr L H H') (h : H a = none) : Fr L H (upd H' a o) := fun b u n e => by
  rw [upd_ne (ne_of_none e h)]
  exact k b u n e
theorem Fr.le {L M : List Addr} {H H' : Hp} (k : Fr L H H') (h : ∀ a ∈ L, a ∈ M) : Fr M H H' := fun b u n e => k b u (fun z => n (h b z)) e
/-- tuples stay -/
def Tu (H H' : Hp) : Prop := ∀ a xs, H a = some (.tup xs) → H' a = some (.tup xs)
end Dq
namespace Dq
open PySem PySem.Spec PyProof.Rows L2 Fw Gk
section
variable {H : Hp} {Q : VK} {v : V}
theorem w_isNb {b : Bool} (hd : decide (v = V.non) = b) (q : Q (.bl b) H) : rIsN v V.non H Q := ⟨rfl, by rw [hd]; exact q⟩
theorem w_notNb {b : Bool} (hd : decide (v = V.non) = b) (q : Q (.bl (!b)) H) : rNotN v V.non H Q := ⟨rfl, by rw [hd]; exact q⟩
theorem w_notN0 (q : Q (.bl false) H) : rNotN .non V.non H Q := w_notNb rfl q
theorem w_isN0 (q : Q (.bl true) H) : rIsN .non V.non H Q := w_isNb rfl q
theorem w_notNR {a : Addr} (q : Q (.bl true) H) : rNotN (.ref a) V.non H Q := w_notNb (b := false) (decide_eq_false (fun z => by cases z)) q
theorem w_isNR {a : Addr} (q : Q (.bl false) H) : rIsN (.ref a) V.non H Q := w_isNb (decide_eq_false (fun z => by cases z)) q
theorem w_notNI {a : Int} (q : Q (.bl true) H) : rNotN (.int a) V.non H Q := w_notNb (b := false) (decide_eq_false (fun z => by cases z)) q
theorem w_isNI {a : Int} (q : Q (.bl false) H) : rIsN (.int a) V.non H Q := w_isNb (decide_eq_false (fun z => by cases z)) q
theorem look1 {f g : Str} {x : V} {r : List (Str × V)} (h : (g == f) = true) : List.lookup g ((f, x) :: r) = some x := by rw [List.lookup_cons, h]
theorem look0 {f g : Str} {x : V} {r : List (Str × V)} (h : (g == f) = false) : List.lookup g ((f, x) :: r) = r.lookup g := by rw [List.lookup_cons, h]
theorem w_aSub {i j : Int} (q : Q (.int (i - j)) H) : rSub (.int i) (.int j) H Q := ⟨i, j, rfl, rfl, q⟩
theorem w_aAdd {i j : Int} (q : Q (.int (i + j)) H) : rAdd (.int i) (.int j) H Q := ⟨i, j, rfl, rfl, q⟩
theorem w_orV {ta tb : TE} {σ : L2.St} (h : ta σ H fun x H1 => ∃ c, x = .bl c ∧ if c = true then Q (.bl true) H1 else tb σ H1 Q) : tOrV ta tb σ H Q := h
theorem w_andV {ta tb : TE} {σ : L2.St} (h : ta σ H fun x H1 => ∃ c, x = .bl c ∧ if c = true then tb σ H1 Q else Q (.bl false) H1) : tAndV ta tb σ H Q := h
theorem w_js {t : TE} {ts : List TE} {acc : Str} {σ : L2.St} {R : Str → Hp → Prop} (h : t σ H fun x H1 => ∃ y : Str, x = .str y ∧ (acc ++ y).length ≤ sizeLine ∧ tJs ts (acc ++ y) σ H1 R) : tJs (t :: ts) acc σ H R := h
theorem w_js0 {acc : Str} {σ : L2.St} {R : Str → Hp → Prop} (q : R acc H) : tJs [] acc σ H R := q
theorem w_fm {te : TE} {σ : L2.St} (h : te σ H fun x H1 => (∃ y : Str, x = .str y ∧ y.length ≤ sizeLine ∧ Q (.str y) H1) ∨ ∃ i : Int, x = .int i ∧ i.natAbs.log2 < 1920 ∧ Q (.str (toString i)) H1) : tFmt te σ H Q := h
theorem fmt_n {n : Nat} (h : n < 10 ^ 7) {acc : Str} (ha : acc.length ≤ 1000) {R : Str → Prop} {B : Prop} (q : ∀ z, R z) : B ∨ ∃ i : Int, V.int (n : Int) = .int i ∧ i.natAbs.log2 < 1920 ∧ ∃ y : Str, V.str (toString i) = .str y ∧ (acc ++ y).length ≤ sizeLine ∧ R (acc ++ y) := by
  refine .inr ⟨(n : Int), rfl, ?_, ⟨_, rfl, ?_, q _⟩⟩
  · by_cases h0 : n = 0
    · subst h0
      decide
    · rw [Int.natAbs_natCast]
      have := (Nat.log2_lt h0 (k := 24)).mpr (Nat.lt_of_lt_of_le h (by decide))
      omega
  · rw [str_len_app]
    exact Nat.le_trans (Nat.add_le_add ha (num_short h)) (by decide)
theorem fmt_j {n : Nat} (h : n < 10 ^ 7) {acc : Str} (ha : acc.length ≤ 1000) {σ : L2.St} {R : Str → Hp → Prop} {B : Prop} (q : ∀ z, R z H) : B ∨ ∃ i : Int, V.int (n : Int) = .int i ∧ i.natAbs.log2 < 1920 ∧ ∃ y : Str, V.str (toString i) = .str y ∧ (acc ++ y).length ≤ sizeLine ∧ tJs [] (acc ++ y) σ H R :=
  fmt_n (R := fun z => tJs [] z σ H R) h ha fun z => q z
theorem w_ifV {tt : TT} {ta tb : TE} {σ : L2.St} {R : VK} (G : V → Hp → Prop) (h1 : ∀ R' : VK, (∀ v H', G v H' → R' v H') → tIf tt ta tb σ H R') (h2 : ∀ v H', G v H' → R v H') : tIf tt ta tb σ H R := h1 R h2
theorem putF_ne {f g : Str} {v x : V} {r : List (Str × V)} (h : (g == f) = false) : putF f v ((g, x) :: r) = (g, x) :: putF f v r := by
  rw [putF, if_neg (fun z => by rw [z] at h; simp at h)]
theorem putF_eq {f : Str} {v x : V} {r : List (Str × V)} : putF f v ((f, x) :: r) = (f, v) :: r := by rw [putF, if_pos rfl]
theorem pc1 {p : Str × V} {r s : List (Str × V)} (h : r = s) : p :: r = p :: s := by rw [h]
end
end Dq
end

section
-- part Fdd
set_option Elab.async false
set_option linter.all false
set_option maxRecDepth 100000
set_option maxHeartbeats 2000000
/-! Fdd: methods that call one another some hundred times deep -/
namespace Fdd
open PySem PySem.Spec PyProof.Rows L2 Fw
/-- room for m calls, one in another -/
structure RoomD (m : Nat) (A : Around) : Prop where
  hd : A.handled = none
  dp : A.depth + m + 60 < recursionLimit
  un : A.units + 3 * m + 1000 < cLine
theorem RoomD.room {m : Nat} {A : Around} (h : RoomD m A) : Room 15 A := ⟨h.hd, by have := h.dp; omega, by have := h.un; omega⟩
theorem RoomD.deeper {m : Nat} {A : Around} (h : RoomD (m + 1) A) (env : Env) : RoomD m (A.deeper env) := ⟨h.hd, by
  have := h.dp
  show A.depth + 1 + m + 60 < recursionLimit
  omega, by
  have := h.un
  show A.units + 3 + 3 * m + 1000 < cLine
  omega⟩
theorem RoomD.of {k m : Nat} {A : Around} (h : Room k A) (h1 : m + 55 ≤ 3 * k) (h2 : 3 * m + 800 ≤ 16 * k) : RoomD m A := ⟨h.hd, by have := h.dp; omega, by have := h.un; omega⟩
theorem RoomD.mono {k m : Nat} {A : Around} (h : RoomD k A) (h1 : m ≤ k) : RoomD m A := ⟨h.hd, by have := h.dp; omega, by have := h.un; omega⟩
structure FnD (P : Program) (w : World) (K : PySem.W.Frag) (mg : Str → Option Value) (base : Heap) (CX : CXT) (m : Nat) (f : Addr) (fd : FuncData) (ps : List Str) (sp : Sp) : Prop where
  len : ∀ vs H Q E, sp vs H Q E → vs.length = ps.length
  run : ∀ (A : Around) (outer : List Env) (s : Shared) (H : Hp) (args : Args) (us : List Value) (vs : List V) (Q : VK) (E : XK), RoomD m A → Env0 P w K mg base A outer s H → BindsTo s fd args (ps.zip us) → Vals vs us → sp vs H Q E → codeAny (model P w) A (.call (.ref f) args) (CR CX outer P w H s Q E) s
section
variable {CX : CXT} {P : Program} {w : World} {K : PySem.W.Frag} {mg : Str → Option Value} {base : Heap} {m : Nat} {f : Addr} {name qual : Str} {params : Arguments} {body : List Stmt} {scope : Scope} {dV kV doc pm cdv ct oc : Value} {an od : Option Addr} {osl : Array (Option Value)} {N ps : List Str} {sp : Sp}
theorem fn_ofD (lk : K.lookup f = some ⟨oc, od, .func (PySem.W.fnOf name qual params body scope dV kV doc pm an cdv ct), osl⟩) (hcd : PySem.W.codeIn K cdv qual = true) (S : FnScope N ps scope) (len : ∀ vs H Q E, sp vs H Q E → vs.length = ps.length)
    (hbody : ∀ (A : Around) (outer : List Env) (s : Shared) (H : Hp) (vs : List V) (Q : VK) (E : XK), RoomD m (A.deeper (envOfC qual scope s.heap.objs.size f cdv)) → sp vs H Q E →
      ∃ t, PSs (cxOf CX P w K mg base N qual scope f cdv A outer s H E) body t ∧ t { nx := fun _ H' => Q .non H', rt := Q } (start N vs) H) : FnD P w K mg base CX (m + 1) f (PySem.W.fnOf name qual params body scope dV kV doc pm an cdv ct) ps sp := by
  refine ⟨len, fun A outer s H args us vs Q E hr e0 hb r hsp => ?_⟩
  have hl := len vs H Q E hsp
  have KX := PySem.W.Frag.In.keeps e0.mod.kin fun b o e => (e0.bs b o e).left
  have lim := Heap.NoLimit.keeps e0.mod.nolimit fun b o e => (e0.bs b o e).left
  refine codeAny_call_function (Room.depth hr.room) (KX f _ lk) rfl S.co S.gen rfl (PySem.W.codeRec_of KX hcd) ?_
  refine hb (model P w) A.in1 _ _ (wpAny_newFunctionEnv_cells S.kind (fun x hy => ?_) fun env he s1 x => ?_)
  · obtain ⟨n, v⟩ := x
    exact (S.par n (List.of_mem_zip hy).left).elim (fun q => .inl q) fun q => .inr ⟨q, PySem.W.cellsFrom_some scope.names (s.heap.objs.size + 1) [] (.inl q)⟩
  · subst he
    refine ⟨Heap.NoLimit.keeps lim x.toInCall.keep, codeAny_func ?_⟩
    obtain ⟨t, ht, hq⟩ := hbody A outer s H vs Q E (hr.deeper _) hsp
    have I := inv_start (CX := CX) (E := E) S hr.hd e0 hl r x
    refine wpAny_mono (ht.run [] s1 (start N vs) H _ I hq) (fun fl s' hs => ?_) fun e s' hs => hs
    cases fl with
    | next =>
      obtain ⟨σ', H', J, q⟩ := hs
      exact ⟨.non, H', J.os, J.bare, J.base, J.hok, rfl, q⟩
    | brk => exact hs.elim fun _ h => h.elim fun _ h => h.2.elim
    | cont => exact hs.elim fun _ h => h.elim fun _ h => h.2.elim
    | ret u =>
      obtain ⟨v, σ', H', J, rv, q⟩ := hs
      exact ⟨v, H', J.os, J.bare, J.base, J.hok, rv, q⟩
end
theorem run_fnD {X : Cx} {CX : CXT} {k : Nat} {f : Addr} {fd : FuncData} {ps : List Str} {sp : Sp} {dvs : List V} {ds : List Value} {E : XK} {pins : List (Addr × Obj)} {σ : L2.St} {H : Hp} {s : Shared} {Q : VK} {us : List Value} {vs : List V}
    (F : FnD X.prog X.w X.K X.mg X.base CX k f fd ps sp) (hr : RoomD k X.A) (hb : Binds X.K fd ps ds) (hd : Vals dvs ds) (hx : Passes CX X E) (I : Inv X pins σ H s) (r : Vals vs us) (h : sp (vs ++ dvs) H Q E) : wpAny (model X.prog X.w) X.A (call (.ref f) us) (EP X pins σ Q) X.xe s := by
  have r2 := Vals.append r hd
  have hl : (us ++ ds).length = ps.length := by rw [← Vals.length r2]; exact F.len (vs ++ dvs) H Q E h
  refine wpAny_call (codeAny_mono (F.run X.A X.stack s H ⟨us, []⟩ (us ++ ds) (vs ++ dvs) Q E hr I.env0 (hb s us I.kIn hl) r2 h) fun r s' hq => ?_)
  cases r with
  | error e => exact hx pins σ H s e s' I hq
  | ok fl =>
    cases fl with
    | ret u => exact I.after hq
    | next => exact False.elim hq
    | brk => exact False.elim hq
    | cont => exact False.elim hq
/-- a method of the class at C that wants room for m calls -/
structure MeD (P : Program) (w : World) (K : PySem.W.Frag) (mg : Str → Option Value) (base : Heap) (k : Nat) (C : Addr) (m : Str) (sp : Sp) : Prop where
  ex : ∃ (f : Addr) (fd : FuncData) (ps : List Str), Cls K C ∧ Meth K C m f ∧ FnD P w K mg base (L2.CX P w) k f fd ps sp ∧ Binds K fd ps []
section
variable {P : Program} {w : World} {K : PySem.W.Frag} {mg : Str → Option Value} {base : Heap} {x m qual : Str} {st : Stmt} {C : Addr}
theorem me_mkD {N ps : List Str} {k : Nat} {sp : Sp} (F : FnM K C m qual st) (c : Cls K C) (S : FnScope N ps (defScope st))
    (b : ∀ (kV doc pm : Value) (an : Option Addr) (cdv ct : Value) (us : List Value), us.length = ps.length → bindArgs (PySem.W.fnOf m qual (defArgs st) (defBody st) (defScope st) .none kV doc pm an cdv ct) ⟨us, []⟩ = pure (ps.zip us))
    (len : ∀ vs H Q E, sp vs H Q E → vs.length = ps.length)
    (hbody : ∀ (f : Addr) (cdv : Value) (A : Around) (outer : List Env) (s : Shared) (H : Hp) (vs : List V) (Q : VK) (E : XK), RoomD k (A.deeper (envOfC qual (defScope st) s.heap.objs.size f cdv)) → sp vs H Q E →
      ∃ t, PSs (cxOf (L2.CX P w) P w K mg base N qual (defScope st) f cdv A outer s H E) (defBody st) t ∧ t { nx := fun _ H' => Q .non H', rt := Q } (start N vs) H) : MeD P w K mg base (k + 1) C m sp := by
  obtain ⟨f, fd, F, M⟩ := F
  have bb := F.bindsN b
  refine ⟨f, fd, ps, c, M, ?_, bb⟩
  clear bb
  obtain ⟨oc, od, dV, kV, doc, pm, an, cdv, ct, osl, rfl, lk, hcd, _, _⟩ := F.ex
  exact fn_ofD lk hcd S len fun A outer s H vs Q E hr h => hbody f cdv A outer s H vs Q E hr h
end
section
variable {X : Cx} {k j : Nat} {C : Addr} {m : Str} {sp : Sp} {E : XK} {pos apos : Pos} {o : Expr} {ta : TE}
theorem pe_me0D {pl : Sem Bool} (c : MeD X.prog X.w X.K X.mg X.base k C m sp) (hr : RoomD j X.A) (hk : k ≤ j) (hx : Passes (L2.CX X.prog X.w) X E) (he : PE X o ta)
    (ht : eval (.Call (.Attribute o m apos) [] [] pos) X.env = (do
      let ov ← eval o X.env
      standAt apos.atName
      let (f, first) ← holding [ov] (getMethod ov m pl)
      callWith pos f first (backTo pos (starEach [] X.env)) (backToKw pos (keywordEach [] X.env))) := by rfl) :
    PE X (.Call (.Attribute o m apos) [] [] pos) (tMe C m sp E ta tNil) := by
  obtain ⟨f, fd, ps, hc, hm, F, b⟩ := c.ex
  refine ⟨fun pins s σ H Q I h => ?_⟩
  refine PySem.W.methodCall_KW (thn (he.run pins s σ H _ I h) fun u s1 x => ?_) ht
  obtain ⟨x, H1, I1, rx, a, dx, fs, rfl, ea, l, q⟩ := x
  obtain rfl : u = Value.ref a := rx
  refine getmeth_ok I1 ea hc hm l (PySem.W.callWith_K0 I1.kIn hm.kp ?_)
  exact run_fnD (dvs := []) (ds := []) (vs := [V.ref a]) F (hr.mono hk) b .nil hx I1 (Paired.cons rfl Paired.nil) q
end
end Fdd
end

section
-- part Fgt
set_option Elab.async false
set_option linter.all false
set_option maxRecDepth 100000
set_option maxHeartbeats 2000000
/-! Fgt: all of a test over a text, the test by a text of the module, the def's table of code objects kept by names -/
namespace GnT
open PySem PySem.Spec PyProof.Rows L2 LamX
open GxR (GenS keeps_refl keeps_tok sh_eta passing_true trF trF_some)
open GnI (moved_inv)
/-- the test of a sign, the module's names at hand -/
def EltG (prog : Program) (w : World) (mg : Str → Option Value) (scope : Scope) (x : Str) (elt : Expr) (pb : Nat → Bool) : Prop :=
  ∀ (ce : Env) (B : Around) (F : Value → Shared → Prop) (c : Nat) (t : Tok) (z : Shared) (m : Str → Option Value), ce.scope = scope → z.heap.Ns ce.globals mg → z.heap.Ns ce.locals m → m x = some (.str ⟨#[c]⟩ t) →
    wpAny (model prog w) B (eval elt ce) (fun y z' => y = .bool (pb c) ∧ Keeps z z') F z
/-- x in k, k a text of the module -/
theorem eltG_in {prog : Program} {w : World} {mg : Str → Option Value} {scope : Scope} {x g k : Str} {p1 p2 p3 : Pos} (hv : ∃ u, mg g = some u ∧ RelV (.str k) u) (hk : scope.kind = .function) (hl : scope.names.lookup x = some .local) (hgl : scope.names.lookup g = some .globalImplicit)
    (hd : (x == ("__debug__" : Str)) = false := by decide) (hd2 : (g == ("__debug__" : Str)) = false := by decide) :
    EltG prog w mg scope x (.Compare (.Name x p1) [.In] [.Name g p2] p3) (fun c => !(Builtin.Str.occurrences k ⟨#[c]⟩ 0 k.length 1).isEmpty) := by
  intro ce B F c t z m hs hg hn hm
  obtain ⟨u, hv, t', rfl⟩ := hv
  refine wpAny_Compare1 (wpAny_Name (wpAny_loadName_local (by rw [hs]; exact hk) (show ce.scope.names.lookup x = some .local by rw [hs]; exact hl) hn hm ?_) hd)
  refine Calls.Name_function_global (by rw [hs]; exact hk) (show ce.scope.names.lookup g = some .globalImplicit by rw [hs]; exact hgl) (Calls.loadGlobal_global hg hv ?_) hd2
  exact PySem.P.in_str ⟨rfl, keeps_refl _⟩
variable {X : Cx} {pins : List (Addr × Obj)} {σ : L2.St} {H : Hp} {s : Shared}
/-- the generator g over the signs of a, ready to be walked, in the state z -/
def Ready (X : Cx) (pins : List (Addr × Obj)) (σ : L2.St) (H1 : Hp) (T : List (Addr × Str)) (a : Str) (pb : Nat → Bool) (g : Addr) (z : Shared) : Prop :=
  ∃ (fp wr : List Addr) (G : Array GenState → Array GenState → Prop) (F : Nat → Value → Prop) (St : Nat → Shared → Prop),
    WalksS X.prog X.w X.A.in1 g fp wr G a.cps.size F St ∧ St 0 z ∧ TruthOf X.prog X.w X.A.in1 F (trF pb a.cps.toList) ∧ ∀ z', Moved wr G z z' → ∃ H2, ExtN H1 H2 ∧ Tabs T H2 ∧ Inv X pins σ H2 z'
theorem gen_signs {T : List (Addr × Str)} {c P : Addr} {elt iter : Expr} {x : Str} {px gpos : Pos} {scope : Scope} {pb : Nat → Bool} {te : TE} {k : Nat} {Q' : Value → Shared → Prop} {R : Str → Hp → Prop}
    (hr : Room k X.A) (TB : TabB X.base X.mg c P) (hcode : X.env.code = .ref c) (hm : (P, X.env.qual ++ "<genexpr>") ∈ T) (hu : ∀ p ∈ T, p.1 = P → p.2 = X.env.qual ++ "<genexpr>") (S : GenS X.env scope x) (hi : PE X iter te) (hel : EltG X.prog X.w X.mg scope x elt pb)
    (hs : ∀ v, genFold iter X.env v = pure v) (I : Inv X pins σ H s) (h : te σ H fun v H1 => ∃ a : Str, v = .str a ∧ Tabs T H1 ∧ R a H1)
    (hQ : ∀ a H1 g z, R a H1 → Ready X pins σ H1 T a pb g z → Q' (.ref g) z) : wpAny (model X.prog X.w) X.A (eval (.GeneratorExp elt [⟨.Name x px, iter, [], 0⟩] scope gpos) X.env) Q' X.xe s := by
  refine wpAny_GeneratorExp_walksQ hr.hd S.co (closure_ok S.free) S.cell S.dot S.loc S.kind (by have := hr.dp; omega) (thn (hi.run pins s σ H _ I h) fun xv s1 ⟨v, H1, I1, r1, q1⟩ => ?_) hs
  obtain ⟨a, rfl, hT, q1⟩ := q1
  obtain ⟨t, rfl⟩ := _root_.id r1
  obtain ⟨ps, hP, htr, hnm⟩ := hT _ hm
  refine wpAny_pyIter_str fun o St W hst => ?_
  have hPs : s1.heap.get? P = some { cls := .none, data := .fields ps } := I1.hok P _ hP
  have hPlt : P < s1.heap.objs.size := Heap.lt_size hPs
  obtain ⟨N, eN⟩ : ∃ N : Nat, N = s1.heap.objs.size := ⟨_, rfl⟩
  have sz2 : (s1.heap.push o).objs.size = N + 1 := by rw [Heap.size_push, ← eN]
  have kp2 : ∀ b u, s1.heap.get? b = some u → (s1.heap.push o).get? b = some u := fun b u e => Heap.get?_push_of_some _ e
  have cd : PySem.W.CodeHd (s1.heap.push o) c P := TB.code.keeps fun b u e => kp2 b u (I1.bk b u e)
  have lim2 : (s1.heap.push o).NoLimit := I1.nolimit.push o
  have cont : ∀ (code : Value) (h3 : Heap) (tk : Nat), Heap.ExtBut P (s1.heap.push o) h3 → (s1.heap.push o).objs.size ≤ h3.objs.size →
      (∀ (h' : Heap) (t' : Nat), (∀ b u, b ≠ N → h3.get? b = some u → h'.get? b = some u) → ∃ H3, ExtN H1 H3 ∧ Tabs T H3 ∧ Inv X pins σ H3 { s1 with heap := h', toks := t' }) →
      wpAny (model X.prog X.w) X.A (builtinsFor X.env.globals X.env.builtins) (fun bi z =>
        ∃ Ia fp wr n₀ Pf St₀ pz F, Value.ref N = .ref Ia ∧ (∀ B : Around, B.handled = none → Walks X.prog X.w B Ia fp wr n₀ Pf St₀) ∧ St₀ 0 z.heap ∧ (∀ b ∈ fp, b < z.heap.objs.size) ∧ z.heap.NoLimit ∧ cStatics ∉ wr ∧
          (∀ hz : Heap, (∀ b o, z.heap.get? b = some o → hz.get? b = some o) →
            QuietGen X.prog X.w (genEnv scope (cloFrom X.env.cells scope.names []) z.heap.objs.size code bi X.env) x [] elt (List.range z.heap.objs.size) wr Pf pz F hz) ∧
          (∀ a h₅ tk gs, gs.bare = true → z.heap.objs.size < a → h₅.objs.size = a + 1 → (∀ b o, z.heap.get? b = some o → h₅.get? b = some o) →
            WalksS X.prog X.w X.A.in4 a (a :: z.heap.objs.size :: List.range z.heap.objs.size) (z.heap.objs.size :: wr) (GenOnlyQ z.gens.size) (passing pz n₀ 0).length
              (fun j y => ∃ i, (passing pz n₀ 0)[j]? = some i ∧ F i y) (GenAt X.prog X.w X.A.in4 a z.gens.size z.heap.objs.size (List.range z.heap.objs.size) wr pz n₀ F) →
            GenAt X.prog X.w X.A.in4 a z.gens.size z.heap.objs.size (List.range z.heap.objs.size) wr pz n₀ F 0 { z with gens := z.gens.push gs, toks := tk, heap := h₅ } →
            Q' (.ref a) { z with gens := z.gens.push gs, toks := tk, heap := h₅ })) X.xe { s1 with heap := h3, toks := tk } := by
    intro code h3 tk hx hsz hI
    obtain ⟨bm, ob, e1, e2, e3, e4, e5, e6, e7, e8⟩ := TB.bm
    have hsz' : N + 1 ≤ h3.objs.size := by rw [← sz2]; exact hsz
    have keep3 : ∀ b u, b ≠ P → s1.heap.get? b = some u → h3.get? b = some u := fun b u hb e => hx b u hb (kp2 b u e)
    have hclt : cStatics < N := by rw [eN]; exact let ⟨_, hns, _⟩ := I1.nolimit; hns.lt
    refine wpAny_builtinsFor (m := X.mg) (by rw [I1.ok.glob]; exact ((I1.mod.glob.keeps I1.bk).push o).extBut hx TB.gP) e1 e2 (keep3 _ _ e4 (I1.bk _ _ e5)) e6 e7 e8 ?_
    have itP : N ≠ P := fun z => by rw [eN] at z; exact Nat.ne_of_lt hPlt z.symm
    obtain ⟨_, _, _, I3⟩ := hI h3 tk fun b u _ e => e
    refine ⟨N, [N], [N], a.cps.size, SignAt a, St, (fun _ => true), (fun i y => ∃ b, a.cps[i]? = some b ∧ y = .bool (pb b)), rfl, eN ▸ W, ?_, fun b hb => ?_, I3.nolimit, fun z => ?_, fun hz hhz => ?_, fun g h5 tk5 gs hgb hag hsz5 hk5 W5 hat => ?_⟩
    · have W' := W X.A hr.hd
      rw [← eN] at W'
      refine W'.frame _ _ _ hst fun b hb u e => hx b u (fun z => ?_) e
      rw [List.mem_singleton.mp hb] at z
      exact itP z
    · show b < h3.objs.size
      rw [List.mem_singleton.mp hb]; exact Nat.lt_of_lt_of_le (Nat.lt_succ_self N) hsz'
    · rw [List.mem_singleton.mp z] at hclt
      exact Nat.lt_irrefl _ hclt
    · refine ⟨fun B F' i v s₂ m₂ hB hPv hn hm hk => ?_, fun B F' i v s₂ m₂ hB hPv hp hn hm hk => ?_⟩
      · simp only [List.forIn_nil]
        exact wpAny_pure ⟨rfl, keeps_refl _⟩
      · obtain ⟨b, u, hb, rfl⟩ := hPv
        have hgl : s₂.heap.Ns X.env.globals X.mg := by
          have g1 : h3.Ns X.env.globals X.mg := by rw [I1.ok.glob]; exact ((I1.mod.glob.keeps I1.bk).push o).extBut hx TB.gP
          have g0 : s1.heap.Ns X.env.globals X.mg := by rw [I1.ok.glob]; exact I1.mod.glob.keeps I1.bk
          have gl := g1.lt
          have gN : X.env.globals ≠ N := by rw [eN]; exact Nat.ne_of_lt g0.lt
          obtain ⟨ob, es, ep, ho, r⟩ := g1
          exact ⟨ob, es, ep, hk _ (List.mem_range.mpr gl) (fun z => gN (List.mem_singleton.mp z)) _ (hhz _ _ ho), r⟩
        exact wpAny_mono (hel _ B F' b u s₂ m₂ rfl hgl hn hm) (fun y s3 r => ⟨⟨b, hb, r.1⟩, r.2⟩) fun _ _ e => e
    · simp only [GxR.passing_true, List.length_range] at W5
      refine hQ a H1 g _ q1 ⟨_, _, _, _, _, W5.in4_1, hat, fun j y sj Qj Ej hy hQj => ?_, fun z' hmv => ?_⟩
      · obtain ⟨i, hij, b, hb, rfl⟩ := hy
        obtain ⟨hj, ej⟩ := List.getElem?_eq_some_iff.mp hij
        rw [List.getElem_range] at ej
        subst ej
        have e9 : a.cps.toList[j]? = some b := by rw [Array.getElem?_toList]; exact hb
        have hQ2 : Qj (trF pb a.cps.toList j) sj := hQj
        rw [trF_some e9] at hQ2
        exact wpAny_truthy_bool hQ2
      · obtain ⟨H3, eN3, hT3, I4⟩ := hI z'.heap z'.toks fun b u hb e => hmv.heap b u (fun z => by
          rcases List.mem_cons.mp z with z | z
          · rw [z] at e
            exact Nat.lt_irrefl _ (Heap.lt_size e)
          · exact hb (List.mem_singleton.mp z)) (hk5 b u e)
        have J := moved_inv (g' := z'.gens) (d' := z'.drawn) (t' := z'.toks) (h' := z'.heap) I4 (fun b u e => e) (AllBare.movedS (I1.bare.push hgb) hmv)
        have J2 := sh_eta { s1 with heap := h3, toks := tk } z' hmv.os
        rw [← J2]
        exact ⟨H3, eN3, hT3, J⟩
  subst eN
  refine ⟨lim2, ?_⟩
  have hP2 : (s1.heap.push o).get? P = some { cls := .none, data := .fields ps } := kp2 _ _ hPs
  have nN : ∀ b u, s1.heap.get? b = some u → b ≠ s1.heap.objs.size := fun b u e => Nat.ne_of_lt (Heap.lt_size e)
  cases hf : codeAmong gpos ps.toList with
  | none =>
    refine wpAny_genexprCodeX hcode (cd.code hP2 htr) (cd.tab hP2) hf fun c' h' tk hx hge hlt hco' hrec htab' _ => ?_
    obtain ⟨c2, oc, vs, t, e2, hoc, hd, hv⟩ := hrec
    cases e2
    have hge1 : s1.heap.objs.size + 1 ≤ c' := by rw [← sz2]; exact hge
    have hge' : s1.heap.objs.size ≤ c' := Nat.le_of_succ_le hge1
    have nC : H1 c' = none := I1.hok.fresh hge'
    have hE : ExtN H1 (upd (upd H1 P (.tbl (ps ++ #[rawInt gpos.line, rawInt gpos.col, .ref c']))) c' (CodeO c' (X.env.qual ++ "<genexpr>"))) := fun b u e n => by
      rw [upd_ne (ne_of_none e nC), upd_ne (fun z => n ps (Option.some.inj (e.symm.trans (by rw [z]; exact hP))))]
      exact e
    have eL : (ps ++ #[rawInt gpos.line, rawInt gpos.col, .ref c']).toList = ps.toList ++ [rawInt gpos.line, rawInt gpos.col, .ref c'] := by simp
    refine cont _ h' tk hx (Nat.le_trans hge (Nat.le_of_lt hlt)) fun h'' t'' k'' => ⟨_, hE, fun p hp => ?_, inv_table (t' := t'') (more := #[rawInt gpos.line, rawInt gpos.col, .ref c']) (h' := h'') I1 hP (fun b u hb e => k'' b u (nN b u e) (hx b u hb (kp2 b u e))) (k'' P _ (nN _ _ hPs) htab'.2) hge' ⟨oc, vs, t, k'' c' _ (Nat.ne_of_gt hge1) hoc, hd, hv⟩⟩
    by_cases hb : p.1 = P
    · rw [hu p hp hb, hb]
      refine ⟨_, by rw [upd_ne (ne_of_none hP nC), upd_same], by rw [eL]; exact PySem.TriplesOk_snoc _ _ _ _ htr, fun p' cv hcv => ?_⟩
      rw [eL] at hcv
      rcases among_app _ htr hcv with z | z
      · obtain ⟨c0, e1, e2⟩ := hnm p' cv z
        exact ⟨c0, e1, hE _ _ e2 codeO_ne⟩
      · exact ⟨c', z, upd_same⟩
    · obtain ⟨ps', a1, a2, a3⟩ := hT p hp
      refine ⟨ps', by rw [upd_ne (ne_of_none a1 nC), upd_ne hb]; exact a1, a2, fun p' cv hcv => ?_⟩
      obtain ⟨c0, e1, e2⟩ := a3 p' cv hcv
      exact ⟨c0, e1, hE _ _ e2 codeO_ne⟩
  | some cv =>
    refine wpAny_genexprCode_hit hcode (cd.code hP2 htr) hf ?_
    exact cont cv (s1.heap.push o) s1.toks (Heap.ExtBut.refl _ _) (Nat.le_refl _) fun h'' t'' k'' => ⟨H1, ExtN.refl H1, hT, I1.kept fun b u e => k'' b u (nN b u e) (kp2 b u e)⟩
/-- all(test for x in e), e a text -/
def tAllG (T : List (Addr × Str)) (pb : Nat → Bool) (te : TE) : TE := fun σ H Q => te σ H fun v H1 => ∃ a : Str, v = .str a ∧ Tabs T H1 ∧ ∀ H2, ExtN H1 H2 → Tabs T H2 → Q (.bl (a.cps.toList.all pb)) H2
theorem pe_allG {T : List (Addr × Str)} {c P : Addr} {elt iter : Expr} {x : Str} {px p pos gpos : Pos} {scope : Scope} {pb : Nat → Bool} {te : TE} {k : Nat} (hr : Room k X.A) (hg : Gl X "all") (hma : X.mg "all" = none) (hb : bootBuiltins "all" = some (.builtin "all")) (TB : TabB X.base X.mg c P) (hcode : X.env.code = .ref c)
    (hm : (P, X.env.qual ++ "<genexpr>") ∈ T) (hu : ∀ p ∈ T, p.1 = P → p.2 = X.env.qual ++ "<genexpr>") (S : GenS X.env scope x) (hi : PE X iter te) (hel : EltG X.prog X.w X.mg scope x elt pb) (hs : ∀ v, genFold iter X.env v = pure v)
    (he : starEach [.GeneratorExp elt [⟨.Name x px, iter, [], 0⟩] scope gpos] X.env = (false, eval (.GeneratorExp elt [⟨.Name x px, iter, [], 0⟩] scope gpos) X.env) :: starEach [] X.env := by rfl) :
    PE X (.Call (.Name "all" p) [.GeneratorExp elt [⟨.Name x px, iter, [], 0⟩] scope gpos] [] pos) (tAllG T pb te) := by
  refine ⟨fun pins s σ H Q I h => wpAny_Call_Name_kw (ld_blt I hg hma hb (PyProof.Rows.callWith_builtin1 ?_ he (by rfl)))⟩
  rw [he]
  show wpAny _ _ (spliced ((false, eval (.GeneratorExp elt [⟨.Name x px, iter, [], 0⟩] scope gpos) X.env) :: backTo pos (starEach [] X.env))) _ _ s
  refine Calls.spliced_cons (gen_signs (R := fun a H1 => ∀ H2, ExtN H1 H2 → Tabs T H2 → Q (.bl (a.cps.toList.all pb)) H2) hr TB hcode hm hu S hi hel hs I h fun a H1 g z hR hG => Calls.spliced_nil ?_)
  obtain ⟨fp, wr, G, F, St, W, hst, htr, hI⟩ := hG
  refine call_all_walkS (W.self 0 _ _ _ hst ⟨g, fp, wr, G, _, F, St, _, rfl, W, hst, htr, fun s' hmv => ?_⟩)
  obtain ⟨H2, hE, hT, J⟩ := hI s' hmv
  exact ⟨.bl _, H2, J, rfl, by rw [GxR.all_signs a pb]; exact hR H2 hE hT⟩
theorem w_allG {T : List (Addr × Str)} {pb : Nat → Bool} {te : TE} {Q : VK} (h : te σ H fun v H1 => ∃ a : Str, v = .str a ∧ Tabs T H1 ∧ ∀ H2, ExtN H1 H2 → Tabs T H2 → Q (.bl (a.cps.toList.all pb)) H2) : tAllG T pb te σ H Q := h
end GnT
end

section
-- part Ftx
set_option Elab.async false
set_option linter.all false
set_option maxRecDepth 100000
set_option maxHeartbeats 2000000
/-! Ftx: find between two places, is True, == of data at any depth beside a flat one, int(text), join -/
namespace Ftx
open PySem PySem.Spec PyProof.Rows L2 Fw
open SX (S_len S_inj S_cat)
open Builtin.Str PySem.StrLaws
theorem toIx {n q : Nat} : toIndexW n (q : Int) = min q n := by
  unfold toIndexW
  rw [if_neg (by omega)]
  omega
/-- a sign's place among those below hi -/
theorem occ_in (x y : Str) (lo hi : Nat) :
    (occurrences x y lo hi 1 = [] ∧ ∀ i, lo ≤ i → ¬ At x y hi i) ∨ ∃ i r, occurrences x y lo hi 1 = i :: r ∧ lo ≤ i ∧ At x y hi i ∧ ∀ k, lo ≤ k → k < i → ¬ At x y hi k := by
  rw [occ_eq]
  rcases occ_first x y hi 1 (by decide) (List.range' lo (hi + 1 - lo)) lo (fun i hi => by have := List.mem_range'_1.mp hi; omega) with ⟨h0, hn⟩ | ⟨pre, a, post, e, h0, ha, hn⟩
  · exact .inl ⟨by rw [h0], fun i hlo hi => hn i (by have := hi.1; rw [List.mem_range'_1]; omega) hi⟩
  · have hs := range'_split_from e
    refine .inr ⟨a, ((forIn (List.range' lo (hi + 1 - lo)) ((#[] : Array Nat), lo) (occBody x y hi 1)).run.fst.toList).tail, ?_, hs.1, ha, fun k hk0 hk => hn k (hs.2 k hk0 hk)⟩
    generalize (forIn (List.range' lo (hi + 1 - lo)) ((#[] : Array Nat), lo) (occBody x y hi 1)).run.fst = arr at h0
    have h1 : arr.toList[0]? = some a := by simpa using h0
    cases hL : arr.toList with
    | nil => rw [hL] at h1; cases h1
    | cons b r => rw [hL] at h1; cases h1; rfl
theorem find4_one (l : List Nat) (c p n : Nat) (hp : p ≤ l.length) : Txt.findIn (S l) (S [c]) (p : Int) ((p + n : Nat) : Int) = (match ((l.drop p).take n).findIdx? (· == c) with | some k => ((p + k : Nat) : Int) | none => -1) := by
  unfold Txt.findIn
  rw [fromIx, toIx, S_len]
  have one : ∀ i, p ≤ i → (At (S l) (S [c]) (min (p + n) l.length) i ↔ ((l.drop p).take n)[i - p]? = some c) := by
    intro i hpi
    unfold At
    rw [S_len, subAt_eq, S_len]
    simp only [SX.S, List.length_singleton]
    rw [List.getElem?_take, List.getElem?_drop]
    constructor
    · rintro ⟨h1, h2⟩
      have hi : i < l.length := by omega
      rw [if_pos (by omega), show p + (i - p) = i by omega, List.getElem?_eq_getElem hi]
      have h3 : List.take 1 (List.drop i l) = [c] := by simpa using h2
      rw [List.drop_eq_getElem_cons hi] at h3
      exact congrArg some (List.cons.inj h3).1
    · intro h
      by_cases hn : i - p < n
      · rw [if_pos hn, show p + (i - p) = i by omega] at h
        obtain ⟨hi, e⟩ := List.getElem?_eq_some_iff.mp h
        refine ⟨by omega, ?_⟩
        have h3 : List.take 1 (List.drop i l) = [c] := by rw [List.drop_eq_getElem_cons hi, e]; rfl
        simpa using h3
      · rw [if_neg hn] at h
        cases h
  rcases occ_in (S l) (S [c]) p (min (p + n) l.length) with ⟨h0, hn⟩ | ⟨i, r, h0, hi, ha, hn⟩
  · rw [h0]
    have : ((l.drop p).take n).findIdx? (· == c) = none := by
      rw [List.findIdx?_eq_none_iff]
      intro x hx
      obtain ⟨k, hk, e⟩ := List.getElem_of_mem hx
      cases q : x == c with
      | false => rfl
      | true =>
        refine absurd ((one (p + k) (by omega)).mpr ?_) (hn (p + k) (by omega))
        rw [show p + k - p = k by omega, List.getElem?_eq_getElem hk, e, eq_of_beq q]
    rw [this]
  · rw [h0]
    have hk : ((l.drop p).take n).findIdx? (· == c) = some (i - p) := by
      rw [List.findIdx?_eq_some_iff_getElem]
      obtain ⟨hl, e⟩ := List.getElem?_eq_some_iff.mp ((one i hi).mp ha)
      refine ⟨hl, by simp [e], fun j hj => ?_⟩
      have := hn (p + j) (by omega) (by omega)
      rw [one _ (by omega), show p + j - p = j by omega, List.getElem?_eq_getElem (by omega)] at this
      intro q
      exact this (congrArg some (eq_of_beq (by simpa using q)))
    rw [hk]
    show (i : Int) = ((p + (i - p) : Nat) : Int)
    omega
theorem find4_some {l : List Nat} {c p n k : Nat} (hp : p ≤ l.length) (h : ((l.drop p).take n).findIdx? (· == c) = some k) : Txt.findIn (S l) (S [c]) (p : Int) ((p + n : Nat) : Int) = ((p + k : Nat) : Int) := by rw [find4_one l c p n hp, h]
theorem find4_none {l : List Nat} {c p n : Nat} (hp : p ≤ l.length) (h : ((l.drop p).take n).findIdx? (· == c) = none) : Txt.findIn (S l) (S [c]) (p : Int) ((p + n : Nat) : Int) = -1 := by rw [find4_one l c p n hp, h]
theorem starts_one (l : List Nat) (c : Nat) : Txt.startswith (S l) (S [c]) = decide (l.head? = some c) := by
  have h := starts3 l [c] 0
  have e : Txt.startswith3 (S l) (S [c]) ((0 : Nat) : Int) = Txt.startswith (S l) (S [c]) := by
    unfold Txt.startswith3 Txt.startswith
    rw [fromIx]
  rw [← e, h]
  cases l with
  | nil => simp
  | cons a r => simp
section
variable {X : Cx}
/-- x is True, x is False -/
def rIsT : R2 := fun x y H Q => ∃ b, y = .bl b ∧ Q (.bl (decide (x = .bl b))) H
theorem op_isT : OpR X (compareOp .Is) rIsT := by
  intro pins s σ H x y v u Q I rx ry h
  obtain ⟨b, rfl, q⟩ := h
  cases (show u = Value.bool b from ry)
  have e : (v == Value.bool b) = decide (x = V.bl b) := by
    cases x with
    | bl a => cases rx; cases a <;> cases b <;> rfl
    | non => cases rx; rfl
    | ref a => cases rx; rfl
    | ty n => cases rx; rfl
    | int i => obtain ⟨t, rfl⟩ := rx; rfl
    | str i => obtain ⟨t, rfl⟩ := rx; rfl
    | byt i => obtain ⟨t, rfl⟩ := rx; rfl
    | flt i => obtain ⟨t, rfl⟩ := rx; rfl
  by_cases c : x = V.bl b
  · subst c
    cases (show v = Value.bool b from rx)
    exact wpAny_is_self rfl ⟨.bl true, H, I, rfl, by simpa using q⟩
  · rw [decide_eq_false c] at e
    rw [decide_eq_false c] at q
    have pl : plainIs v (Value.bool b) = true := by
      cases x with
      | bl a => cases rx; rfl
      | non => cases rx; rfl
      | ref a => cases rx; rfl
      | ty n => cases rx; rfl
      | int i => obtain ⟨t, rfl⟩ := rx; rfl
      | str i => obtain ⟨t, rfl⟩ := rx; rfl
      | byt i => obtain ⟨t, rfl⟩ := rx; rfl
      | flt i => obtain ⟨t, rfl⟩ := rx; rfl
    exact wpAny_is_other pl (fun z => by rw [z] at e; simp at e) ⟨.bl false, H, I, rfl, q⟩
/-- == and != of data, one of the two not deep -/
def rEqC (K : PySem.W.Frag) : R2 := fun x y H Q => ∃ d e, Dp K H x d ∧ Dp K H y e ∧ d.canLay0 = true ∧ e.canLay0 = true ∧ min d.depth e.depth ≤ 64 ∧ Q (.bl (PyData.eqv d e)) H
def rNeC (K : PySem.W.Frag) : R2 := fun x y H Q => ∃ d e, Dp K H x d ∧ Dp K H y e ∧ d.canLay0 = true ∧ e.canLay0 = true ∧ min d.depth e.depth ≤ 64 ∧ Q (.bl (!PyData.eqv d e)) H
theorem op_eqC (hu : X.A.units + 64 < cLine) : OpR X (compareOp .Eq) (rEqC X.K) := by
  intro pins s σ H x y v u Q I rx ry h
  obtain ⟨d, e, hd, he, sd, se, hm, q⟩ := h
  obtain ⟨as, r1⟩ := Dp.reads I d x v hd rx
  obtain ⟨bs, r2⟩ := Dp.reads I e y u he ry
  exact SeqAt.compareEq_reads r1 r2 sd se (by omega) (fin_bl I q rfl)
theorem op_neC (hu : X.A.units + 64 < cLine) : OpR X (compareOp .NotEq) (rNeC X.K) := by
  intro pins s σ H x y v u Q I rx ry h
  obtain ⟨d, e, hd, he, sd, se, hm, q⟩ := h
  obtain ⟨as, r1⟩ := Dp.reads I d x v hd rx
  obtain ⟨bs, r2⟩ := Dp.reads I e y u he ry
  exact SeqAt.compareNe_reads r1 r2 sd se (by omega) (fin_bl I q rfl)
end
end Ftx
end

section
-- part K07P
set_option Elab.async false
set_option linter.all false
set_option maxRecDepth 100000
set_option maxHeartbeats 2000000
/-! K07P: the text of a tree, and a tree from a text -/
namespace M7
open PySem PySem.Spec PyProof.Rows L2 Fw
open SX (S_len S_inj S_cat)
open TL (numL numL_digits numL_ne numL_val numL_free)
/-- a whole number's signs -/
def intL (i : Int) : List Nat := if i < 0 then 45 :: numL i.natAbs else numL i.natAbs
mutual
def tx : PyData → List Nat
  | .none => [110]
  | .bool b => if b = true then [116] else [102]
  | .str x => numL x.cps.toList.length ++ 58 :: x.cps.toList
  | .tuple ds => 40 :: (txs ds ++ [41])
  | .int i => 35 :: (intL i ++ [59])
  | .list _ => []
  | .dict _ => []
def txs : List PyData → List Nat
  | [] => []
  | d :: ds => tx d ++ txs ds
end
/-- a tree of less than b open at once -/
def OkB : Nat → PyData → Prop
  | 0, _ => False
  | _ + 1, .none => True
  | _ + 1, .bool _ => True
  | _ + 1, .str x => (numL x.cps.toList.length).length ≤ 30
  | _ + 1, .int i => (intL i).length ≤ 30
  | b + 1, .tuple ds => ∀ d ∈ ds, OkB b d
  | _ + 1, .list _ => False
  | _ + 1, .dict _ => False
theorem OkB.up : ∀ {b : Nat} {d : PyData}, OkB b d → OkB (b + 1) d
  | 0, _, h => h.elim
  | _ + 1, .none, _ => trivial
  | _ + 1, .bool _, _ => trivial
  | _ + 1, .str _, h => h
  | _ + 1, .int _, h => h
  | b + 1, .tuple ds, h => fun d hd => OkB.up (h d hd)
  | _ + 1, .list _, h => h.elim
  | _ + 1, .dict _, h => h.elim
theorem OkB.le {b c : Nat} {d : PyData} (h : OkB b d) (hc : b ≤ c) : OkB c d := by
  induction hc with
  | refl => exact h
  | step _ ih => exact ih.up
/-! ### numbers -/
def isD (c : Nat) : Bool := decide (48 ≤ c) && decide (c ≤ 57)
def digs (w : List Nat) : List Nat := if w.head? = some 45 then w.tail else w
def valI (w : List Nat) : Int := if w.head? = some 45 then -((NumText.digitsVal w.tail : Nat) : Int) else ((NumText.digitsVal w : Nat) : Int)
def numB (e : Nat) (r : List Nat) : Option (Int × List Nat) :=
  match (r.take 31).findIdx? (· == e) with
  | none => none
  | some k => if digs (r.take k) = [] ∨ (digs (r.take k)).all isD = false then none else some (valI (r.take k), r.drop (k + 1))
def ctB (r : List Nat) : Option (List Nat × List Nat) :=
  match numB 58 r with
  | none => none
  | some (n, r') => if n < 0 ∨ (r'.length : Int) < n then none else some (r'.take n.toNat, r'.drop n.toNat)
def its (it : List Nat → Option (PyData × List Nat)) : Nat → List Nat → Option (List PyData × List Nat)
  | 0, _ => none
  | _ + 1, [] => none
  | f + 1, c :: r => if c = 41 then some ([], r) else match it (c :: r) with
    | none => none
    | some (d, r') => match its it f r' with
      | none => none
      | some (ds, r'') => some (d :: ds, r'')
def item : Nat → List Nat → Option (PyData × List Nat)
  | 0, _ => none
  | _ + 1, [] => none
  | b + 1, c :: r => if c = 110 then some (.none, r) else if c = 116 then some (.bool true, r) else if c = 102 then some (.bool false, r)
    else if c = 40 then (its (item b) (r.length + 1) r).map fun p => (.tuple p.1, p.2)
    else if c = 35 then (numB 59 r).map fun p => (.int p.1, p.2)
    else (ctB (c :: r)).map fun p => (.str (S p.1), p.2)
/-! ### each number's signs are read back -/
theorem intL_last (i : Int) (e : Nat) (he : e ≠ 45) (h : e < 48 ∨ 57 < e) : e ∉ intL i := by
  unfold intL
  split
  · intro z
    rcases List.mem_cons.mp z with z | z
    · exact he z
    · exact numL_free h z
  · exact numL_free h
theorem numL_head (n : Nat) : (numL n).head? ≠ some 45 := fun z => by
  cases q : numL n with
  | nil => rw [q] at z; cases z
  | cons a r =>
    rw [q] at z
    cases z
    have := numL_digits n 45 (by rw [q]; exact List.mem_cons_self)
    omega
theorem digs_int (i : Int) : digs (intL i) = numL i.natAbs := by
  unfold digs intL
  split
  · rfl
  · exact if_neg (numL_head _)
theorem val_int (i : Int) : valI (intL i) = i := by
  unfold valI intL
  by_cases h : i < 0
  · rw [if_pos h]
    show -((NumText.digitsVal (numL i.natAbs) : Nat) : Int) = i
    rw [numL_val]
    omega
  · rw [if_neg h, if_neg (numL_head _), numL_val]
    omega
theorem all_num (n : Nat) : (numL n).all isD = true := List.all_eq_true.mpr fun c hc => by
  have := numL_digits n c hc
  unfold isD
  rw [decide_eq_true this.1, decide_eq_true this.2]
  rfl
theorem idx_app {w r : List Nat} {e : Nat} (hw : e ∉ w) (hl : w.length ≤ 30) : ((w ++ e :: r).take 31).findIdx? (· == e) = some w.length := by
  rw [List.findIdx?_eq_some_iff_getElem]
  have h1 : ((w ++ e :: r).take 31)[w.length]? = some e := by
    rw [List.getElem?_take, if_pos (by omega), List.getElem?_append_right (Nat.le_refl _)]
    simp
  obtain ⟨h2, h3⟩ := List.getElem?_eq_some_iff.mp h1
  refine ⟨h2, by simp [h3], fun j hj => ?_⟩
  have h4 : ((w ++ e :: r).take 31)[j]? = some w[j] := by
    rw [List.getElem?_take, if_pos (by omega), List.getElem?_append_left hj, List.getElem?_eq_getElem hj]
  obtain ⟨h5, h6⟩ := List.getElem?_eq_some_iff.mp h4
  intro q
  have q2 : w[j] = e := by rw [← h6]; exact eq_of_beq (by simpa using q)
  exact hw (q2 ▸ List.getElem_mem hj)
theorem numB_int (i : Int) (e : Nat) (r : List Nat) (he : e = 59 ∨ e = 58) (hl : (intL i).length ≤ 30) : numB e (intL i ++ e :: r) = some (i, r) := by
  unfold numB
  rw [idx_app (intL_last i e (by omega) (by omega)) hl]
  show (if digs ((intL i ++ e :: r).take (intL i).length) = [] ∨ _ then _ else _) = _
  rw [List.take_left', digs_int, if_neg, val_int]
  · rw [show (intL i ++ e :: r).drop ((intL i).length + 1) = r from by rw [← List.drop_drop, List.drop_left']; rfl; rfl]
  · rintro (h | h)
    · exact numL_ne _ h
    · rw [all_num] at h; cases h
  · rfl
theorem numB_nat (n : Nat) (r : List Nat) (hl : (numL n).length ≤ 30) : numB 58 (numL n ++ 58 :: r) = some ((n : Int), r) := by
  have h := numB_int (n : Int) 58 r (.inr rfl) (by unfold intL; rw [if_neg (by omega)]; exact hl)
  unfold intL at h
  rw [if_neg (by omega)] at h
  exact h
theorem ctB_str (l r : List Nat) (hl : (numL l.length).length ≤ 30) : ctB (numL l.length ++ 58 :: (l ++ r)) = some (l, r) := by
  unfold ctB
  rw [numB_nat _ _ hl]
  show (if _ then _ else _) = _
  rw [if_neg (by rw [List.length_append]; omega), Int.toNat_natCast, List.take_left' rfl, List.drop_left' rfl]
theorem num_cons (n : Nat) : ∃ c r, numL n = c :: r ∧ 48 ≤ c ∧ c ≤ 57 := by
  cases q : numL n with
  | nil => exact absurd q (numL_ne n)
  | cons c r =>
    have := numL_digits n c (by rw [q]; exact List.mem_cons_self)
    exact ⟨c, r, rfl, this⟩
/-- a tree's text begins with another sign than a closed bracket -/
theorem tx_head {b : Nat} {d : PyData} (h : OkB b d) : ∃ c r, tx d = c :: r ∧ c ≠ 41 := by
  cases b with
  | zero => exact h.elim
  | succ b =>
    cases d with
    | none => exact ⟨110, [], by rw [tx], by decide⟩
    | bool k => cases k with
      | true => exact ⟨116, [], by simp [tx], by decide⟩
      | false => exact ⟨102, [], by simp [tx], by decide⟩
    | str x =>
      obtain ⟨c, r, e, h1, h2⟩ := num_cons x.cps.toList.length
      exact ⟨c, r ++ 58 :: x.cps.toList, by rw [tx, e]; rfl, by omega⟩
    | int i => exact ⟨35, _, by rw [tx], by decide⟩
    | tuple ds => exact ⟨40, _, by rw [tx], by decide⟩
    | list _ => exact h.elim
    | dict _ => exact h.elim
theorem its_back {it : List Nat → Option (PyData × List Nat)} : ∀ (ds : List PyData) (f : Nat) (r : List Nat), (∀ d ∈ ds, (∃ c q, tx d = c :: q ∧ c ≠ 41) ∧ ∀ r, it (tx d ++ r) = some (d, r)) → (txs ds).length < f → its it f (txs ds ++ 41 :: r) = some (ds, r)
  | [], 0, _, _, h => by omega
  | [], f + 1, r, _, _ => by rw [txs]; rfl
  | d :: ds, 0, _, _, h => by omega
  | d :: ds, f + 1, r, H, h => by
    obtain ⟨⟨c, q, e, hc⟩, hi⟩ := H d List.mem_cons_self
    rw [txs, List.append_assoc]
    have hh := hi (txs ds ++ 41 :: r)
    rw [txs, List.length_append] at h
    rw [e] at hh h ⊢
    rw [List.cons_append] at hh ⊢
    show (if c = 41 then _ else _) = _
    rw [if_neg hc, hh]
    show (match its it f (txs ds ++ 41 :: r) with | none => none | some (ds', r'') => some (d :: ds', r'')) = _
    rw [its_back ds f r (fun d hd => H d (List.mem_cons_of_mem _ hd)) (by simp only [List.length_cons] at h; omega)]
theorem item_back : ∀ (b : Nat) (d : PyData) (r : List Nat), OkB b d → item b (tx d ++ r) = some (d, r)
  | 0, _, _, h => h.elim
  | b + 1, .none, r, _ => by rw [tx]; rfl
  | b + 1, .bool true, r, _ => by rw [tx]; rfl
  | b + 1, .bool false, r, _ => by rw [tx]; rfl
  | b + 1, .str x, r, h => by
    obtain ⟨c, q, e, h1, h2⟩ := num_cons x.cps.toList.length
    have hc := ctB_str x.cps.toList r h
    rw [tx, List.append_assoc, List.cons_append]
    rw [e, List.cons_append] at hc ⊢
    show (if c = 110 then _ else _) = _
    rw [if_neg (by omega), if_neg (by omega), if_neg (by omega), if_neg (by omega), if_neg (by omega), hc]
    show some (PyData.str (S x.cps.toList), r) = _
    rw [show S x.cps.toList = x from SX.S_tl x]
  | b + 1, .int i, r, h => by
    rw [tx, List.cons_append, List.append_assoc]
    show (numB 59 (intL i ++ 59 :: r)).map _ = _
    rw [numB_int i 59 r (.inl rfl) h]
    rfl
  | b + 1, .tuple ds, r, h => by
    rw [tx, List.cons_append, List.append_assoc]
    show (its (item b) ((txs ds ++ 41 :: r).length + 1) (txs ds ++ 41 :: r)).map _ = _
    rw [its_back ds _ r (fun d hd => ⟨tx_head (h d hd), fun r => item_back b d r (h d hd)⟩) (by simp only [List.length_append]; omega)]
    rfl
  | b + 1, .list _, _, h => h.elim
  | b + 1, .dict _, _, h => h.elim
/-! ### what is read is a tree, and no longer than its text -/
theorem digits_lt {w : List Nat} (ha : w.all isD = true) : NumText.digitsVal w < 10 ^ w.length := by
  have key : ∀ (w : List Nat) (a k : Nat), w.all isD = true → a < 10 ^ k → w.foldl (fun acc c => acc * 10 + (c - 48)) a < 10 ^ (k + w.length) := by
    intro w
    induction w with
    | nil => intro a k _ h; exact h
    | cons c w ih =>
      intro a k ha h
      rw [List.all_cons, Bool.and_eq_true] at ha
      have hc : c ≤ 57 := by
        have := ha.1
        unfold isD at this
        rw [Bool.and_eq_true] at this
        exact of_decide_eq_true this.2
      rw [List.foldl_cons, List.length_cons, show k + (w.length + 1) = (k + 1) + w.length by omega]
      refine ih _ (k + 1) ha.2 ?_
      rw [Nat.pow_succ]
      omega
  have h := key w 0 0 ha (by decide)
  rwa [Nat.zero_add] at h
theorem digits_len {w : List Nat} (hw : w ≠ []) (ha : w.all isD = true) : (numL (NumText.digitsVal w)).length ≤ w.length := TL.numL_len (List.length_pos_iff.mpr hw) (digits_lt ha)
theorem num_lt (n : Nat) : n < 10 ^ (numL n).length := by
  have h := digits_lt (all_num n)
  rwa [numL_val] at h
theorem int_lt {i : Int} (h : (intL i).length ≤ 30) : i.natAbs < 10 ^ 30 := by
  have h1 := num_lt i.natAbs
  have h2 : (numL i.natAbs).length ≤ 30 := by
    unfold intL at h
    split at h
    · rw [List.length_cons] at h; omega
    · exact h
  exact Nat.lt_of_lt_of_le h1 (Nat.pow_le_pow_right (by decide) h2)
theorem val_len {w : List Nat} (h1 : digs w ≠ []) (h2 : (digs w).all isD = true) : (intL (valI w)).length ≤ w.length := by
  unfold digs at h1 h2
  unfold valI intL
  by_cases c : w.head? = some 45
  · rw [if_pos c] at h1 h2 ⊢
    have hw : w.length = w.tail.length + 1 := by
      cases w with
      | nil => cases c
      | cons a r => rfl
    have hl := digits_len h1 h2
    split
    · rw [List.length_cons, show (-((NumText.digitsVal w.tail : Nat) : Int)).natAbs = NumText.digitsVal w.tail by omega]; omega
    · rw [show (-((NumText.digitsVal w.tail : Nat) : Int)).natAbs = NumText.digitsVal w.tail by omega]; omega
  · rw [if_neg c] at h1 h2 ⊢
    rw [if_neg (by omega), Int.natAbs_natCast]
    exact digits_len h1 h2
theorem numB_some {e : Nat} {r r' : List Nat} {n : Int} (h : numB e r = some (n, r')) : ∃ k, k ≤ 30 ∧ k < r.length ∧ (r.take 31).findIdx? (· == e) = some k ∧ digs (r.take k) ≠ [] ∧ (digs (r.take k)).all isD = true ∧ n = valI (r.take k) ∧ r' = r.drop (k + 1) ∧ (intL n).length ≤ k := by
  unfold numB at h
  cases q : (r.take 31).findIdx? (· == e) with
  | none => rw [q] at h; cases h
  | some k =>
    rw [q] at h
    have hk : k < (r.take 31).length := (List.findIdx?_eq_some_iff_getElem.mp q).1
    rw [List.length_take] at hk
    by_cases c : digs (r.take k) = [] ∨ (digs (r.take k)).all isD = false
    · exact absurd (show (none : Option (Int × List Nat)) = some (n, r') by rw [← h]; exact (if_pos c).symm) (by intro z; cases z)
    · have h2 : some (valI (r.take k), r.drop (k + 1)) = some (n, r') := by rw [← h]; exact (if_neg c).symm
      cases h2
      have c1 : digs (r.take k) ≠ [] := fun z => c (.inl z)
      have c2 : (digs (r.take k)).all isD = true := by
        cases z : (digs (r.take k)).all isD with
        | true => rfl
        | false => exact absurd (.inr z) c
      refine ⟨k, by omega, by omega, rfl, c1, c2, rfl, rfl, ?_⟩
      have := val_len c1 c2
      rw [List.length_take] at this
      omega
/-- what an item read must be -/
def Rd (b : Nat) (r : List Nat) (o : Option (PyData × List Nat)) : Prop := ∀ d r', o = some (d, r') → OkB b d ∧ ∃ k, 0 < k ∧ k ≤ r.length ∧ r' = r.drop k ∧ (tx d).length ≤ k
theorem its_ok {b : Nat} {it : List Nat → Option (PyData × List Nat)} (H : ∀ r, Rd b r (it r)) : ∀ (f : Nat) (r r' : List Nat) (ds : List PyData), its it f r = some (ds, r') → (∀ d ∈ ds, OkB b d) ∧ ∃ k, 0 < k ∧ k ≤ r.length ∧ r' = r.drop k ∧ (txs ds).length + 1 ≤ k
  | 0, _, _, _, h => by cases h
  | f + 1, [], _, _, h => by cases h
  | f + 1, c :: r, r', ds, h => by
    unfold its at h
    by_cases hc : c = 41
    · rw [if_pos hc] at h
      cases h
      exact ⟨fun d hd => (nomatch hd), 1, by omega, by rw [List.length_cons]; omega, rfl, by rw [txs]; decide⟩
    · rw [if_neg hc] at h
      cases q : it (c :: r) with
      | none => rw [q] at h; cases h
      | some p =>
        obtain ⟨d, r1⟩ := p
        rw [q] at h
        obtain ⟨hd, k, h0, h1, rfl, h2⟩ := H _ d r1 q
        cases q2 : its it f ((c :: r).drop k) with
        | none => rw [show (match some (d, (c :: r).drop k) with | none => none | some (d, r') => match its it f r' with | none => none | some (ds, r'') => some (d :: ds, r'')) = none by show (match its it f ((c :: r).drop k) with | none => none | some (ds, r'') => some (d :: ds, r'')) = none; rw [q2]] at h; cases h
        | some p2 =>
          obtain ⟨ds2, r2⟩ := p2
          have h3 : some (d :: ds2, r2) = some (ds, r') := by rw [← h]; show _ = (match its it f ((c :: r).drop k) with | none => none | some (ds, r'') => some (d :: ds, r'')); rw [q2]
          cases h3
          obtain ⟨hds, k2, g0, g1, rfl, g2⟩ := its_ok H f _ _ _ q2
          rw [List.length_drop] at g1
          refine ⟨fun e he => ?_, k + k2, by omega, by omega, by rw [List.drop_drop], by rw [txs, List.length_append]; omega⟩
          rcases List.mem_cons.mp he with z | z
          · rw [z]; exact hd
          · exact hds e z
theorem item_ok : ∀ (b : Nat) (r : List Nat), Rd b r (item b r)
  | 0, _ => fun _ _ h => by cases h
  | b + 1, [] => fun _ _ h => by cases h
  | b + 1, c :: r => fun d r' h => by
    unfold item at h
    have one : ∀ (e : PyData), OkB (b + 1) e → (tx e).length ≤ 1 → some (e, r) = some (d, r') → OkB (b + 1) d ∧ ∃ k, 0 < k ∧ k ≤ (c :: r).length ∧ r' = (c :: r).drop k ∧ (tx d).length ≤ k := fun e h1 h2 h3 => by
      cases h3
      exact ⟨h1, 1, by omega, by rw [List.length_cons]; omega, rfl, h2⟩
    by_cases c1 : c = 110
    · rw [if_pos c1] at h; exact one .none trivial (by rw [tx]; decide) h
    rw [if_neg c1] at h
    by_cases c2 : c = 116
    · rw [if_pos c2] at h; exact one (.bool true) trivial (by rw [tx]; decide) h
    rw [if_neg c2] at h
    by_cases c3 : c = 102
    · rw [if_pos c3] at h; exact one (.bool false) trivial (by rw [tx]; decide) h
    rw [if_neg c3] at h
    by_cases c4 : c = 40
    · rw [if_pos c4] at h
      obtain ⟨⟨ds, r1⟩, q, z⟩ := Option.map_eq_some_iff.mp h
      cases z
      obtain ⟨hds, k, h0, h1, rfl, h2⟩ := its_ok (item_ok b) _ _ _ _ q
      exact ⟨hds, k + 1, by omega, by rw [List.length_cons]; omega, rfl, by rw [tx, List.length_cons, List.length_append]; simp only [List.length_singleton]; omega⟩
    rw [if_neg c4] at h
    by_cases c5 : c = 35
    · rw [if_pos c5] at h
      obtain ⟨⟨n, r1⟩, q, z⟩ := Option.map_eq_some_iff.mp h
      cases z
      obtain ⟨k, h0, h1, _, _, _, _, rfl, h2⟩ := numB_some q
      exact ⟨Nat.le_trans h2 h0, k + 2, by omega, by rw [List.length_cons]; omega, rfl, by rw [tx, List.length_cons, List.length_append]; simp only [List.length_singleton]; omega⟩
    rw [if_neg c5] at h
    obtain ⟨⟨l, r1⟩, q, z⟩ := Option.map_eq_some_iff.mp h
    cases z
    unfold ctB at q
    cases q2 : numB 58 (c :: r) with
    | none => rw [q2] at q; cases q
    | some p =>
      obtain ⟨n, r2⟩ := p
      rw [q2] at q
      by_cases hn : n < 0 ∨ (r2.length : Int) < n
      · exact absurd (show (none : Option (List Nat × List Nat)) = some (l, r1) by rw [← q]; exact (if_pos hn).symm) (by intro z; cases z)
      · have q3 : some (r2.take n.toNat, r2.drop n.toNat) = some (l, r1) := by rw [← q]; exact (if_neg hn).symm
        cases q3
        obtain ⟨k, h0, h1, _, _, _, _, rfl, h2⟩ := numB_some q2
        have hl : ((c :: r).drop (k + 1)).length = (c :: r).length - (k + 1) := List.length_drop
        have e1 : ((List.take n.toNat ((c :: r).drop (k + 1)))).length = n.toNat := by rw [List.length_take]; omega
        have e2 : (numL n.toNat).length ≤ k := by
          unfold intL at h2
          rw [if_neg (by omega)] at h2
          rw [show n.toNat = n.natAbs by omega]
          exact h2
        refine ⟨?_, k + 1 + n.toNat, by omega, by omega, by rw [List.drop_drop], ?_⟩
        · show (numL (List.take n.toNat ((c :: r).drop (k + 1))).length).length ≤ 30
          rw [e1]
          omega
        · rw [tx, List.length_append, List.length_cons]
          show (numL (List.take n.toNat ((c :: r).drop (k + 1))).length).length + ((List.take n.toNat ((c :: r).drop (k + 1))).length + 1) ≤ _
          rw [e1]
          omega
/-! ### brackets in brackets -/
theorem deep_none : ∀ (b m : Nat) (r : List Nat), b < m → item b (List.replicate m 40 ++ r) = none
  | 0, _, _, _ => rfl
  | b + 1, 0, _, h => by omega
  | b + 1, m + 1, r, h => by
    rw [List.replicate_succ, List.cons_append]
    show (its (item b) _ (List.replicate m 40 ++ r)).map _ = none
    have hi := deep_none b m r (by omega)
    cases m with
    | zero => omega
    | succ m =>
      rw [List.replicate_succ, List.cons_append] at hi ⊢
      show (its (item b) (_ + 1) (40 :: (List.replicate m 40 ++ r))).map _ = none
      unfold its
      rw [if_neg (by decide), hi]
      rfl
def nest : Nat → PyData
  | 0 => .none
  | 1 => .tuple []
  | m + 2 => .tuple [nest (m + 1)]
theorem tx_nest : ∀ m, tx (nest (m + 1)) = List.replicate (m + 1) 40 ++ List.replicate (m + 1) 41
  | 0 => by rw [nest, tx, txs]; rfl
  | m + 1 => by
    rw [nest, tx, txs, txs, tx_nest m, List.append_nil, List.append_assoc, show ([41] : List Nat) = List.replicate 1 41 from rfl, List.replicate_append_replicate, ← List.cons_append, ← List.replicate_succ]
theorem ok_nest : ∀ m, OkB (m + 1) (nest (m + 1))
  | 0 => fun d hd => (nomatch hd)
  | m + 1 => fun d hd => by rw [List.mem_singleton.mp hd]; exact ok_nest m
/-- two trees of one text are one -/
theorem tx_inj {b : Nat} {d e : PyData} (hd : OkB b d) (he : OkB b e) (h : tx d = tx e) : d = e := by
  have h1 := item_back b d [] hd
  have h2 := item_back b e [] he
  rw [h, h2] at h1
  cases h1
  rfl
end M7
end

section
-- part Ftw
set_option Elab.async false
set_option linter.all false
set_option maxRecDepth 100000
set_option maxHeartbeats 2000000
/-! Ftw: readings for Ftx -/
namespace Ftw
open PySem PySem.Spec PyProof.Rows L2 Fw Ftx
open SX (S_len S_inj S_cat)
section
variable {K : PySem.W.Frag} {H : Hp} {Q : VK} {σ : L2.St} {i : Int} {x : Str} {a : Addr} {b : Bool}
theorem isT_no {v : V} (h : v ≠ .bl b) (q : Q (.bl false) H) : rIsT v (.bl b) H Q := ⟨b, rfl, by rw [decide_eq_false h]; exact q⟩
theorem w_isTI (q : Q (.bl false) H) : rIsT (.int i) (.bl b) H Q := isT_no (fun z => by cases z) q
theorem w_isTS (q : Q (.bl false) H) : rIsT (.str x) (.bl b) H Q := isT_no (fun z => by cases z) q
theorem w_isTR (q : Q (.bl false) H) : rIsT (.ref a) (.bl b) H Q := isT_no (fun z => by cases z) q
theorem w_isTN (q : Q (.bl false) H) : rIsT .non (.bl b) H Q := isT_no (fun z => by cases z) q
theorem w_isTtt (q : Q (.bl true) H) : rIsT (.bl b) (.bl b) H Q := ⟨b, rfl, by rw [decide_eq_true rfl]; exact q⟩
theorem w_isTft (q : Q (.bl false) H) : rIsT (.bl false) (.bl true) H Q := isT_no (fun z => by cases z) q
theorem w_isTtf (q : Q (.bl false) H) : rIsT (.bl true) (.bl false) H Q := isT_no (fun z => by cases z) q
theorem w_isNS (q : Q (.bl false) H) : rIsN (.str x) V.non H Q := Dq.w_isNb (decide_eq_false (fun z => by cases z)) q
theorem w_isNB (q : Q (.bl false) H) : rIsN (.bl b) V.non H Q := Dq.w_isNb (decide_eq_false (fun z => by cases z)) q
theorem ty_sqT {xs : List V} (h : SqT K H a xs) : TyX K H (.ref a) (.type "tuple") := by
  rcases h with (h | ⟨o, h⟩) | ⟨o, its, n, h1, h2, _⟩
  · exact .base (.tup h)
  · exact .fTuple h
  · exact .kTuple h1 h2
theorem w_isiRS {xs : List V} (h : SqT K H a xs) (q : Q (.bl false) H) : L2.rIsi K [.ref a, .ty "str"] H Q := ⟨_, _, _, _, _, rfl, .ty _, ty_sqT h, rfl, q⟩
theorem w_isiRT {xs : List V} (h : SqT K H a xs) (q : Q (.bl true) H) : L2.rIsi K [.ref a, .ty "tuple"] H Q := ⟨_, _, _, _, _, rfl, .ty _, ty_sqT h, rfl, q⟩
theorem w_isiRI {xs : List V} (h : SqT K H a xs) (q : Q (.bl false) H) : L2.rIsi K [.ref a, .ty "int"] H Q := ⟨_, _, _, _, _, rfl, .ty _, ty_sqT h, rfl, q⟩
theorem w_isiIT (q : Q (.bl false) H) : L2.rIsi K [.int i, .ty "tuple"] H Q := ⟨_, _, _, _, _, rfl, .ty _, .base (.int i), rfl, q⟩
theorem w_isiII (q : Q (.bl true) H) : L2.rIsi K [.int i, .ty "int"] H Q := ⟨_, _, _, _, _, rfl, .ty _, .base (.int i), rfl, q⟩
theorem ofString_app (a b : String) : Str.ofString (a ++ b) = Str.ofString a ++ Str.ofString b := by
  refine TL.ext_tl ?_
  rw [TL.tl_append, Str.ofString_eq_toList, Str.ofString_eq_toList, Str.ofString_eq_toList]
  simp [TL.tl, String.toList_append]
/-- str(a whole number) -/
theorem int_S (i : Int) : Str.ofString (toString i) = S (M7.intL i) := by
  unfold M7.intL
  split
  · rename_i h
    rw [PyProof.Rows.toString_neg h, show (0 - i : Int) = ((i.natAbs : Nat) : Int) by omega]
    have e : ∀ s : String, Str.ofString ("-" ++ s) = S [45] ++ Str.ofString s := fun s => by
      have h := ofString_app "-" s
      exact h
    rw [e, SX.num_S]
    exact S_cat [45] _
  · rw [show i = ((i.natAbs : Nat) : Int) by omega, SX.num_S, Int.natAbs_natCast]
theorem log_small {i : Int} (h : (M7.intL i).length ≤ 30) : i.natAbs.log2 < 1920 := by
  have h1 := M7.int_lt h
  exact Nat.lt_of_lt_of_le (PySem.Flt.log2_lt_of (k := 100) (by decide) (Nat.lt_of_lt_of_le h1 (by decide))) (by decide)
theorem w_strI (h : i.natAbs.log2 < 1920) (q : Q (.str (S (M7.intL i))) H) : (fun xs H Q => ∃ i, xs = [V.int i] ∧ i.natAbs.log2 < 1920 ∧ Q (.str (toString i)) H : List V → Hp → VK → Prop) [.int i] H Q := ⟨i, rfl, h, by
  rw [show ((toString i : String) : Str) = Str.ofString (toString i) from rfl, int_S]; exact q⟩
theorem w_strN {n : Nat} (h : n < 2 ^ 1000) (q : Q (.str (S (TL.numL n))) H) : (fun xs H Q => ∃ i, xs = [V.int i] ∧ i.natAbs.log2 < 1920 ∧ Q (.str (toString i)) H : List V → Hp → VK → Prop) [.int (n : Int)] H Q := ⟨n, rfl, by
  rw [Int.natAbs_natCast]
  exact Nat.lt_of_lt_of_le (PySem.Flt.log2_lt_of (k := 1000) (by decide) h) (by decide), by
  rw [show ((toString (n : Int) : String) : Str) = Str.ofString (toString (n : Int)) from rfl, SX.num_S]; exact q⟩
/-- ''.join of texts -/
theorem join_len (ls : List (List Nat)) : ((ls.map S).map (·.length)).sum + (ls.map S).length * (S []).length = ls.flatten.length := by
  rw [List.map_map, S_len, List.length_nil, Nat.mul_zero, Nat.add_zero, show ((fun x : Str => x.length) ∘ S) = (fun l : List Nat => l.length) from funext fun l => S_len l, ← List.length_flatten]
theorem join_eq (ls : List (List Nat)) : Txt.join (S []) (ls.map S) = S ls.flatten := by
  have e : ∀ ls : List (List Nat), TL.joinL [] ls = ls.flatten := by
    intro ls
    induction ls with
    | nil => rfl
    | cons a r ih =>
      cases r with
      | nil => simp [TL.joinL]
      | cons b r => rw [TL.joinL, ih]; simp
  rw [show S ([] : List Nat) = SX.S [] from rfl, SX.join_S, e]
theorem join_sq {p : Addr} {ls : List (List Nat)} (h : H p = some (.lst (ls.map fun l => V.str (S l)))) : SqL K H p ((ls.map S).map V.str) := SqL.of (by rw [List.map_map]; exact h)
theorem mul_eq (l : List Nat) (n : Nat) : Txt.mul (S l) (n : Int) = S (List.replicate n l).flatten := by
  have key : ∀ (k : Nat) (acc : Array Nat), (List.replicate k l.toArray).foldl (· ++ ·) acc = acc ++ (List.replicate k l).flatten.toArray := fun k => by
    induction k with
    | zero => intro acc; simp
    | succ k ih => intro acc; rw [List.replicate_succ, List.foldl_cons, ih, List.replicate_succ, List.flatten_cons]; simp
  unfold Txt.mul
  split
  · have : n = 0 := by omega
    subst this; rfl
  · split
    · rename_i h0 h
      rw [Bool.or_eq_true] at h
      rcases h with h | h
      · have : n = 1 := by have := eq_of_beq h; omega
        subst this; simp
      · have hl : l = [] := by have := eq_of_beq h; rw [S_len] at this; exact List.length_eq_zero_iff.mp this
        subst hl; simp
    · show (⟨(List.replicate n l.toArray).foldl (· ++ ·) #[]⟩ : Str) = _
      rw [key]
      simp [SX.S]
end
end Ftw
end

section
-- part Fpr
set_option Elab.async false
set_option linter.all false
set_option maxRecDepth 100000
set_option maxHeartbeats 800000
/-! Fpr: pairs that rank values: their order, sorted, dict of them -/
namespace Fpr
open PySem PySem.Spec PyProof.Rows L2 Fw M5 Gk
def rkK : RV → List Key
  | .non => [.inl 0, .inl 0]
  | .txt l => [.inl 2, .inr (S l)]
  | .num n => [.inl 1, .inl n]
def rkV : RV → List V
  | .non => [.int 0, .int 0]
  | .txt l => [.int 2, .str (S l)]
  | .num n => [.int 1, .int n]
theorem rkV_kK (v : RV) : rkV v = (rkK v).map kV := by cases v <;> rfl
section
open AutoSeq1 (wpAny_loadPart')
open MeetsSeq MeetsSeq2 MeetsSeq3 SeqRoads2 SeqAt
/-- pairs: how far the walk has come -/
inductive Way (p q : Value × Value) (e0 e1 : Bool) : List (Value × Value) → Prop
  | two : Way p q e0 e1 [p, q]
  | one : e0 = true → Way p q e0 e1 [q]
  | nil : e0 = true → e1 = true → Way p q e0 e1 []
theorem pair_lt (l b : Addr) (a0 a1 b0 b1 : Value) (n n2 : Nat) (dd dd2 : Option Addr) (sl sl2 : Array (Option Value)) (e0 e1 r0 r1 : Bool) :
    Meets (Builtin.«tuple.__lt__» ⟨[.ref l, .ref b], []⟩)
      (fun A R s => s.heap.get? l = some { cls := .type "tuple", dict := dd, data := .seq #[a0, a1] n, slots := sl } ∧ s.heap.get? b = some { cls := .type "tuple", dict := dd2, data := .seq #[b0, b1] n2, slots := sl2 } ∧
        EqAt A.in1 s a0 b0 e0 ∧ (e0 = false → RcLt A.in1 s a0 b0 r0) ∧ (e0 = true → EqAt A.in1 s a1 b1 e1) ∧ (e0 = true → e1 = false → RcLt A.in1 s a1 b1 r1) ∧
        R (.ok (.ret (.bool (if e0 = true then (if e1 = true then false else r1) else r0)))) s) :=
  .of_wp fun prog w A R s h => by
    obtain ⟨hp, g, d, tk, os⟩ := s
    obtain ⟨hl, hb, hE0, hR0, hE1, hR1, h⟩ := h
    have f2 := AutoSeq1.sub_tuple_tuple
    wp_walk using wpAny_loadPart' hl, wpAny_loadPart' hb, wpAny_forIn_list _ (fun rest st s' => st.1 = none ∧ s' = ⟨hp, g, d, tk, os⟩ ∧ Way (a0, b0) (a1, b1) e0 e1 rest) _
    case turn =>
      rintro ⟨y, x⟩ rest st s' ⟨hs, rfl, hz⟩
      generalize hq : (y, x) :: rest = z at hz
      cases hz with
      | two =>
        cases hq
        refine wpAny_bind (hE0 prog w _ _ ?_)
        cases e0 with
        | true =>
          wp_walk
          exact ⟨rfl, rfl, .one rfl⟩
        | false =>
          have less : ∀ E Q, Q (.bool r0) ⟨hp, g, d, tk, os⟩ → wpAny (model prog w) A.in1 (richCompare .Lt a0 b0) Q E ⟨hp, g, d, tk, os⟩ := hR0 rfl prog w
          generalize richCompare .Lt a0 b0 = cmp at less ⊢
          wp_walk
          refine less _ _ ?_
          wp_walk
          exact ⟨_, rfl, h⟩
      | one e0t =>
        subst e0t
        cases hq
        refine wpAny_bind (hE1 rfl prog w _ _ ?_)
        cases e1 with
        | true =>
          wp_walk
          exact ⟨rfl, rfl, .nil rfl rfl⟩
        | false =>
          have less : ∀ E Q, Q (.bool r1) ⟨hp, g, d, tk, os⟩ → wpAny (model prog w) A.in1 (richCompare .Lt a1 b1) Q E ⟨hp, g, d, tk, os⟩ := hR1 rfl rfl prog w
          generalize richCompare .Lt a1 b1 = cmp at less ⊢
          wp_walk
          refine less _ _ ?_
          wp_walk
          exact ⟨_, rfl, h⟩
      | nil => cases hq
    case fin =>
      rintro ⟨s1, s2⟩ s' ⟨hs, rfl, hz⟩
      simp only at hs
      subst hs
      generalize hq : ([] : List (Value × Value)) = z at hz
      cases hz with
      | two => cases hq
      | one => cases hq
      | nil h1 h2 =>
        subst h1 h2
        wp_walk
        exact ⟨_, rfl, by simpa [Builtin.Tuple.tupleCompareSizes] using h⟩
    case h => exact ⟨rfl, rfl, .two⟩
variable {A : Around} {s : Shared}
theorem rcLt_pair {l b : Addr} {a0 a1 b0 b1 : Value} {e0 e1 r0 r1 : Bool} (hl : s.heap.IsTuple l #[a0, a1]) (hb : s.heap.IsTuple b #[b0, b1]) (hu : A.units < cLine)
    (hE0 : EqAt A.in1 s a0 b0 e0) (hR0 : e0 = false → RcLt A.in1 s a0 b0 r0) (hE1 : e0 = true → EqAt A.in1 s a1 b1 e1) (hR1 : e0 = true → e1 = false → RcLt A.in1 s a1 b1 r1) :
    RcLt A s (.ref l) (.ref b) (if e0 = true then (if e1 = true then false else r1) else r0) := fun prog w E Q h => by
  obtain ⟨⟨cls, dd, data, sl⟩, ho, hc, n, hd⟩ := id hl
  obtain ⟨⟨cls2, dd2, data2, sl2⟩, ho2, hc2, n2, hd2⟩ := id hb
  simp only at hc hd hc2 hd2
  subst hc hd hc2 hd2
  exact richCompare_meets_room (op := .Lt) ⟨_, ho, rfl⟩ ⟨_, ho2, rfl⟩ F.slot_tuple_lt F.entry_tuple_lt (F.args_tuple_lt_2 _ _) (pair_lt l b a0 a1 b0 b1 n n2 dd dd2 sl sl2 e0 e1 r0 r1)
    ⟨ho, ho2, hE0, hR0, hE1, hR1, ⟨(fun x => nomatch x), h⟩⟩ hu
end
section
open SeqAt
theorem S_inj2 {l m : List Nat} (h : S l = S m) : l = m := by rw [← S_list l, h, S_list]
theorem S_beq (l m : List Nat) : (S l == S m) = decide (l = m) := by
  rw [Bool.eq_iff_iff, beq_iff_eq, decide_eq_true_iff]
  exact ⟨S_inj2, fun e => by rw [e]⟩
/-- a rank's two places -/
def rk1 : RV → Int
  | .non => 0
  | .txt _ => 2
  | .num _ => 1
def rk2 : RV → V
  | .non => .int 0
  | .txt l => .str (S l)
  | .num n => .int n
theorem rkV_eq (v : RV) : rkV v = [.int (rk1 v), rk2 v] := by cases v <;> rfl
theorem rkV_inj : ∀ {v w : RV}, rkV v = rkV w → v = w
  | .non, .non, _ => rfl
  | .txt l, .txt m, h => by
    simp only [rkV, List.cons.injEq, V.str.injEq] at h
    rw [S_inj2 h.2.1]
  | .num n, .num m, h => by
    simp only [rkV, List.cons.injEq, V.int.injEq] at h
    rw [h.2.1]
  | .non, .txt _, h => by simp [rkV] at h
  | .non, .num _, h => by simp [rkV] at h
  | .txt _, .non, h => by simp [rkV] at h
  | .txt _, .num _, h => by simp [rkV] at h
  | .num _, .non, h => by simp [rkV] at h
  | .num _, .txt _, h => by simp [rkV] at h
variable {A : Around} {s : Shared}
theorem second_eq : ∀ {v w : RV} {x y : Value}, rk1 v = rk1 w → RelV (rk2 v) x → RelV (rk2 w) y → EqAt A s x y (decide (v = w))
  | .non, .non, _, _, _, hx, hy => by
    obtain ⟨t, rfl⟩ := hx
    obtain ⟨u, rfl⟩ := hy
    exact EqAt.int_int 0 t 0 u
  | .txt l, .txt m, _, _, _, hx, hy => by
    obtain ⟨t, rfl⟩ := hx
    obtain ⟨u, rfl⟩ := hy
    have := EqAt.str_str (A := A) (s := s) (S l) t (S m) u
    have e : (S l == S m) = decide (RV.txt l = RV.txt m) := by rw [S_beq, decide_eq_decide]; exact ⟨fun e => by rw [e], fun e => RV.txt.inj e⟩
    rw [← e]
    exact this
  | .num n, .num m, _, _, _, hx, hy => by
    obtain ⟨t, rfl⟩ := hx
    obtain ⟨u, rfl⟩ := hy
    have := EqAt.int_int (A := A) (s := s) n t m u
    have e : (n == m) = decide (RV.num n = RV.num m) := by rw [Bool.beq_eq_decide_eq, decide_eq_decide]; exact ⟨fun e => by rw [e], fun e => RV.num.inj e⟩
    rw [← e]
    exact this
  | .non, .txt _, _, _, h, _, _ => absurd (show (0 : Int) = 2 from h) (by decide)
  | .non, .num _, _, _, h, _, _ => absurd (show (0 : Int) = 1 from h) (by decide)
  | .txt _, .non, _, _, h, _, _ => absurd (show (2 : Int) = 0 from h) (by decide)
  | .txt _, .num _, _, _, h, _, _ => absurd (show (2 : Int) = 1 from h) (by decide)
  | .num _, .non, _, _, h, _, _ => absurd (show (1 : Int) = 0 from h) (by decide)
  | .num _, .txt _, _, _, h, _, _ => absurd (show (1 : Int) = 2 from h) (by decide)
theorem rk2_kind (v : RV) : (∃ n, rk2 v = .int n) ∨ ∃ x, rk2 v = .str x := by cases v with
  | non => exact .inl ⟨0, rfl⟩
  | txt l => exact .inr ⟨S l, rfl⟩
  | num n => exact .inl ⟨n, rfl⟩
theorem second_any {v w : RV} {x y : Value} (hx : RelV (rk2 v) x) (hy : RelV (rk2 w) y) : ∃ k, EqAt A s x y k := by
  rcases rk2_kind v with ⟨n, e⟩ | ⟨n, e⟩ <;> rcases rk2_kind w with ⟨m, e2⟩ | ⟨m, e2⟩ <;> rw [e] at hx <;> rw [e2] at hy <;> obtain ⟨t, rfl⟩ := hx <;> obtain ⟨u, rfl⟩ := hy
  · exact ⟨_, EqAt.int_int n t m u⟩
  · exact ⟨_, EqAt.int_str n t m u⟩
  · exact ⟨_, EqAt.str_int n t m u⟩
  · exact ⟨_, EqAt.str_str n t m u⟩
theorem second_lt : ∀ {v w : RV} {x y : Value}, rk1 v = rk1 w → RelV (rk2 v) x → RelV (rk2 w) y → RcLt A s x y (vlt v w)
  | .non, .non, _, _, _, hx, hy => by
    obtain ⟨t, rfl⟩ := hx
    obtain ⟨u, rfl⟩ := hy
    intro prog wd E Q q
    exact P.lt_int (a := 0) (b := 0) q
  | .txt l, .txt m, _, _, _, hx, hy => by
    obtain ⟨t, rfl⟩ := hx
    obtain ⟨u, rfl⟩ := hy
    intro prog wd E Q q
    refine P.lt_str (x := S l) (y := S m) ?_
    rw [S_list, S_list]
    exact q
  | .num n, .num m, _, _, _, hx, hy => by
    obtain ⟨t, rfl⟩ := hx
    obtain ⟨u, rfl⟩ := hy
    intro prog wd E Q q
    exact P.lt_int (a := n) (b := m) q
  | .non, .txt _, _, _, h, _, _ => absurd (show (0 : Int) = 2 from h) (by decide)
  | .non, .num _, _, _, h, _, _ => absurd (show (0 : Int) = 1 from h) (by decide)
  | .txt _, .non, _, _, h, _, _ => absurd (show (2 : Int) = 0 from h) (by decide)
  | .txt _, .num _, _, _, h, _, _ => absurd (show (2 : Int) = 1 from h) (by decide)
  | .num _, .non, _, _, h, _, _ => absurd (show (1 : Int) = 0 from h) (by decide)
  | .num _, .txt _, _, _, h, _, _ => absurd (show (1 : Int) = 2 from h) (by decide)
theorem vlt_first {v w : RV} (h : rk1 v ≠ rk1 w) : vlt v w = decide (rk1 v < rk1 w) := by
  cases v <;> cases w <;> first | exact absurd rfl h | rfl
theorem vlt_self (v : RV) : vlt v v = false := by
  cases v with
  | non => rfl
  | txt l => exact decide_eq_false (List.lt_irrefl l)
  | num n => exact decide_eq_false (Int.lt_irrefl n)
theorem rank_lt {v w : RV} {z z' : Addr} {its its2 : List Value} (hz : IsTup s.heap z its.toArray) (hz' : IsTup s.heap z' its2.toArray) (r : Vals (rkV v) its) (r' : Vals (rkV w) its2) (hu : A.units < cLine) : RcLt A s (.ref z) (.ref z') (vlt v w) := by
  rw [rkV_eq] at r r'
  obtain ⟨a0, us, rfl, ra0, us2⟩ : ∃ a us, its = a :: us ∧ RelV (.int (rk1 v)) a ∧ Vals [rk2 v] us := by cases r with | cons a b => exact ⟨_, _, rfl, a, b⟩
  obtain ⟨a1, rfl, ra1⟩ := us2.one
  obtain ⟨b0, ws, rfl, rb0, ws2⟩ : ∃ a us, its2 = a :: us ∧ RelV (.int (rk1 w)) a ∧ Vals [rk2 w] us := by cases r' with | cons a b => exact ⟨_, _, rfl, a, b⟩
  obtain ⟨b1, rfl, rb1⟩ := ws2.one
  obtain ⟨t, rfl⟩ := ra0
  obtain ⟨u, rfl⟩ := rb0
  have key := rcLt_pair (A := A) (s := s) (e0 := rk1 v == rk1 w) (r0 := decide (rk1 v < rk1 w)) (e1 := decide (v = w)) (r1 := vlt v w) hz hz' hu (EqAt.int_int _ t _ u) (fun _ prog wd E Q q => P.lt_int q)
    (fun e => second_eq (eq_of_beq e) ra1 rb1) (fun e _ => second_lt (eq_of_beq e) ra1 rb1)
  have e : (if (rk1 v == rk1 w) = true then (if decide (v = w) = true then false else vlt v w) else decide (rk1 v < rk1 w)) = vlt v w := by
    by_cases c : rk1 v = rk1 w
    · rw [if_pos (beq_iff_eq.mpr c)]
      by_cases c2 : v = w
      · subst c2
        rw [if_pos (decide_eq_true rfl), vlt_self]
      · rw [if_neg (fun h => c2 (of_decide_eq_true h))]
    · rw [if_neg (fun h => c (eq_of_beq h)), vlt_first c]
  rw [e] at key
  exact key
theorem rank_eq {v w : RV} {z z' : Addr} {its its2 : List Value} (hz : IsTup s.heap z its.toArray) (hz' : IsTup s.heap z' its2.toArray) (r : Vals (rkV v) its) (r' : Vals (rkV w) its2) (hu : A.units < cLine) (same : z = z' → v = w) : EqAt A s (.ref z) (.ref z') (decide (v = w)) := by
  by_cases c : z = z'
  · have := same c
    subst c this
    rw [decide_eq_true rfl]
    exact EqAt.same _
  rw [rkV_eq] at r r'
  obtain ⟨a0, us, rfl, ra0, us2⟩ : ∃ a us, its = a :: us ∧ RelV (.int (rk1 v)) a ∧ Vals [rk2 v] us := by cases r with | cons a b => exact ⟨_, _, rfl, a, b⟩
  obtain ⟨a1, rfl, ra1⟩ := us2.one
  obtain ⟨b0, ws, rfl, rb0, ws2⟩ : ∃ a us, its2 = a :: us ∧ RelV (.int (rk1 w)) a ∧ Vals [rk2 w] us := by cases r' with | cons a b => exact ⟨_, _, rfl, a, b⟩
  obtain ⟨b1, rfl, rb1⟩ := ws2.one
  obtain ⟨t, rfl⟩ := ra0
  obtain ⟨u, rfl⟩ := rb0
  refine EqAt.of_refs c ?_
  by_cases c0 : rk1 v = rk1 w
  · have := RcAt.tuples (A := A) (s := s) (e := fun j => if j = 0 then true else decide (v = w)) hz hz' hu (fun j j1 j2 => by
      match j, j1 with
      | 0, _ =>
        have := EqAt.int_int (A := A.in1) (s := s) (rk1 v) t (rk1 w) u
        rw [show (rk1 v == rk1 w) = true from beq_iff_eq.mpr c0] at this
        exact this
      | 1, _ => exact second_eq c0 ra1 rb1)
    simpa [List.range_succ] using this
  · have e : decide (v = w) = false := decide_eq_false fun h => c0 (by rw [h])
    rw [e]
    obtain ⟨k, hk⟩ := second_any (A := A.in1) (s := s) ra1 rb1
    have := RcAt.tuples (A := A) (s := s) (e := fun j => if j = 0 then false else k) hz hz' hu (fun j j1 j2 => by
      match j, j1 with
      | 0, _ =>
        have := EqAt.int_int (A := A.in1) (s := s) (rk1 v) t (rk1 w) u
        rw [show (rk1 v == rk1 w) = false from beq_eq_false_iff_ne.mpr c0] at this
        exact this
      | 1, _ => exact hk)
    simpa [List.range_succ] using this
end

theorem rkK_inj {v w : RV} (h : rkK v = rkK w) : v = w := rkV_inj (by rw [rkV_kK, rkV_kK, h])
section
variable {X : Cx}
/-- v's pair stands at a -/
abbrev At2 (K : PySem.W.Frag) (H : Hp) (p : Addr × RV) : Prop := SqT K H p.1 (rkV p.2)
def rLtPr (K : PySem.W.Frag) : R2 := fun x y H Q => ∃ (a b : Addr) (v w : RV), x = .ref a ∧ y = .ref b ∧ SqT K H a (rkV v) ∧ SqT K H b (rkV w) ∧ Q (.bl (vlt v w)) H
theorem op_ltPr (K0 : PySem.W.Frag) (hK : X.K = K0) (hu : X.A.units + 64 < cLine) : OpR X (compareOp .Lt) (rLtPr K0) := by
  subst hK
  intro pins s σ H x y v u Q I rx ry h
  obtain ⟨a, b, v, w, rfl, rfl, ha, hb, q⟩ := h
  cases rx
  cases ry
  obtain ⟨us, u1, u2, _⟩ := I.tuple ha
  obtain ⟨ws, w1, w2, _⟩ := I.tuple hb
  exact rank_lt u2 w2 u1 w1 (show X.A.units < cLine by omega) X.prog X.w _ _ ⟨.bl (vlt v w), H, I, rfl, q⟩
/-- a text's pair -/
def isT : RV → Bool
  | .txt _ => true
  | _ => false
def shp (b : Bool) : Nat → Bool := fun i => b && i == 1
def rkN : RV → List (Int ⊕ List Nat)
  | .non => [.inl 0, .inl 0]
  | .txt l => [.inl 2, .inr l]
  | .num n => [.inl 1, .inl n]
theorem items_rk {v : RV} {us : List Value} (r : Vals (rkV v) us) : tupItems (shp (isT v)) 0 us = some (rkN v) ∧ ∃ i t r, us = .int i t :: r := by
  rw [rkV_eq] at r
  obtain ⟨a0, us2, rfl, ra0, rr⟩ : ∃ a us', us = a :: us' ∧ RelV (.int (rk1 v)) a ∧ Vals [rk2 v] us' := by cases r with | cons a b => exact ⟨_, _, rfl, a, b⟩
  obtain ⟨a1, rfl, ra1⟩ := rr.one
  obtain ⟨t, rfl⟩ := ra0
  refine ⟨?_, _, _, _, rfl⟩
  cases v with
  | non => obtain ⟨u, rfl⟩ := ra1; rfl
  | txt l =>
    obtain ⟨u, rfl⟩ := ra1
    show some [Sum.inl 2, Sum.inr (S l).cps.toList] = _
    rw [S_list]
    rfl
  | num n => obtain ⟨u, rfl⟩ := ra1; rfl
end
end Fpr
end

section
-- part Fpr2
set_option Elab.async false
set_option linter.all false
set_option maxRecDepth 100000
set_option maxHeartbeats 800000
/-! Fpr2: sorted of ranking pairs, dict of them -/
namespace Fpr
open PySem PySem.Spec PyProof.Rows L2 Fw M5 Gk
section
variable {X : Cx}
theorem lt_rkN {v w : RV} (h : isT v = isT w) : PyProof.Rows.lexLt itemOrd (rkN v) (rkN w) = vlt v w := by
  cases v <;> cases w <;> simp_all [isT, rkN, PyProof.Rows.lexLt, itemOrd, itemLt, vlt, PyProof.Rows.strKind]
/-- sorted of a list of ranking pairs of one kind -/
def rSortPr (K : PySem.W.Frag) : List V → Hp → VK → Prop := fun vs H Q => ∃ (a : Addr) (ks : List (Addr × RV)) (b : Bool), vs = [V.ref a] ∧ SqL K H a (ks.map fun p => V.ref p.1) ∧ (∀ p ∈ ks, At2 K H p ∧ isT p.2 = b) ∧
  ∀ (ls : List (Addr × RV)) (p : Addr), (ls.map (·.2)).Perm (ks.map (·.2)) → (∀ p ∈ ls, p ∈ ks) → ls.Pairwise (fun q r => vlt r.2 q.2 = false) → H p = none → Q (.ref p) (upd H p (.lst (ls.map fun q => V.ref q.1)))
theorem vals_refs {α : Type} {f : α → Addr} : ∀ {ks : List α} {us : List Value}, Vals (ks.map fun p => V.ref (f p)) us → us = ks.map fun p => Value.ref (f p)
  | [], _, .nil => rfl
  | p :: ks, _, .cons r t => by
    cases r
    rw [vals_refs t]
    rfl
theorem refs_vals {α : Type} {f : α → Addr} : ∀ ks : List α, Vals (ks.map fun p => V.ref (f p)) (ks.map fun p => Value.ref (f p))
  | [] => .nil
  | p :: ks => .cons rfl (refs_vals ks)
/-- values that are all from the list are the image of some -/
theorem from_ks {ks : List (Addr × RV)} : ∀ {vs : List Value}, (∀ v ∈ vs, ∃ p ∈ ks, v = Value.ref p.1) → ∃ ls : List (Addr × RV), vs = ls.map (fun p => Value.ref p.1) ∧ ∀ p ∈ ls, p ∈ ks
  | [], _ => ⟨[], rfl, fun p h => by cases h⟩
  | v :: vs, h => by
    obtain ⟨p, hp, e⟩ := h v List.mem_cons_self
    obtain ⟨ls, e2, h2⟩ := from_ks fun u hu => h u (List.mem_cons_of_mem _ hu)
    refine ⟨p :: ls, by rw [e, e2]; rfl, fun q hq => ?_⟩
    rcases List.mem_cons.mp hq with rfl | hq
    · exact hp
    · exact h2 q hq
section
variable {pins : List (Addr × Obj)} {σ : L2.St} {H : Hp} {s : Shared}
theorem at_obj (I : Inv X pins σ H s) {p : Addr × RV} (h : At2 X.K H p) : ∃ o us n, s.heap.get? p.1 = some o ∧ o.cls = .type "tuple" ∧ o.data = .seq (us : List Value).toArray n ∧ Vals (rkV p.2) us := by
  obtain ⟨us, r, ⟨o, ho, hc, n, hd⟩, _⟩ := I.tuple h
  exact ⟨o, us, n, ho, hc, hd, r⟩
theorem at_key (I : Inv X pins σ H s) {p : Addr × RV} {b : Bool} (h : At2 X.K H p) (hb : isT p.2 = b) : G.tupKeyC s.heap (shp b) (.ref p.1) = some (rkN p.2) := by
  obtain ⟨o, us, n, ho, hc, hd, r⟩ := at_obj I h
  subst hb
  exact G.tupKeyC_of ho hc hd (items_rk r).1
theorem at_first (I : Inv X pins σ H s) {p : Addr × RV} {b : Bool} (h : At2 X.K H p) : ∃ f, TupOf s.heap (shp b) (.ref p.1) f := by
  obtain ⟨o, us, n, ho, hc, hd, r⟩ := at_obj I h
  obtain ⟨_, i, t, q, rfl⟩ := items_rk r
  refine ⟨.int i t, _, o, _, n, rfl, ho, hc, hd, rfl, fun _ => ⟨i, t, rfl⟩, fun z => ?_⟩
  cases b <;> cases z
theorem at_firsts (I : Inv X pins σ H s) {b : Bool} : ∀ {ks : List (Addr × RV)}, (∀ p ∈ ks, At2 X.K H p) → ∃ fs, TupsOf s.heap (shp b) (ks.map fun p => Value.ref p.1) fs
  | [], _ => ⟨[], .nil⟩
  | p :: ks, h => by
    obtain ⟨f, hf⟩ := at_first (b := b) I (h p List.mem_cons_self)
    obtain ⟨fs, hfs⟩ := at_firsts (b := b) I fun q hq => h q (List.mem_cons_of_mem _ hq)
    exact ⟨f :: fs, .cons hf hfs⟩
end
end
end Fpr
end

section
-- part Fpr3
set_option Elab.async false
set_option linter.all false
set_option maxRecDepth 100000
set_option maxHeartbeats 800000
namespace Fpr
open PySem PySem.Spec PyProof.Rows L2 Fw M5 Gk
section
variable {X : Cx}
theorem rkN_inj : ∀ {v w : RV}, isT v = isT w → rkN v = rkN w → v = w := by
  intro v w h e
  cases v <;> cases w <;> simp_all [isT, rkN]
/-- what the pair at a value ranks -/
def valOf (ks : List (Addr × RV)) (u : Value) : RV := match ks.find? (fun p => decide (Value.ref p.1 = u)) with
  | some p => p.2
  | none => .non
theorem valOf_at {pins : List (Addr × Obj)} {σ : L2.St} {H : Hp} {s : Shared} (I : Inv X pins σ H s) {ks : List (Addr × RV)} {b : Bool} (hk : ∀ p ∈ ks, At2 X.K H p ∧ isT p.2 = b) {p : Addr × RV} (hp : p ∈ ks) : valOf ks (Value.ref p.1) = p.2 := by
  unfold valOf
  cases e : ks.find? (fun q => decide (Value.ref q.1 = Value.ref p.1)) with
  | none =>
    have := List.find?_eq_none.mp e p hp
    simp at this
  | some q =>
    have hq := List.mem_of_find?_eq_some e
    have hc : Value.ref q.1 = Value.ref p.1 := by simpa using List.find?_some e
    injection hc with hc
    have k1 := at_key I (hk q hq).1 (hk q hq).2
    have k2 := at_key I (hk p hp).1 (hk p hp).2
    rw [hc] at k1
    exact rkN_inj ((hk q hq).2.trans (hk p hp).2.symm) (Option.some.inj (k1.symm.trans k2))
theorem cr_sortPr : CallR X (.builtin "sorted") (rSortPr X.K) := by
  intro pins s σ H vs us Q I r h
  obtain ⟨a, ks, b, rfl, hl, hk, q⟩ := h
  obtain ⟨its, rv, pl, hz⟩ := I.list hl
  rw [Vals.ref1 r]
  have ei := vals_refs rv
  subst ei
  rw [List.length_map] at hz
  obtain ⟨fs, hfs⟩ := at_firsts (b := b) I (fun p hp => (hk p hp).1)
  refine G.sorted_tups (shape := shp b) (fs := fs) pl.isList hfs (fun v hv => ?_) (by rw [List.length_map]; exact hz) fun st' h1 h2 h3 => ?_
  · obtain ⟨p, hp, rfl⟩ := List.mem_map.mp hv
    exact ⟨_, at_key I (hk p hp).1 (hk p hp).2⟩
  · have pm := Array.perm_iff_toList_perm.mp h1
    rw [pairsOf_toList] at pm
    have dia : ∀ u ∈ (arrOf st').toList, u.1 = u.2 ∧ ∃ p ∈ ks, u.1 = Value.ref p.1 := fun u hu => by
      obtain ⟨e1, e2⟩ := mem_zip_self (pm.mem_iff.mp hu)
      obtain ⟨p, hp, e3⟩ := List.mem_map.mp e2
      exact ⟨e1, p, hp, e3.symm⟩
    obtain ⟨ls, els, hin⟩ := from_ks (ks := ks) (vs := (arrOf st').toList.map (·.1)) fun v hv => by
      obtain ⟨u, hu, rfl⟩ := List.mem_map.mp hv
      exact (dia u hu).2
    have out : ((arrOf st').map (·.2)).toList = ls.map fun p => Value.ref p.1 := by
      rw [Array.toList_map, ← els]
      exact (List.map_congr_left fun u hu => (dia u hu).1).symm
    have p1 : (ls.map fun p => Value.ref p.1).Perm (ks.map fun p => Value.ref p.1) := by
      rw [← els]
      have := pm.map Prod.fst
      rwa [List.map_fst_zip (Nat.le_refl _)] at this
    have p2 : (ls.map (·.2)).Perm (ks.map (·.2)) := by
      have := p1.map (valOf ks)
      rw [List.map_map, List.map_map] at this
      have c : ∀ l : List (Addr × RV), (∀ p ∈ l, p ∈ ks) → l.map (valOf ks ∘ fun p => Value.ref p.1) = l.map (·.2) := fun l hl => List.map_congr_left fun p hp => by
        show valOf ks (Value.ref p.1) = p.2
        exact valOf_at I hk (hl p hp)
      rwa [c ls hin, c ks fun p hp => hp] at this
    have hlen : ls.length = ks.length := by simpa using p1.length_eq
    have hsz : (arrOf st').toList.length = ls.length := by
      have := congrArg List.length els
      simpa using this
    have kk : ∀ i (h : i < ls.length), KK (G.tupKindC s.heap (shp b)) (arrOf st') i = rkN (ls[i]).2 := fun i h => by
      have e1 : ((arrOf st').toList.map (·.1))[i]? = some (Value.ref (ls[i]).1) := by rw [els, List.getElem?_map, List.getElem?_eq_getElem h]; rfl
      rw [List.getElem?_map] at e1
      obtain ⟨u, hu, e2⟩ := Option.map_eq_some_iff.mp e1
      have e3 : (arrOf st')[i]? = some u := by rw [← Array.getElem?_toList]; exact hu
      unfold KK
      rw [e3]
      show (G.tupKeyC s.heap (shp b) u.1).getD [] = _
      rw [e2, at_key I (hk _ (hin _ (List.getElem_mem h))).1 (hk _ (hin _ (List.getElem_mem h))).2]
      rfl
    have srt : ls.Pairwise (fun q r => vlt r.2 q.2 = false) := by
      rw [List.pairwise_iff_getElem]
      intro i j hi hj hij
      have := h2 i j (Nat.le_of_lt hij) (by rw [pairsOf_size, List.length_map, ← hlen]; exact hj)
      rw [kk i hi, kk j hj] at this
      rw [← lt_rkN ((hk _ (hin _ (List.getElem_mem hj))).2.trans (hk _ (hin _ (List.getElem_mem hi))).2.symm)]
      exact this
    have vv : Vals (ls.map fun p => V.ref p.1) ((arrOf st').map (·.2)).toList := by rw [out]; exact refs_vals ls
    obtain ⟨ep, he'⟩ := PyProof.Rows.sortedAll_at s.heap (ks.map fun p => Value.ref p.1) ((arrOf st').map (·.2))
    refine ⟨.ref _, upd H (s.heap.objs.size + 1) (.lst (ls.map fun p => V.ref p.1)), I.laid (t' := s.toks) (fun _ _ => PyProof.Rows.sortedAll_old) (Nat.le_succ _) ⟨by rw [List.length_map, hlen]; exact hz, _, ep, vv, he'⟩, rfl, q ls _ p2 hin srt (I.hok.fresh (Nat.le_succ _))⟩
/-- dict of a list of (ranking pair, 1) -/
def rDictPr (K : PySem.W.Frag) : List V → Hp → VK → Prop := fun vs H Q => ∃ (a : Addr) (ps : List (Addr × Addr × RV)), vs = [V.ref a] ∧ SqL K H a (ps.map fun p => V.ref p.1) ∧ (∀ p ∈ ps, SqT K H p.1 [.ref p.2.1, .int 1] ∧ H p.2.1 = some (.tup (rkV p.2.2))) ∧
  ∀ (kvs : List (List Key × V)) (p : Addr), (kvs.map (·.1)).Nodup → (∀ k, k ∈ kvs.map (·.1) ↔ k ∈ ps.map fun p => rkK p.2.2) → H p = none → Q (.ref p) (upd H p (.dT kvs))
theorem stored_keys (xs : List (List Key × Addr × Value)) (k : List Key) (a : Addr) (v : Value) (z : List Key) : z ∈ (storedH xs k a v).map (·.1) ↔ z ∈ xs.map (·.1) ∨ z = k := by
  cases e : atKey xs k with
  | none =>
    rw [storedH_new e, List.map_append, List.mem_append]
    simp
  | some p =>
    rw [storedH_old e, keys_map_putAt]
    refine ⟨.inl, fun h => h.elim id fun h => ?_⟩
    subst h
    obtain ⟨y, hy, _⟩ := Option.map_eq_some_iff.mp e
    have h1 := List.mem_of_find?_eq_some hy
    have h2 : y.1 = z := by simpa using List.find?_some hy
    exact h2 ▸ List.mem_map.mpr ⟨y, h1, rfl⟩
theorem all_keys (ps : List (List Key × Addr × Value)) : ∀ (xs : List (List Key × Addr × Value)) (z : List Key), z ∈ (storedAllH xs ps).map (·.1) ↔ z ∈ xs.map (·.1) ∨ z ∈ ps.map (·.1) := by
  induction ps with
  | nil => intro xs z; simp [storedAllH]
  | cons p ps ih =>
    intro xs z
    show z ∈ (storedAllH (storedH xs p.1 p.2.1 p.2.2) ps).map (·.1) ↔ _
    rw [ih, stored_keys, List.map_cons, List.mem_cons, or_assoc]
theorem stored_ok {R : List Key × Addr → Prop} {T : Value → Prop} {xs : List (List Key × Addr × Value)} {k : List Key} {a : Addr} {v : Value} (h : ∀ x ∈ xs, R (x.1, x.2.1) ∧ T x.2.2) (hk : R (k, a)) (hv : T v) : ∀ x ∈ storedH xs k a v, R (x.1, x.2.1) ∧ T x.2.2 := by
  intro x hx
  cases e : atKey xs k with
  | none =>
    rw [storedH_new e] at hx
    rcases List.mem_append.mp hx with hx | hx
    · exact h x hx
    · rw [List.mem_singleton.mp hx]
      exact ⟨hk, hv⟩
  | some p =>
    rw [storedH_old e] at hx
    obtain ⟨y, hy, rfl⟩ := List.mem_map.mp hx
    unfold putAt
    split
    · exact ⟨(h y hy).1, hv⟩
    · exact h y hy
theorem all_ok {R : List Key × Addr → Prop} {T : Value → Prop} (ps : List (List Key × Addr × Value)) : ∀ {xs : List (List Key × Addr × Value)}, (∀ x ∈ xs, R (x.1, x.2.1) ∧ T x.2.2) → (∀ x ∈ ps, R (x.1, x.2.1) ∧ T x.2.2) → ∀ x ∈ storedAllH xs ps, R (x.1, x.2.1) ∧ T x.2.2 := by
  induction ps with
  | nil => intro xs h _ x hx; exact h x hx
  | cons p ps ih =>
    intro xs h hp x hx
    have h0 := hp p List.mem_cons_self
    exact ih (stored_ok h h0.1 h0.2) (fun y hy => hp y (List.mem_cons_of_mem _ hy)) x hx
theorem all_len (ps : List (List Key × Addr × Value)) : ∀ xs : List (List Key × Addr × Value), (storedAllH xs ps).length ≤ xs.length + ps.length := by
  induction ps with
  | nil => intro xs; exact Nat.le_refl _
  | cons p ps ih =>
    intro xs
    have h1 := ih (storedH xs p.1 p.2.1 p.2.2)
    have h2 := storedH_length xs p.1 p.2.1 p.2.2
    show (storedAllH (storedH xs p.1 p.2.1 p.2.2) ps).length ≤ _
    rw [List.length_cons]
    omega
theorem paired_map {α β : Type} {R : β → α → Prop} {f : α → β} : ∀ {l : List α}, (∀ x ∈ l, R (f x) x) → Paired R (l.map f) l
  | [], _ => .nil
  | x :: l, h => .cons (h x List.mem_cons_self) (paired_map fun y hy => h y (List.mem_cons_of_mem _ hy))
theorem prs_of {pins : List (Addr × Obj)} {σ : L2.St} {H : Hp} {s : Shared} (I : Inv X pins σ H s) : ∀ {ps : List (Addr × Addr × RV)}, (∀ p ∈ ps, SqT X.K H p.1 [.ref p.2.1, .int 1] ∧ H p.2.1 = some (.tup (rkV p.2.2))) →
    ∃ prs : List (List Key × Addr × Value), prs.length = ps.length ∧ (prs.map (·.1)) = (ps.map fun p => rkK p.2.2) ∧ ∀ (j : Nat) (x : List Key × Addr × Value), prs[j]? = some x → ∃ p : Addr × Addr × RV, ps[j]? = some p ∧ x.1 = rkK p.2.2 ∧ x.2.1 = p.2.1 ∧ H x.2.1 = some (.tup (x.1.map kV)) ∧ RelV (.int 1) x.2.2 ∧ s.heap.IsTuple p.1 #[.ref x.2.1, x.2.2]
  | [], _ => ⟨[], rfl, rfl, fun j x h => by simp at h⟩
  | p :: ps, h => by
    obtain ⟨prs, e1, e2, e3⟩ := prs_of I fun q hq => h q (List.mem_cons_of_mem _ hq)
    obtain ⟨ht, hk⟩ := h p List.mem_cons_self
    obtain ⟨its, rv, hT, _⟩ := I.tuple ht
    obtain ⟨u, y, ei, ru, ry⟩ := vals2 rv
    subst ei
    cases ru
    refine ⟨(rkK p.2.2, p.2.1, y) :: prs, by rw [List.length_cons, List.length_cons, e1], by rw [List.map_cons, List.map_cons, e2], fun j x hx => ?_⟩
    cases j with
    | zero =>
      have e := Option.some.inj hx
      subst e
      exact ⟨p, rfl, rfl, rfl, by rw [← rkV_kK]; exact hk, ry, hT⟩
    | succ j => exact e3 j x hx
theorem cr_dictPr (hc : X.calm = true) (hu : X.A.units + 64 < cLine) : CallR X (.type "dict") (rDictPr X.K) := by
  intro pins s σ H vs us Q I r h
  obtain ⟨a, ps, rfl, hl, hk, q⟩ := h
  obtain ⟨its, rv, pl, hz⟩ := I.list hl
  rw [Vals.ref1 r]
  have ei := vals_refs rv
  subst ei
  rw [List.length_map] at hz
  obtain ⟨prs, e1, e2, e3⟩ := prs_of I hk
  obtain ⟨o, n, ho, hcl, hd, hdat⟩ := pl
  have good : ∀ x ∈ prs, H x.2.1 = some (.tup (x.1.map kV)) ∧ RelV (.int 1) x.2.2 := fun x hx => by
    obtain ⟨j, hj⟩ := List.getElem?_of_mem hx
    obtain ⟨p, _, _, _, h1, h2, _⟩ := e3 j x hj
    exact ⟨h1, h2⟩
  refine call_dict_pairsH (knd := tupleKind (mixKind X.prog X.w)) (ps := prs) (PairArg.list a (ps.map fun p => Value.ref p.1).toArray (fun j => (ps.map (·.1)).getD j 0) (prs.map fun x => (Value.ref x.2.1, x.2.2))) (I.ok.hd hc) (show X.A.units + 2 < cLine by omega)
    ⟨⟨o, n, ho, hcl, hd, hdat⟩, ⟨by simp [e1], fun j k v hj => ?_⟩⟩ ⟨by rw [List.length_map], fun i key v hi => ?_⟩ (fun h' hk' x hx => ?_) (by rw [List.length_map, e1]; exact hz) fun h' tk hd' hk' => ?_
  · rw [List.getElem?_map] at hj
    obtain ⟨x, hx, e⟩ := Option.map_eq_some_iff.mp hj
    injection e with ek ev
    subst ek ev
    obtain ⟨p, hp, _, h2, _, _, hT⟩ := e3 j x hx
    have eT : (ps.map (·.1)).getD j 0 = p.1 := by rw [List.getD_eq_getElem?_getD, List.getElem?_map, hp]; rfl
    show _ = some (Value.ref ((ps.map (·.1)).getD j 0)) ∧ PairAt s.heap ((ps.map (·.1)).getD j 0) _ _
    rw [eT]
    exact ⟨by simp [hp], .inl hT⟩
  · have hi' : (prs.map fun x => (Value.ref x.2.1, x.2.2))[i]? = some (key, v) := hi
    rw [List.getElem?_map] at hi'
    obtain ⟨x, hx, e⟩ := Option.map_eq_some_iff.mp hi'
    injection e with ek ev
    subst ek ev
    exact ⟨x.1, x.2.1, hx, rfl⟩
  · obtain ⟨o1, items, n1, h1, h2, h3, h4⟩ := key_of I.hok (good x hx).1
    exact ⟨o1, items, n1, hk' _ _ (Nat.ne_of_lt (Heap.lt_size h1)) (fun z => by cases z) h1, h2, h3, h4⟩
  · have hm : (s.heap.objs.size == sysModules) = false := beq_eq_false_iff_ne.mpr (Nat.ne_of_gt I.big)
    have ok := all_ok (R := fun p => H p.2 = some (.tup (p.1.map kV))) (T := fun v => RelV (.int 1) v) prs (xs := []) (fun x hx => by cases hx) good
    have hn : H s.heap.objs.size = none := I.hok.fresh (Nat.le_refl _)
    have hlen : (storedAllH [] prs).length ≤ sizeLine := Nat.le_trans (all_len prs []) (by rw [List.length_nil, Nat.zero_add, e1]; exact hz)
    obtain ⟨o2, es, ep, d1, d2, d3, d4, d5, d6⟩ := hd'
    refine ⟨.ref s.heap.objs.size, upd H s.heap.objs.size (.dT ((storedAllH [] prs).map fun x => (x.1, V.int 1))), I.laid (t' := tk) (fun b u e => hk' b u (fun z => by cases z) e) (Nat.le_refl _) ⟨by rw [List.length_map]; exact hlen, hm, storedAllH [] prs, paired_map fun x hx => ⟨rfl, ?_, (ok x hx).2⟩, o2, es, ep, d1, d2, d3, d4, d6⟩, rfl, q _ _ ?_ (fun k => ?_) hn⟩
    · rw [upd_ne (ne_of_none (ok x hx).1 hn)]
      exact (ok x hx).1
    · rw [List.map_map]
      exact d6
    · rw [List.map_map, ← e2]
      have := all_keys prs [] k
      simpa using this
end
end Fpr
end

section
-- part Fst
set_option Elab.async false
set_option linter.all false
set_option maxRecDepth 100000
set_option maxHeartbeats 1600000
/-! Fst: a set of tuples of ints and texts: how many different ones a list holds -/
namespace Fst
open PySem PySem.Spec PyProof.Rows L2 Fw M5 Gk
abbrev th (P : Program) (w : World) (k : List Key) : Int := tupleKeyHash (mixKind P w) k
abbrev IsK (P : Program) (w : World) (h : Heap) (k : List Key) (b : Addr) : Prop := IsTupleKey (mixKind P w) h k b
abbrev PK := Addr × List Key
/-- an int or a text -/
def Fl (v : Value) : Prop := (∃ i t, v = .int i t) ∨ ∃ x t, v = .str x t
section
variable {P : Program} {w : World} {A : Around} {E : Value → Shared → Prop} {s : Shared}
theorem items_fl {k : List Key} {vs : List Value} (h : ItemsAre (mixKind P w) k vs) : ∀ v ∈ vs, Fl v := by
  induction h with
  | nil => intro v q; cases q
  | @cons k0 u ks us h1 h2 ih =>
    intro v q
    rcases List.mem_cons.mp q with rfl | q
    · rcases keyIs_shape h1 with ⟨i, t, e, rfl⟩ | ⟨x, t, e, rfl⟩
      · exact .inl ⟨i, t, rfl⟩
      · exact .inr ⟨x, t, rfl⟩
    · exact ih v q
theorem fl_cls {v : Value} (h : Fl v) (n : Nat) : ofAClassStatement n v = pure false := by
  rcases h with ⟨i, t, rfl⟩ | ⟨x, t, rfl⟩ <;> cases n <;> rfl
theorem fl_val {v : Value} (h : Fl v) (n : Nat) : ∃ c, hashByValue n v = pure c := by
  rcases h with ⟨i, t, rfl⟩ | ⟨x, t, rfl⟩ <;> cases n <;> exact ⟨_, rfl⟩
theorem tup_cls {k : List Key} {b : Addr} {Q : Bool → Shared → Prop} (hk : IsK P w s.heap k b) (q : Q false s) : wpAny (model P w) A (ofAClassStatement 8 (.ref b)) Q E s := by
  have ty := hk.typeIs
  obtain ⟨o, its, n, h1, _, h2, h3⟩ := hk
  have all := items_fl h3
  unfold ofAClassStatement
  refine wpAny_bind (wpAny_typeOf ty ?_)
  have e : (("tuple" : String) == "tuple") = true := by decide
  simp only [e, if_true]
  refine wpAny_bind (wpAny_pure ?_)
  simp only [Bool.not_true, Bool.false_eq_true, if_false]
  refine wpAny_bind (wpAny_seqItems h1 h2 ?_)
  refine wpAny_bind ?_
  show wpAny _ _ (forIn its _ _) _ _ s
  rw [← Array.forIn_toList]
  refine wpAny_forIn_list _ (fun rest st s' => (st.1 = none ∧ s' = s) ∧ ∀ v ∈ rest, Fl v) _ (fun v rest st s' hi => ?_) (fun st s' hi => ?_) _ _ ⟨⟨rfl, rfl⟩, all⟩
  · obtain ⟨⟨e1, rfl⟩, hf⟩ := hi
    rw [fl_cls (hf v List.mem_cons_self)]
    refine wpAny_bind (wpAny_pure ?_)
    simp only [Bool.false_eq_true, if_false]
    exact wpAny_pure ⟨⟨rfl, rfl⟩, fun u hu => hf u (List.mem_cons_of_mem _ hu)⟩
  · obtain ⟨s1, s2⟩ := st
    obtain ⟨⟨e1, rfl⟩, _⟩ := hi
    simp only at e1
    subst e1
    exact wpAny_pure q
theorem tup_val {k : List Key} {b : Addr} {Q : Bool → Shared → Prop} (hk : IsK P w s.heap k b) (q : ∀ c, Q c s) : wpAny (model P w) A (hashByValue 8 (.ref b)) Q E s := by
  have ty := hk.typeIs
  obtain ⟨o, its, n, h1, _, h2, h3⟩ := hk
  have all := items_fl h3
  unfold hashByValue
  refine wpAny_bind (wpAny_specialOf ty PySem.F.slot_tuple_hash.lookup ?_)
  show wpAny _ _ (seqItems? (.ref b) >>= _) _ _ s
  refine wpAny_bind (wpAny_seqItems h1 h2 ?_)
  refine wpAny_bind ?_
  show wpAny _ _ (forIn its _ _) _ _ s
  rw [← Array.forIn_toList]
  refine wpAny_forIn_list _ (fun rest st s' => s' = s ∧ ∀ v ∈ rest, Fl v) _ (fun v rest st s' hi => ?_) (fun st s' hi => ?_) _ _ ⟨rfl, all⟩
  · obtain ⟨rfl, hf⟩ := hi
    obtain ⟨c, e⟩ := fl_val (hf v List.mem_cons_self) 7
    rw [e]
    refine wpAny_bind (wpAny_pure ?_)
    cases c
    · simp only [Bool.not_false, if_true]
      exact wpAny_pure (wpAny_pure (q false))
    · simp only [Bool.not_true, Bool.false_eq_true, if_false]
      exact wpAny_pure ⟨rfl, fun u hu => hf u (List.mem_cons_of_mem _ hu)⟩
  · obtain ⟨rfl, _⟩ := hi
    obtain ⟨s1, s2⟩ := st
    cases s1 with
    | none => exact wpAny_pure (q true)
    | some c => exact wpAny_pure (q c)
/-- nothing is shown by a search among tuples -/
theorem unseen {k : List Key} {b : Addr} {Q : Bool → Shared → Prop} (hk : IsK P w s.heap k b) {ys : List Value} (hy : ∀ y ∈ ys, ∃ k' c, y = Value.ref c ∧ IsK P w s.heap k' c) (q : Q false s) :
    wpAny (model P w) A (searchCouldBeSeen (.ref b) ys) Q E s := by
  unfold searchCouldBeSeen
  refine wpAny_bind (wpAny_forIn_list _ (fun rest st s' => (st.1 = none ∧ s' = s) ∧ ∀ y ∈ rest, ∃ k' c, y = Value.ref c ∧ IsK P w s.heap k' c) _ (fun v rest st s' hi => ?_) (fun st s' hi => ?_) _ _ ⟨⟨rfl, rfl⟩, hy⟩)
  · obtain ⟨⟨e1, rfl⟩, hf⟩ := hi
    obtain ⟨k', c, rfl, hc⟩ := hf v List.mem_cons_self
    have more := fun u hu => hf u (List.mem_cons_of_mem _ hu)
    dsimp only
    by_cases same : (b == c || (carriedByValue (.ref b) && carriedByValue (.ref c))) = true
    · exact wp_if_pos same (wpAny_pure ⟨⟨rfl, rfl⟩, more⟩)
    · refine wp_if_neg same (wpAny_bind (wpAny_eqIsQuiet_tuple hk ?_))
      simp only [Bool.not_true, Bool.false_eq_true, if_false]
      refine wpAny_bind (wpAny_eqIsQuiet_tuple hc ?_)
      simp only [Bool.not_true, Bool.false_eq_true, if_false]
      refine wpAny_bind (tup_cls hk ?_)
      simp only [Bool.false_eq_true, if_false]
      refine wpAny_bind (tup_cls hc ?_)
      simp only [Bool.false_eq_true, if_false]
      exact wpAny_pure ⟨⟨rfl, rfl⟩, more⟩
  · obtain ⟨s1, s2⟩ := st
    obtain ⟨⟨e1, rfl⟩, _⟩ := hi
    simp only at e1
    subst e1
    exact wpAny_pure q
end
/-- the set at a: its rows, each found again -/
structure SS (P : Program) (w : World) (h : Heap) (a : Addr) (L : List PK) (o : Obj) (es : Array (Int × Value)) (ep : Nat) (t : SetTable) : Prop where
  got : h.get? a = some o
  ex : o.ExactSet
  dat : o.data = .set es ep t
  rows : es.toList = L.map fun p => (th P w p.2, Value.ref p.1)
  tab : TabOk t (L.map fun p => th P w p.2)
  one : (L.map (·.2)).Nodup
  tup : ∀ p ∈ L, IsK P w h p.2 p.1
  led : w.params.followText "set-order" = true ∨ t.led = true
  room : L.length * 5 < t.mask * 3
  few : L.length < 64
section
variable {P : Program} {w : World} {h : Heap} {a : Addr} {L : List PK} {o : Obj} {es : Array (Int × Value)} {ep : Nat} {t : SetTable}
theorem SS.size (R : SS P w h a L o es ep t) : es.size = L.length := by
  rw [← Array.length_toList, R.rows, List.length_map]
theorem SS.psize (R : SS P w h a L o es ep t) : t.place.toList.length = L.length := by
  rw [Array.length_toList, R.tab.sz, List.length_map]
theorem SS.fits (R : SS P w h a L o es ep t) : t.fits es.size = true := by
  have e1 := R.psize
  have e2 := R.room
  rw [Array.length_toList] at e1
  rw [SetTable.fits, SetTable.fill, R.tab.dm, R.size, e1, Bool.and_eq_true, beq_iff_eq, decide_eq_true_eq]
  exact ⟨rfl, by show L.length + 0 ≤ _; omega⟩
theorem SS.at_ (R : SS P w h a L o es ep t) {i : Nat} {p : PK} (hi : L[i]? = some p) : es[i]? = some (th P w p.2, Value.ref p.1) := by
  rw [← Array.getElem?_toList, R.rows, List.getElem?_map, hi]
  rfl
theorem SS.hash (R : SS P w h a L o es ep t) {i : Nat} {p : PK} (hi : L[i]? = some p) : (es[i]?.map (·.1)).getD 0 = th P w p.2 := by rw [R.at_ hi]; rfl
end
end Fst
end

section
-- part Fst2
set_option Elab.async false
set_option linter.all false
set_option maxRecDepth 100000
set_option maxHeartbeats 1600000
/-! Fst2: the search for a tuple, and its adding -/
namespace Fst
open PySem PySem.Spec PyProof.Rows L2 Fw M5 Gk
/-- the c-th step of the way that a hash goes -/
abbrev stepAt (m : Nat) (z : Int) (c : Nat) : SetTable.Probe := nth m (runAt m (SetTable.bits z % (m + 1)) (SetTable.bits z)) c
theorem step_dummy (m : Nat) (z : Int) (c : Nat) : (stepAt m z c).dummy = none := by
  induction c with
  | zero => rfl
  | succ c ih =>
    show (nth m (runAt m (SetTable.bits z % (m + 1)) (SetTable.bits z)) (c + 1)).dummy = none
    rw [nth_succ]
    unfold adv
    split <;> exact ih
theorem step_add (m : Nat) (z : Int) (c d : Nat) : nth m (stepAt m z c) d = stepAt m z (c + d) := (nth_add m c _ d).symm
section
variable {P : Program} {w : World} {A : Around} {E : Value → Shared → Prop} {s : Shared} {a : Addr} {L : List PK} {o : Obj} {es : Array (Int × Value)} {ep : Nat} {t : SetTable}
theorem look_from (R : SS P w s.heap a L o es ep t) {x : Addr} {k : List Key} (hx : IsK P w s.heap k x) (hu : A.units < cLine) {N : Nat} (hN : N < 10 * SetTable.turns t.mask)
    (free : way t.mask (th P w k) N ∉ t.place.toList) (full : ∀ c, c < N → way t.mask (th P w k) c ∈ t.place.toList) {Q : SetFound → Shared → Prop}
    (yes : k ∈ L.map (·.2) → Q (.there none) s) (no : k ∉ L.map (·.2) → Q (.free (way t.mask (th P w k) N) false) s) (f : Nat) :
    ∀ (c : Nat) (stand : Option SetTable.Probe), stand.getD (t.probeStart (th P w k)) = stepAt t.mask (th P w k) c → c ≤ N → N < c + f →
      (∀ (i : Nat) (p : PK), L[i]? = some p → p.2 = k → ∃ d, c ≤ d ∧ d < N ∧ t.place.toList[i]? = some (way t.mask (th P w k) d)) →
      wpAny (model P w) A (setSearchFrom a (.ref x) (th P w k) true f stand) Q E s := by
  generalize hz : th P w k = z at *
  induction f with
  | zero => intro c stand _ h1 h2; omega
  | succ f ih =>
    intro c stand st hc hf left
    rw [setSearchFrom_succ]
    refine wpAny_bind (wpAny_setState_of R.got R.dat R.fits ?_)
    dsimp only
    have gw : ¬ t.gaveWay = true := by
      rw [SetTable.gaveWay, mask_odd R.tab.mok]
      decide
    refine wp_if_neg gw ?_
    try refine wpAny_bind (wpAny_pure ?_)
    have along : ∀ d, (nth t.mask (stepAt t.mask z c) d).j = way t.mask z (c + d) := fun d => congrArg SetTable.Probe.j (step_add t.mask z c d)
    have spec := go_spec t R.tab.ris R.tab.dm (fun i => (es[i]?.map (·.1)).getD 0) z (10 * SetTable.turns t.mask) (N - c) (stepAt t.mask z c) (step_dummy t.mask z c) (by omega)
      (fun d hd => by rw [along]; exact full _ (by omega)) (by rw [along, Nat.add_sub_cancel' hc]; exact free)
    have here : t.probe (fun i => (es[i]?.map (·.1)).getD 0) z (stand.getD (t.probeStart z)) = SetTable.probe.go t (fun i => (es[i]?.map (·.1)).getD 0) z (10 * SetTable.turns t.mask) (stepAt t.mask z c) := by rw [st]; rfl
    rcases spec with ⟨d, i, hd, hi, hh, before, go⟩ | ⟨never, go⟩
    · rw [here, go]
      dsimp only
      rw [along] at hi ⊢
      have hiL : i < L.length := by
        rw [← R.psize]
        exact (List.getElem?_eq_some_iff.mp hi).1
      obtain ⟨p, hp⟩ : ∃ p, L[i]? = some p := ⟨_, List.getElem?_eq_getElem hiL⟩
      have pIn : p ∈ L := List.mem_of_getElem? hp
      have live := slot_live R.tab.ris hi
      -- behind the candidate
      have rest : wpAny (model P w) A (searchRest a (.ref x) z true f es t (way t.mask z (c + d)) i (nth t.mask (stepAt t.mask z c) (d + 1))) Q E s := by
        unfold searchRest
        rw [R.at_ hp]
        dsimp only
        refine wpAny_bind (wpAny_holding (wpAny_eqBool_tuple (knd := mixKind P w) hu (R.tup p pIn) hx ?_))
        refine wpAny_bind (wpAny_setState_of R.got R.dat R.fits ?_)
        dsimp only
        by_cases eq : p.2 = k
        · rw [decide_eq_true eq]
          exact wp_if_pos rfl (wpAny_pure (yes (List.mem_map.mpr ⟨p, pIn, eq⟩)))
        · rw [decide_eq_false eq]
          refine wp_if_neg (by decide) ?_
          try refine wpAny_bind (wpAny_pure ?_)
          rw [sameMem]
          dsimp only
          simp only [if_true, live, R.at_ hp]
          refine wpAny_bind (wpAny_isSame_ref_self (wpAny_bind (wpAny_pure ?_)))
          simp only [if_true]
          refine wp_if_neg (by decide) ?_
          refine ih (c + (d + 1)) _ (by rw [Option.getD_some, step_add]) (by omega) (by omega) fun i2 p2 h2 e2 => ?_
          obtain ⟨d2, l1, l2, l3⟩ := left i2 p2 h2 e2
          refine ⟨d2, ?_, l2, l3⟩
          rcases Nat.lt_trichotomy d2 (c + d) with lt | rfl | gt
          · exfalso
            refine before (d2 - c) i2 (by omega) (by rw [along, Nat.add_sub_cancel' l1]; exact l3) ?_
            show (es[i2]?.map (·.1)).getD 0 = z
            rw [R.hash h2, e2, hz]
          · exfalso
            have live2 := slot_live R.tab.ris l3
            rw [live] at live2
            injection live2 with ee
            subst ee
            rw [hp] at h2
            exact eq (Option.some.inj h2 ▸ e2)
          · omega
      by_cases led : t.led = true
      · refine wp_if_neg (by rw [led]; decide) ?_
        try refine wpAny_bind (wpAny_pure ?_)
        exact rest
      · refine wp_if_pos (by simpa using led) ?_
        refine wpAny_bind (unseen hx (fun y hy => ?_) ?_)
        · obtain ⟨u, hu1, rfl⟩ := List.mem_map.mp hy
          have hu2 : u ∈ es.toList := by
            have : u ∈ es ∧ u.1 = z := by simpa using hu1
            simpa using this.1
          rw [R.rows] at hu2
          obtain ⟨p2, hp2, rfl⟩ := List.mem_map.mp hu2
          exact ⟨p2.2, p2.1, rfl, R.tup p2 hp2⟩
        · refine wp_if_neg (by decide) ?_
          try refine wpAny_bind (wpAny_pure ?_)
          exact rest
    · rw [here, go]
      dsimp only
      rw [along, Nat.add_sub_cancel' hc]
      refine wpAny_pure (no fun hm => ?_)
      obtain ⟨p, pIn, e⟩ := List.mem_map.mp hm
      obtain ⟨i, hi⟩ := List.getElem?_of_mem pIn
      obtain ⟨d, l1, l2, l3⟩ := left i p hi e
      refine never (d - c) i (by omega) (by rw [along, Nat.add_sub_cancel' l1]; exact l3) ?_
      show (es[i]?.map (·.1)).getD 0 = z
      rw [R.hash hi, e, hz]
theorem look (R : SS P w s.heap a L o es ep t) {x : Addr} {k : List Key} (hx : IsK P w s.heap k x) (hu : A.units < cLine) {Q : SetFound → Shared → Prop}
    (yes : k ∈ L.map (·.2) → Q (.there none) s)
    (no : ∀ N, k ∉ L.map (·.2) → way t.mask (th P w k) N ∉ t.place.toList → (∀ c, c < N → way t.mask (th P w k) c ∈ t.place.toList) → Q (.free (way t.mask (th P w k) N) false) s) :
    wpAny (model P w) A (setSearch a (.ref x) (th P w k) true) Q E s := by
  have rm := R.room
  obtain ⟨N, hN, free, full⟩ := R.tab.first (by rw [List.length_map]; omega) (th P w k)
  have small : 10 * SetTable.turns t.mask < 100000 := by
    unfold SetTable.turns
    rcases R.tab.mok with e | e | e <;> omega
  refine look_from R hx hu hN free full yes (fun h => no N h free full) 100000 0 none rfl (Nat.zero_le _) (by omega) fun i p hi e => ?_
  have h1 : (L.map fun p => th P w p.2)[i]? = some (th P w k) := by rw [List.getElem?_map, hi, ← e]; rfl
  have h2 : i < t.place.toList.length := by
    rw [R.psize]
    exact (List.getElem?_eq_some_iff.mp hi).1
  have h3 := List.getElem?_eq_getElem h2
  obtain ⟨d, q1, q2⟩ := R.tab.before free h1 h3
  exact ⟨d, Nat.zero_le _, q1, by rw [h3, q2]⟩
end
end Fst
end

section
-- part Fst3
set_option Elab.async false
set_option linter.all false
set_option maxRecDepth 100000
set_option maxHeartbeats 1600000
/-! Fst3: a tuple put in; a list put in; how many there are -/
namespace Fst
open PySem PySem.Spec PyProof.Rows L2 Fw M5 Gk
section
variable {P : Program} {w : World} {A : Around} {E : Value → Shared → Prop} {s : Shared} {a : Addr} {L : List PK} {o : Obj} {es : Array (Int × Value)} {ep : Nat} {t : SetTable}
theorem isK_but {h h' : Heap} {k : List Key} {b : Addr} {o : Obj} {es : Array (Int × Value)} {ep : Nat} {t : SetTable} (hb : IsK P w h k b) (ho : h.get? a = some o) (hd : o.data = .set es ep t) (hs : Heap.SameBut a h h') : IsK P w h' k b := by
  obtain ⟨o2, its, n, h1, h2, h3, h4⟩ := hb
  refine ⟨o2, its, n, (hs.2 b fun e => ?_).trans h1, h2, h3, h4⟩
  subst e
  rw [ho] at h1
  have := Option.some.inj h1
  subst this
  rw [hd] at h3
  exact nomatch h3
theorem isK_keep {h h' : Heap} {k : List Key} {b : Addr} (hb : IsK P w h k b) (e : ∀ b o, h.get? b = some o → h'.get? b = some o) : IsK P w h' k b := by
  obtain ⟨o2, its, n, h1, r⟩ := hb
  exact ⟨o2, its, n, e b o2 h1, r⟩
/-- the entries in a new order are entries of the rows in a new order -/
theorem reorder (L : List PK) (es : Array (Int × Value)) (od : Array Nat) (hr : es.toList = L.map fun p => (th P w p.2, Value.ref p.1)) (hp : od.toList.Perm (List.range L.length)) :
    ∃ M : List PK, (od.filterMap (es[·]?)).toList = (M.map fun p => (th P w p.2, Value.ref p.1)) ∧ M.Perm L ∧ (M.map fun p => th P w p.2) = od.toList.map fun i => (es.map (·.1)).getD i 0 := by
  have get : ∀ i : Nat, es[i]? = L[i]?.map fun (p : PK) => (th P w p.2, Value.ref p.1) := fun i => by rw [← Array.getElem?_toList, hr, List.getElem?_map]
  have pick : ∀ l : List Nat, (∀ i ∈ l, i < L.length) → l.filterMap (fun i => es[i]?) = (l.filterMap (fun i => L[i]?)).map (fun p => (th P w p.2, Value.ref p.1)) ∧
      ((l.filterMap (fun i => L[i]?)).map fun p => th P w p.2) = l.map fun i => (es.map (·.1)).getD i 0 := fun l => by
    induction l with
    | nil => intro _; exact ⟨rfl, rfl⟩
    | cons i l ih =>
      intro hl
      obtain ⟨p, e⟩ : ∃ p, L[i]? = some p := ⟨_, List.getElem?_eq_getElem (hl i List.mem_cons_self)⟩
      obtain ⟨i1, i2⟩ := ih fun j hj => hl j (List.mem_cons_of_mem _ hj)
      have e2 : (es.map (·.1)).getD i 0 = th P w p.2 := by simp [Array.getD_eq_getD_getElem?, get, e]
      have e3 : es[i]? = some (th P w p.2, Value.ref p.1) := by rw [get, e]; rfl
      rw [List.filterMap_cons_some e3, List.filterMap_cons_some (f := fun i => L[i]?) e, List.map_cons, List.map_cons, List.map_cons, i1, i2, e2]
      exact ⟨rfl, rfl⟩
  obtain ⟨p1, p2⟩ := pick od.toList fun i hi => List.mem_range.mp (hp.mem_iff.mp hi)
  have all : (List.range L.length).filterMap (fun i => L[i]?) = L := by
    have : ∀ n, n ≤ L.length → (List.range n).filterMap (fun i => L[i]?) = L.take n := fun n => by
      induction n with
      | zero => intro _; rfl
      | succ n ih =>
        intro hn
        rw [List.range_succ, List.filterMap_append, ih (by omega), List.take_add_one, List.getElem?_eq_getElem (show n < L.length by omega)]
        simp [List.getElem?_eq_getElem (show n < L.length by omega)]
    rw [this _ (Nat.le_refl _), List.take_length]
  have pm : (od.toList.filterMap fun i => L[i]?).Perm L := by
    have := hp.filterMap fun i => L[i]?
    rwa [all] at this
  exact ⟨od.toList.filterMap fun i => L[i]?, by rw [← p1]; simp, pm, p2⟩
/-- the table laid anew -/
theorem relay (got : s.heap.get? a = some o) (ex : o.ExactSet) (dat : o.data = .set es ep t) (rows : es.toList = L.map fun p => (th P w p.2, Value.ref p.1)) (sz : t.place.size = es.size) (dm : t.dummies = #[]) (fl : es.size ≤ t.mask)
    (one : (L.map (·.2)).Nodup) (tup : ∀ p ∈ L, IsK P w s.heap p.2 p.1) (led : w.params.followText "set-order" = true ∨ t.led = true) (few : L.length < 64) {n M : Nat}
    (hM : SetTable.sizeAbove n - 1 = M) (ok : MaskOk M) (lim : SetTable.sizeAbove n ≤ 128) (room : L.length * 5 < M * 3) {Q : Unit → Shared → Prop}
    (q : ∀ h' L' o' es' ep' t', Heap.SameBut a s.heap h' → SS P w h' a L' o' es' ep' t' → L'.Perm L → Q () { s with heap := h' }) : wpAny (model P w) A (setRelay a n) Q E s := by
  have len : es.size = L.length := by rw [← Array.length_toList, rows, List.length_map]
  have fits : t.fits es.size = true := by
    rw [SetTable.fits, SetTable.fill, dm, sz, Bool.and_eq_true, beq_iff_eq, decide_eq_true_eq]
    exact ⟨rfl, by show es.size + 0 ≤ _; omega⟩
  obtain ⟨t2, od, e1, pm, tb, mk, ld, _, _⟩ := relaid_ok t (hs := es.map (·.1)) (wanted := n) hM ok (by rw [Array.size_map, len]; omega)
  rw [Array.size_map, len] at pm
  obtain ⟨M2, r1, r2, r3⟩ := reorder L es od rows pm
  rw [← r3] at tb
  have size2 : (od.filterMap (es[·]?)).size = es.size := by rw [← Array.length_toList, r1, List.length_map, r2.length_eq, len]
  rw [setRelay_eq]
  refine wpAny_bind (wpAny_setState_of got dat fits ?_)
  dsimp only
  refine wp_if_neg (by rw [sizeLine_eq]; omega) ?_
  try refine wpAny_bind (wpAny_pure ?_)
  rw [e1]
  dsimp only
  refine wpAny_bind (wp_if_neg (by rw [size2]; simp) ?_)
  try refine wpAny_bind (wpAny_pure ?_)
  refine wpAny_pure ?_
  dsimp only
  have sb := Heap.SameBut.update s.heap a (Obj.putSet (od.filterMap (es[·]?)) t2)
  refine wpAny_storeSet_of got dat (q _ M2 { o with data := .set (od.filterMap (es[·]?)) (ep + 1) t2 } (od.filterMap (es[·]?)) (ep + 1) t2 sb ?_ r2) (by rw [size2, len, sizeLine_eq]; omega)
  exact ⟨store_at got dat, ⟨ex.1, ex.2.1, ex.2.2⟩, rfl, r1, tb, (r2.map (·.2)).nodup_iff.mpr one, fun p hp => isK_but (tup p (r2.mem_iff.mp hp)) got dat sb, by rw [ld]; exact led, by rw [r2.length_eq, mk]; exact room, by rw [r2.length_eq]; exact few⟩
/-- ONE PUT IN -/
theorem put_in (R : SS P w s.heap a L o es ep t) {x : Addr} {k : List Key} (hx : IsK P w s.heap k x) (hu : A.units < cLine) (few : L.length + 1 < 64) {Q : Bool → Shared → Prop}
    (q : ∀ b h' L' o' es' ep' t', Heap.SameBut a s.heap h' → SS P w h' a L' o' es' ep' t' → (k ∈ L.map (·.2) → L' = L) → (k ∉ L.map (·.2) → L'.Perm ((x, k) :: L)) → Q b { s with heap := h' }) :
    wpAny (model P w) A (setAddHashed a (.ref x) (th P w k)) Q E s := by
  have len := R.size
  have room := R.room
  unfold setAddHashed
  refine wpAny_holding ?_
  rw [show (100000 : Nat) = 99999 + 1 from rfl, setAddHashedIn_succ]
  refine wpAny_bind (wpAny_setState_of R.got R.dat R.fits ?_)
  dsimp only
  refine wp_if_neg (by simp [byScan, Value.scannable]) ?_
  try refine wpAny_bind (wpAny_pure ?_)
  refine wpAny_bind (look R hx hu (fun there => ?_) fun N new free full => ?_)
  · exact wpAny_pure (q false s.heap L o es ep t (Heap.SameBut.refl a s.heap) R (fun _ => rfl) fun z => absurd there z)
  dsimp only
  refine wpAny_bind (wpAny_setState_of R.got R.dat R.fits ?_)
  dsimp only
  obtain ⟨e1, e2, tb, mk, ld, _, _, _, fill⟩ := R.tab.put free full
  generalize hT : t.put (way t.mask (th P w k) N) = T at e1 tb mk ld fill ⊢
  obtain ⟨t1, i⟩ := T
  dsimp only at e1 tb mk ld fill ⊢
  subst e1
  generalize SetTable.below t.place (way t.mask (th P w k) N) = i at e2 tb ⊢
  rw [List.length_map] at e2 fill
  have pm : (L.take i ++ (x, k) :: L.drop i).Perm ((x, k) :: L) := put_perm L i (x, k)
  have tb1 : TabOk t1 ((L.take i ++ (x, k) :: L.drop i).map fun p => th P w p.2) := by
    rw [List.map_append, List.map_cons, List.map_take, List.map_drop]
    exact tb
  have rows1 : (SetTable.insertAt es i (th P w k, Value.ref x)).toList = (L.take i ++ (x, k) :: L.drop i).map fun p => (th P w p.2, Value.ref p.1) := by
    rw [SetTable.toList_insertAt, R.rows, List.map_append, List.map_cons, List.map_take, List.map_drop]
  have len1 : (SetTable.insertAt es i (th P w k, Value.ref x)).size = L.length + 1 := by
    rw [← Array.length_toList, rows1, List.length_map, pm.length_eq, List.length_cons]
  have one1 : ((L.take i ++ (x, k) :: L.drop i).map (·.2)).Nodup := by
    refine (pm.map (·.2)).nodup_iff.mpr ?_
    rw [List.map_cons]
    exact List.nodup_cons.mpr ⟨new, R.one⟩
  have lenL1 := pm.length_eq
  rw [List.length_cons] at lenL1
  generalize SetTable.insertAt es i (th P w k, Value.ref x) = es1 at rows1 len1 ⊢
  generalize L.take i ++ (x, k) :: L.drop i = L1 at pm tb1 rows1 one1 lenL1
  -- behind the question whether all are hashed by value
  have store : ∀ t2 : SetTable, t2.place = t1.place → t2.dummies = t1.dummies → t2.mask = t1.mask → t2.led = t1.led →
      wpAny (model P w) A (storeSet a es1 t2 >>= fun _ => (if (!false && t2.tooFull) = true then (setRelay a (SetTable.grown (es.size + 1)) >>= fun _ => pure true) else pure true)) Q E s := by
    intro t2 q1 q2 q3 q4
    have tb2 : TabOk t2 (L1.map fun p => th P w p.2) := by
      obtain ⟨c1, c2, c3, c4, c5, c6⟩ := tb1
      refine ⟨by rw [q1]; exact c1, by rw [q2]; exact c2, by rw [q1]; exact c3, by rw [q3]; exact c4, fun y hy => by rw [q3]; exact c5 y (by rw [← q1]; exact hy), fun j z y hj hy => ?_⟩
      rw [q1, q3] at *
      exact c6 j z y hj hy
    have sb := Heap.SameBut.update s.heap a (Obj.putSet es1 t2)
    have got1 := store_at (es' := es1) (t' := t2) R.got R.dat
    refine wpAny_bind (wpAny_storeSet_of R.got R.dat ?_ (by rw [len1, sizeLine_eq]; omega))
    generalize s.heap.update a (Obj.putSet es1 t2) = h1 at sb got1 ⊢
    have tup1 : ∀ p ∈ L1, IsK P w h1 p.2 p.1 := fun p hp => by
      rcases List.mem_cons.mp (pm.mem_iff.mp hp) with rfl | hp
      · exact isK_but hx R.got R.dat sb
      · exact isK_but (R.tup p hp) R.got R.dat sb
    have led1 : w.params.followText "set-order" = true ∨ t2.led = true := by rw [q4, ld]; exact R.led
    have ex1 : Obj.ExactSet { o with data := .set es1 (ep + 1) t2 } := ⟨R.ex.1, R.ex.2.1, R.ex.2.2⟩
    have fill2 : t2.fill = L.length + 1 := by rw [SetTable.fill, q1, q2]; exact fill
    by_cases full2 : t2.tooFull = true
    · rw [full2]
      have over : (L.length + 1) * 5 ≥ t.mask * 3 := by
        rw [SetTable.tooFull, decide_eq_true_eq, fill2, q3, mk] at full2
        exact full2
      have go : ∀ M, SetTable.sizeAbove (SetTable.grown (L.length + 1)) - 1 = M → MaskOk M → SetTable.sizeAbove (SetTable.grown (L.length + 1)) ≤ 128 → (L.length + 1) * 5 < M * 3 →
          wpAny (model P w) A (setRelay a (SetTable.grown (L.length + 1)) >>= fun _ => pure true) Q E { s with heap := h1 } := fun M g1 g2 g3 g4 => by
        refine wpAny_bind (relay (s := { s with heap := h1 }) got1 ex1 rfl rows1 (by rw [tb2.sz, List.length_map, len1, lenL1]) tb2.dm (by rw [len1, q3, mk]; rcases R.tab.mok with e | e | e <;> omega) one1 tup1 led1 (by omega) g1 g2 g3 (by omega) ?_)
        intro h2 L2' o2 es2 ep2 t3 sb2 R2 pm2
        exact wpAny_pure (q true h2 L2' o2 es2 ep2 t3 (sb.trans sb2) R2 (fun z => absurd z new) fun _ => pm2.trans pm)
      have which : L.length = 4 ∨ L.length = 18 := by rcases R.tab.mok with e | e | e <;> rw [e] at over room <;> omega
      refine wp_if_pos rfl ?_
      rw [len]
      rcases which with e | e
      · exact go 31 (by rw [e, size_20]) (.inr (.inl rfl)) (by rw [e, size_20]; decide) (by omega)
      · exact go 127 (by rw [e, size_76]) (.inr (.inr rfl)) (by rw [e, size_76]; decide) (by omega)
    · refine wp_if_neg (by simpa using full2) ?_
      refine wpAny_pure (q true h1 L1 _ es1 (ep + 1) t2 sb ⟨got1, ex1, rfl, rows1, tb2, one1, tup1, led1, ?_, by omega⟩ (fun z => absurd z new) fun _ => pm)
      have := full2
      rw [SetTable.tooFull, decide_eq_true_eq, fill2] at this
      omega
  have fin : ∀ c : Bool, wpAny (model P w) A (storeSet a es1 (if c = true then t1 else { t1 with plain := false }) >>= fun _ => (if (!false && (if c = true then t1 else { t1 with plain := false } : SetTable).tooFull) = true then (setRelay a (SetTable.grown (es.size + 1)) >>= fun _ => pure true) else pure true)) Q E s := fun c => by
    cases c
    · exact store { t1 with plain := false } rfl rfl rfl rfl
    · exact store t1 rfl rfl rfl rfl
  by_cases pl : t1.plain = true
  · rw [if_pos pl]
    exact wpAny_bind (tup_val hx fun c => fin c)
  · rw [if_neg pl]
    exact wpAny_bind (wpAny_pure (fin true))
end
end Fst
end

section
-- part Fst4
set_option Elab.async false
set_option linter.all false
set_option maxRecDepth 100000
set_option maxHeartbeats 3200000
/-! Fst4: len(set(xs)) of ranking pairs -/
namespace Fst
open PySem PySem.Spec PyProof.Rows L2 Fw M5 Gk Fpr
/-- what the first i rows have brought -/
structure Has (ks : List PK) (i : Nat) (L : List PK) : Prop where
  from_ : ∀ p ∈ L, p ∈ ks
  all : ∀ (j : Nat) (p : PK), j < i → ks[j]? = some p → p.2 ∈ L.map (·.2)
  len : L.length ≤ i
section
variable {P : Program} {w : World} {A : Around} {E : Value → Shared → Prop} {s : Shared}
theorem ss_keep {h h' : Heap} {a : Addr} {L : List PK} {o : Obj} {es : Array (Int × Value)} {ep : Nat} {t : SetTable} (R : SS P w h a L o es ep t) (ha : h'.get? a = some o) (ht : ∀ p ∈ L, IsK P w h' p.2 p.1) : SS P w h' a L o es ep t :=
  ⟨ha, R.ex, R.dat, R.rows, R.tab, R.one, ht, R.led, R.room, R.few⟩
abbrev NewSet (w : World) : Obj := { cls := .type "set", dict := none, data := .set #[] 0 (.fresh 0 0 (!w.params.followText "set-order")) }
theorem ss_new {h : Heap} {a : Addr} (ho : h.get? a = some (NewSet w)) : SS P w h a [] (NewSet w) #[] 0 (.fresh 0 0 (!w.params.followText "set-order")) := by
  refine ⟨ho, ⟨rfl, rfl, rfl⟩, rfl, rfl, ⟨.nil, rfl, rfl, .inl rfl, fun x hx => (by cases hx), fun i z j hi => (by simp at hi)⟩, .nil, fun p hp => (by cases hp), ?_, (by show 0 * 5 < 7 * 3; decide), by decide⟩
  show _ ∨ (!w.params.followText "set-order") = true
  cases w.params.followText "set-order"
  · exact .inr rfl
  · exact .inl rfl
theorem fill_all {I : Addr} {fp wr : List Addr} {G : Array GenState → Array GenState → Prop} {n : Nat} {Pv : Nat → Value → Prop} {St : Nat → Shared → Prop} {R : Result → Shared → Prop}
    (W : WalksS P w A.in1 I fp wr G n Pv St) (S : Addr) (off : S ∉ fp) (ks : List PK) (hn : n = ks.length) (few : ks.length < 64) (val : ∀ i v, Pv i v → ∃ p, ks[i]? = some p ∧ v = .ref p.1)
    (h0 : Heap) (old : ∀ p ∈ ks, IsK P w h0 p.2 p.1) (hS : h0.get? S = none) (hw : ∀ b ∈ wr, h0.get? b = none) (hu : A.in1.units < cLine) (k : Nat) :
    ∀ (i : Nat) (s : Shared), n = i + k → St i s → (∀ b o, h0.get? b = some o → s.heap.get? b = some o) → (∃ L o es ep t, SS P w s.heap S L o es ep t ∧ Has ks i L) →
      (∀ s' L o es ep t, Moved (S :: wr) G s s' → SS P w s'.heap S L o es ep t → Has ks n L → (∀ b o, h0.get? b = some o → s'.heap.get? b = some o) → R (.ok (.ret .none)) s') →
      codeAny (model P w) A (.builtin "set.update.loop" ⟨[.ref S, .ref I], []⟩) R s := by
  have Sw : S ∉ wr := fun z => off (W.sub _ z)
  have up : ∀ b ∈ wr, b ∈ S :: wr := fun b hb => List.mem_cons_of_mem _ hb
  have stays : ∀ {s s' : Shared}, Moved wr G s s' → (∀ b o, h0.get? b = some o → s.heap.get? b = some o) → ∀ b o, h0.get? b = some o → s'.heap.get? b = some o := fun m e b o z =>
    m.heap b o (fun hb => by rw [hw b hb] at z; cases z) (e b o z)
  induction k with
  | zero =>
    intro i s hk st e0 ⟨L, o, es, ep, t, hL, hh⟩ fin
    rw [Nat.add_zero] at hk
    subst hk
    refine codeAny_builtin PyProof.Rows.F.entry_set_update_loop ?_
    rw [Around.under_plainId PyProof.Rows.F.plain_set_update_loop _]
    show wpAny _ A.in1 (pyNext (.ref I) >>= _) _ _ s
    refine wpAny_bind (W.done s _ _ st fun s' m => ?_)
    have e1 := stays m e0
    refine wpAny_pure (fin s' L o es ep t (m.mono up) (ss_keep hL (m.heap S o Sw hL.got) fun p hp => isK_keep (old p (hh.from_ p hp)) e1) hh e1)
  | succ k ih =>
    intro i s hk st e0 ⟨L, o, es, ep, t, hL, hh⟩ fin
    refine codeAny_builtin PyProof.Rows.F.entry_set_update_loop ?_
    rw [Around.under_plainId PyProof.Rows.F.plain_set_update_loop _]
    show wpAny _ A.in1 (pyNext (.ref I) >>= _) _ _ s
    refine wpAny_bind (W.item i s _ _ (by omega) st fun v s' pv st' m => ?_)
    obtain ⟨p, hp, rfl⟩ := val i v pv
    have e1 := stays m e0
    have hL1 : SS P w s'.heap S L o es ep t := ss_keep hL (m.heap S o Sw hL.got) fun q hq => isK_keep (old q (hh.from_ q hq)) e1
    have hx : IsK P w s'.heap p.2 p.1 := isK_keep (old p (List.mem_of_getElem? hp)) e1
    show wpAny _ A.in1 (holding [Value.ref p.1] (setAdd S (.ref p.1)) >>= _) _ _ s'
    refine wpAny_bind (wpAny_holding ?_)
    unfold setAdd
    refine wpAny_holding (wpAny_bind (wpAny_pyHash_tuple (knd := mixKind P w) hu hx ?_))
    have hl := hh.len
    refine put_in (s := { s' with toks := s'.toks + (p.2.length + 1) }) hL1 hx hu (by omega) fun b h' L' o' es' ep' t' sb hL2 c1 c2 => ?_
    have hh2 : Has ks (i + 1) L' := by
      by_cases c : p.2 ∈ L.map (·.2)
      · rw [c1 c]
        refine ⟨hh.from_, fun j q hj hq => ?_, by omega⟩
        by_cases z : j = i
        · rw [z, hp] at hq
          rw [← Option.some.inj hq]
          exact c
        · exact hh.all j q (by omega) hq
      · have pm := c2 c
        refine ⟨fun q hq => ?_, fun j q hj hq => ?_, by rw [pm.length_eq, List.length_cons]; omega⟩
        · rcases List.mem_cons.mp (pm.mem_iff.mp hq) with z | z
          · rw [z]
            exact List.mem_of_getElem? hp
          · exact hh.from_ q z
        · rw [(pm.map (·.2)).mem_iff, List.map_cons]
          by_cases z : j = i
          · rw [z, hp] at hq
            rw [← Option.some.inj hq]
            exact List.mem_cons_self
          · exact List.mem_cons_of_mem _ (hh.all j q (by omega) hq)
    have e2 : ∀ b o, h0.get? b = some o → h'.get? b = some o := fun b o z => (sb.2 b (fun y => by rw [y, hS] at z; cases z)).trans (e1 b o z)
    refine wpAny_pure ⟨plainId_quiet PyProof.Rows.F.plain_set_update_loop _, ih (i + 1) _ (by omega) (W.frame _ s' _ _ st' (Nat.le_add_right _ _) fun b hb o2 z => ?_) e2 ⟨L', o', es', ep', t', hL2, hh2⟩ fun s3 L3 o3 es3 ep3 t3 m3 hL3 hh3 e3 => ?_⟩
    · exact (sb.2 b (fun y => off (y ▸ hb))).trans z
    · refine fin s3 L3 o3 es3 ep3 t3 (Moved.trans W.gtrans ((m.mono up).then_heap (Nat.le_add_right _ _) fun b o2 hb z => ?_) m3) hL3 hh3 e3
      exact (sb.2 b (fun y => hb (y ▸ List.mem_cons_self))).trans z
end
end Fst
end

section
-- part Fst5
set_option Elab.async false
set_option linter.all false
set_option maxRecDepth 100000
set_option maxHeartbeats 3200000
/-! Fst5: set(xs), len(set(xs)) -/
namespace Fst
open PySem PySem.Spec PyProof.Rows L2 Fw M5 Gk Fpr
section
variable {P : Program} {w : World} {A : Around} {E : Value → Shared → Prop} {s : Shared}
theorem set_of {l : Addr} {items : Array Value} (ks : List PK) {Q : Value → Shared → Prop} (calm : A.handled = none) (hl : s.heap.IsList l items) (hit : items.toList = ks.map fun p => Value.ref p.1)
    (hk : ∀ p ∈ ks, IsK P w s.heap p.2 p.1) (few : ks.length < 64) (hu : A.units + 3 < cLine)
    (q : ∀ (h' : Heap) (tk : Nat) L o es ep t, SS P w h' s.heap.objs.size L o es ep t → Has ks ks.length L → (∀ b o, s.heap.get? b = some o → h'.get? b = some o) → Q (.ref s.heap.objs.size) { s with heap := h', toks := tk }) :
    wpAny (model P w) A (call (.type "set") [.ref l]) Q E s := by
  have isz : items.size = ks.length := by rw [← Array.length_toList, hit, List.length_map]
  obtain ⟨c, tl, hmro⟩ := PySem.F.called_set.mro
  have hmade := PySem.F.called_set.made
  have hsub := PySem.F.called_set.sub
  refine wpAny_call (codeAny_of_tree ?_)
  show wpAny _ _ (callAny (.type "set") _) _ _ _
  refine wpAny_pure ⟨Code.quiet_builtin _ (by decide +kernel), codeAny_builtin PySem.F.entry_type_call ?_⟩
  rw [Around.under_plain (weight_type_call_type "set" [.ref l] []) rfl]
  have h1 := PySem.F.called_set.notType
  have h2 := PySem.F.called_set.canCreate
  have h3 := PySem.F.typeCall_set_1 (.ref l)
  repeat (any_goals (first | assumption | wp_step))
  refine codeAny_mono (code_set_led1 (.ref l) (E := E) (Q₁ := fun obj s₁ => obj = .ref s.heap.objs.size ∧ s₁ = { s with heap := s.heap.push (NewSet w) }) ⟨rfl, rfl⟩) fun r s₁ hr => ?_
  cases r with
  | error e => exact hr
  | ok fl =>
    cases fl with
    | ret obj =>
      obtain ⟨rfl, rfl⟩ := hr
      have got : (s.heap.push (NewSet w)).get? s.heap.objs.size = some (NewSet w) := Heap.get?_push_size _ rfl
      have ty : Shared.TypeIs { s with heap := s.heap.push (NewSet w) } (.ref s.heap.objs.size) "set" := ⟨_, got, rfl⟩
      have hli := PySem.F.called_set.init.lookup
      have hbi := PySem.F.called_set.init.bind (.ref s.heap.objs.size)
      repeat (any_goals (first | assumption | wp_step))
      refine codeAny_mono (codeAny_call_builtin (R := wants (fun r s₂ => r = .none ∧ ∃ h' tk L o es ep t, s₂ = { s with heap := h', toks := tk } ∧ SS P w h' s.heap.objs.size L o es ep t ∧ Has ks ks.length L ∧
          (∀ b o, s.heap.get? b = some o → h'.get? b = some o)) E) PySem.F.called_set.init.plain PySem.F.entry_set_init (check_set_init_1 ty ?_)) fun r₂ s₂ hr₂ => ?_
      · obtain ⟨⟨cl, dct, dat, slo⟩, ho, hc, n, hd⟩ := hl
        simp only at hc hd
        subst hc hd
        have ho1 : (s.heap.push (NewSet w)).get? l = some { cls := .type "list", dict := dct, data := .seq items n, slots := slo } := Heap.get?_push_of_some _ ho
        have s1 := PySem.F.sub_list_set
        have s2 := PySem.F.sub_list_frozenset
        have s3 : (Value.type "list" == Value.type "dict") = false := by decide
        have isl : (s.heap.push (NewSet w)).IsList l items := ⟨_, ho1, rfl, n, rfl⟩
        unfold Builtin.«set.__init__» noKeywords Builtin.Frozenset.updateFrom
        generalize hPI : pyIter = PI
        wp_walk
        subst hPI
        refine wpAny_pyIter_list isl (wpAny_bind (wpAny_runValue ?_))
        have lS : l < s.heap.objs.size := Heap.lt_size ho
        have calm3 : A.in1.in1.in1.handled = none := by simp [calm]
        have neI : l ≠ (s.heap.push (NewSet w)).objs.size := by rw [Heap.size_push]; exact Nat.ne_of_lt (Nat.lt_succ_of_lt lS)
        have off : s.heap.objs.size ∉ [(s.heap.push (NewSet w)).objs.size, l] := by
          rw [Heap.size_push]
          simp only [List.mem_cons, List.not_mem_nil, or_false, not_or]
          exact ⟨Nat.ne_of_lt (Nat.lt_succ_self _), fun z => Nat.lt_irrefl _ (z ▸ lS)⟩
        have val : ∀ (i : Nat) (v : Value), items[i]? = some v → ∃ p, ks[i]? = some p ∧ v = .ref p.1 := fun i v hv => by
          rw [← Array.getElem?_toList, hit, List.getElem?_map] at hv
          obtain ⟨p, hp, e⟩ := Option.map_eq_some_iff.mp hv
          exact ⟨p, hp, e.symm⟩
        have fresh : ∀ b, s.heap.objs.size ≤ b → s.heap.get? b = none := fun b hb => Heap.get?_none_of_le hb
        refine fill_all ((Walks.list calm3 _ l neI items).toS) s.heap.objs.size off ks isz few val s.heap hk (fresh _ (Nat.le_refl _)) (fun b hb => fresh b (by rw [List.mem_singleton.mp hb, Heap.size_push]; omega)) hu items.size 0 _ (Nat.zero_add _).symm
          ⟨⟨_, Heap.get?_push_size _ rfl, rfl, rfl⟩, isl.push _⟩ (fun b o e => Heap.get?_push_of_some _ (Heap.get?_push_of_some _ e)) ⟨[], _, #[], 0, _, ss_new (Heap.get?_push_of_some _ got), ⟨fun p hp => (by cases hp), fun j p hj => absurd hj (Nat.not_lt_zero _), Nat.le_refl _⟩⟩ fun s' L o es ep t m hL hh e => ?_
        obtain ⟨h', g', d', tk', os'⟩ := s'
        have eg : g' = s.gens := m.gens
        have ed : d' = s.drawn := m.drawn
        have eo : os' = s.os := m.os
        subst eg ed eo
        show wpAny _ _ _ _ _ _
        refine wpAny_pure ?_
        show wpAny _ _ (ret Value.none) _ _ _
        rw [isz] at hh
        exact wpAny_pure ⟨rfl, h', tk', L, o, es, ep, t, rfl, hL, hh, e⟩
      · cases r₂ with
        | error e => exact hr₂
        | ok fl₂ =>
          cases fl₂ with
          | ret r =>
            obtain ⟨rfl, h', tk, L, o, es, ep, t, rfl, hL, hh, e⟩ := hr₂
            repeat (any_goals (first | assumption | wp_step))
            exact q _ _ _ _ _ _ _ hL hh e
          | _ => exact hr₂.elim
    | _ => exact hr.elim
end
section
variable {X : Cx}
theorem at_isK {pins : List (Addr × Obj)} {σ : L2.St} {H : Hp} {s : Shared} (I : Inv X pins σ H s) {p : Addr × RV} (h : At2 X.K H p) : IsK X.prog X.w s.heap (rkK p.2) p.1 := by
  obtain ⟨o, us, n, ho, hc, hd, r⟩ := at_obj I h
  rw [rkV_kK] at r
  exact ⟨o, us.toArray, n, ho, hc, hd, by simpa using items_are r⟩
def tLenSetPr (K : PySem.W.Frag) (ta : TE) : TE := fun σ H Q => ta σ H fun x H1 => ∃ (l : Addr) (ks : List (Addr × RV)), x = V.ref l ∧ SqL K H1 l (ks.map fun p => V.ref p.1) ∧ (∀ p ∈ ks, At2 K H1 p) ∧ ks.length < 64 ∧
  ∀ M : List RV, M.Nodup → (∀ v, v ∈ M ↔ v ∈ ks.map (·.2)) → Q (.int (M.length : Nat)) H1
/-- the rows of a nodup list of keys, as ranks -/
theorem ranks_of {ks : List (Addr × RV)} : ∀ {L : List PK}, (∀ p ∈ L, p ∈ ks.map fun p => (p.1, rkK p.2)) → ∃ M : List RV, L.map (·.2) = M.map rkK ∧ M.length = L.length ∧ ∀ v ∈ M, v ∈ ks.map (·.2)
  | [], _ => ⟨[], rfl, rfl, fun v h => by cases h⟩
  | p :: L, h => by
    obtain ⟨M, e1, e2, e3⟩ := ranks_of fun q hq => h q (List.mem_cons_of_mem _ hq)
    obtain ⟨u, hu, e⟩ := List.mem_map.mp (h p List.mem_cons_self)
    refine ⟨u.2 :: M, by rw [List.map_cons, List.map_cons, e1, ← e], by rw [List.length_cons, List.length_cons, e2], fun v hv => ?_⟩
    rcases List.mem_cons.mp hv with rfl | hv
    · exact List.mem_map.mpr ⟨u, hu, rfl⟩
    · exact e3 v hv
theorem pe_lenSetPr {a : Expr} {ta : TE} {p p2 q pos : Pos} (hc : X.calm = true) (hu : X.A.units + 64 < cLine) (hg : Gl X "len") (hm : X.mg "len" = none) (hg2 : Gl X "set") (hm2 : X.mg "set" = none) (ha : PE X a ta)
    (na : starEach [a] X.env = (false, eval a X.env) :: starEach [] X.env := by rfl) : PE X (.Call (.Name "len" p) [.Call (.Name "set" p2) [a] [] q] [] pos) (tLenSetPr X.K ta) := by
  refine ⟨fun pins s σ H Q I h => ?_⟩
  refine Call_ (ld_blt I hg hm PySem.boot_len (PyProof.Rows.callWith_builtin1 (PyProof.Rows.args_cons ?_ rfl) rfl rfl))
  refine Call_ (ld_blt I hg2 hm2 PyProof.Rows.boot_set (PyProof.Rows.callWith_type1 (PyProof.Rows.args_cons (thn (ha.run pins s σ H _ I h) fun v s1 hv => PyProof.Rows.args_nil ?_) na) na rfl))
  obtain ⟨x, H1, I1, r1, l, ks, rfl, hl, hk, few, fin⟩ := hv
  cases r1
  obtain ⟨its, rv, pl, hz⟩ := I1.list hl
  have ei := vals_refs rv
  subst ei
  refine set_of (ks.map fun p => (p.1, rkK p.2)) (I1.ok.hd hc) pl.isList (by simp) (fun p hp => ?_) (by rw [List.length_map]; exact few) (show X.A.units + 3 < cLine by omega) fun h' tk L o es ep t R hh e => ?_
  · obtain ⟨u, hu, rfl⟩ := List.mem_map.mp hp
    exact at_isK I1 (hk u hu)
  · refine PyProof.Rows.args_nil ?_
    have I2 : Inv X pins σ H1 { s1 with heap := h', toks := tk } := I1.kept fun b o z => e b o z
    obtain ⟨M, m1, m2, m3⟩ := ranks_of hh.from_
    have nd : M.Nodup := by
      have := R.one
      rw [m1] at this
      exact nodup_of_map this
    have mem : ∀ v, v ∈ M ↔ v ∈ ks.map (·.2) := fun v => ⟨m3 v, fun hv => by
      obtain ⟨u, hu, rfl⟩ := List.mem_map.mp hv
      obtain ⟨j, hj⟩ := List.getElem?_of_mem hu
      have hlt := (List.getElem?_eq_some_iff.mp hj).1
      have := hh.all j (u.1, rkK u.2) (by rw [List.length_map]; exact hlt) (by rw [List.getElem?_map, hj]; rfl)
      rw [m1] at this
      obtain ⟨v, hv, e⟩ := List.mem_map.mp this
      rw [← rkK_inj e]
      exact hv⟩
    refine call_len_set R.got R.ex R.dat R.fits (by have := R.size; have := R.few; omega) ?_
    have : es.size = M.length := R.size.trans m2.symm
    rw [this]
    exact ⟨.int (M.length : Nat), H1, I2.tok _, ⟨_, rfl⟩, fin M nd mem⟩
end
end Fst
end

section
-- part K28M
set_option Elab.async false
set_option linter.all false
set_option maxRecDepth 100000
set_option maxHeartbeats 800000
/-! K28M: what is known of a column -/
namespace M28
open PySem PySem.Spec PyProof.Rows L2 Fw M5 Gk Fpr
def vV : RV → V
  | .non => .non
  | .txt l => .str (S l)
  | .num n => .int n
theorem vlt_tr : ∀ {u v x : RV}, vlt u v = true → vlt v x = true → vlt u x = true := by
  intro u v x h1 h2
  cases u <;> cases v <;> cases x <;> simp_all [vlt]
  · exact List.lt_trans h1 h2
  · omega
theorem vlt_tot : ∀ {u v : RV}, vlt u v = false → vlt v u = false → u = v := by
  intro u v h1 h2
  cases u <;> cases v <;> simp_all [vlt]
  · exact List.le_antisymm h2 h1
  · omega
theorem vlt_as {u v : RV} (h : vlt u v = true) : vlt v u = false := by
  cases e : vlt v u with
  | false => rfl
  | true => exact absurd (vlt_tr h e) (by rw [vlt_self]; decide)
theorem vle_tr {u v x : RV} (h1 : vlt v u = false) (h2 : vlt x v = false) : vlt x u = false := by
  cases e : vlt x u with
  | false => rfl
  | true =>
    cases e2 : vlt u v with
    | true => exact absurd (vlt_tr e e2) (by rw [h2]; decide)
    | false =>
      have := vlt_tot e2 h1
      subst this
      rw [h2] at e
      cases e
def ins (v : RV) : List RV → List RV
  | [] => [v]
  | x :: r => if vlt x v = true then x :: ins v r else v :: x :: r
def srt : List RV → List RV
  | [] => []
  | v :: r => ins v (srt r)
abbrev Srtd (l : List RV) : Prop := l.Pairwise fun q r => vlt r q = false
theorem ins_perm (v : RV) : ∀ l : List RV, (ins v l).Perm (v :: l)
  | [] => .refl _
  | x :: r => by
    unfold ins
    split
    · exact ((ins_perm v r).cons x).trans (.swap v x r)
    · exact .refl _
theorem ins_srt {v : RV} : ∀ {l : List RV}, Srtd l → Srtd (ins v l)
  | [], _ => List.pairwise_singleton _ _
  | x :: r, h => by
    obtain ⟨h1, h2⟩ := List.pairwise_cons.mp h
    unfold ins
    split
    · rename_i c
      refine List.pairwise_cons.mpr ⟨fun y hy => ?_, ins_srt h2⟩
      rcases List.mem_cons.mp ((ins_perm v r).mem_iff.mp hy) with rfl | hy
      · exact vlt_as c
      · exact h1 y hy
    · rename_i c
      have c' : vlt x v = false := by simpa using c
      refine List.pairwise_cons.mpr ⟨fun y hy => ?_, h⟩
      rcases List.mem_cons.mp hy with rfl | hy
      · exact c'
      · exact vle_tr c' (h1 y hy)
theorem srt_perm : ∀ l : List RV, (srt l).Perm l
  | [] => .refl _
  | v :: r => (ins_perm v _).trans ((srt_perm r).cons v)
theorem srt_srt : ∀ l : List RV, Srtd (srt l)
  | [] => .nil
  | v :: r => ins_srt (srt_srt r)
theorem srt_one : ∀ {l m : List RV}, l.Perm m → Srtd l → Srtd m → l = m
  | [], m, p, _, _ => (p.symm.eq_nil).symm
  | x :: l, [], p, _, _ => absurd p.length_eq (by simp)
  | x :: l, y :: m, p, hl, hm => by
    obtain ⟨l1, l2⟩ := List.pairwise_cons.mp hl
    obtain ⟨m1, m2⟩ := List.pairwise_cons.mp hm
    have a : vlt y x = false := by
      rcases List.mem_cons.mp (p.mem_iff.mpr List.mem_cons_self : y ∈ x :: l) with rfl | h
      · exact vlt_self y
      · exact l1 y h
    have b : vlt x y = false := by
      rcases List.mem_cons.mp (p.mem_iff.mp List.mem_cons_self : x ∈ y :: m) with rfl | h
      · exact vlt_self x
      · exact m1 x h
    have e := vlt_tot a b
    subst e
    rw [srt_one p.cons_inv l2 m2]
theorem srt_len (l : List RV) : (srt l).length = l.length := (srt_perm l).length_eq
/-! how many are different -/
def uni : List RV → List RV
  | [] => []
  | v :: r => if v ∈ uni r then uni r else v :: uni r
theorem uni_mem : ∀ (l : List RV) (v : RV), v ∈ uni l ↔ v ∈ l
  | [], v => .rfl
  | x :: r, v => by
    unfold uni
    split
    · rename_i c
      rw [uni_mem r, List.mem_cons]
      exact ⟨.inr, fun h => h.elim (fun e => e ▸ (uni_mem r x).mp c) id⟩
    · rw [List.mem_cons, List.mem_cons, uni_mem r]
theorem uni_nd : ∀ l : List RV, (uni l).Nodup
  | [] => .nil
  | x :: r => by
    unfold uni
    split
    · exact uni_nd r
    · rename_i c
      exact List.nodup_cons.mpr ⟨c, uni_nd r⟩
def nuq (l : List RV) : Nat := (uni l).length
theorem nuq_of {M l : List RV} (nd : M.Nodup) (h : ∀ v, v ∈ M ↔ v ∈ l) : M.length = nuq l :=
  ((List.perm_ext_iff_of_nodup nd (uni_nd l)).mpr fun v => (h v).trans (uni_mem l v).symm).length_eq
theorem nuq_le : ∀ l : List RV, nuq l ≤ l.length
  | [] => Nat.le_refl _
  | x :: r => by
    have := nuq_le r
    unfold nuq uni
    unfold nuq at this
    split
    · rw [List.length_cons]; omega
    · rw [List.length_cons, List.length_cons]; omega
theorem nuq_pos {l : List RV} (h : l ≠ []) : 0 < nuq l := by
  obtain ⟨v, hv⟩ : ∃ v, v ∈ l := by
    cases l with
    | nil => exact absurd rfl h
    | cons v r => exact ⟨v, List.mem_cons_self⟩
  exact List.length_pos_of_mem ((uni_mem l v).mpr hv)
theorem nuq_nd {l : List RV} (h : l.Nodup) : nuq l = l.length := (nuq_of h fun v => .rfl).symm
/-! bounds -/
def bix (n k : Nat) : Nat := (k + 1) * n / min 8 n - 1
theorem bix_ok {n k : Nat} (h : k < min 8 n) : ((((k : Int) + 1) * (n : Int)) / ((min 8 n : Nat) : Int)) - 1 = (bix n k : Int) ∧ bix n k < n := by
  have h1 : 1 ≤ (k + 1) * n / min 8 n := by
    refine (Nat.le_div_iff_mul_le (by omega)).mpr ?_
    rw [Nat.one_mul]
    exact Nat.le_trans (Nat.min_le_right 8 n) (Nat.le_mul_of_pos_left n (by omega))
  have h2 : (k + 1) * n / min 8 n ≤ n := by
    refine Nat.div_le_of_le_mul ?_
    exact Nat.mul_le_mul_right n h
  refine ⟨?_, by unfold bix; omega⟩
  have e : (((k : Int) + 1) * (n : Int)) / ((min 8 n : Nat) : Int) = (((k + 1) * n / min 8 n : Nat) : Int) := by
    rw [Int.natCast_ediv, Int.natCast_mul, Int.natCast_add]
    rfl
  rw [e]
  unfold bix
  omega
def bnds (l : List RV) : List RV := (List.range (min 8 l.length)).map fun k => l.getD (bix l.length k) .non
theorem bnds_len (l : List RV) : (bnds l).length = min 8 l.length := by simp [bnds]
/-! a summary -/
structure SD where
  r : Int
  n : Int
  d : Int
  bs : List RV
def mx (a b : Int) : Int := if b > a then b else a
def mn (a b : Int) : Int := if b < a then b else a
def cnt (bs : List RV) (v : RV) : Nat := (bs.filter fun b => vlt b v).length
def eqR (s : SD) : Int := if s.d = 0 then 0 else (s.r - s.n + s.d - 1) / s.d
def blw (s : SD) (v : RV) : Int := if s.bs = [] then 0 else (s.r - s.n) * (cnt s.bs v : Int) / (s.bs.length : Int)
def upp (s : SD) (v : RV) : Int := if v = .non then s.r - s.n else blw s v
def low (s : SD) (v : RV) : Int := if v = .non then 0 else blw s v
def rng (s : SD) (a b : RV) : Int := mx 0 (upp s b - low s a)
def askd (s : SD) (g : List Nat) (v : RV) : Int :=
  if g = [61] then eqR s else if g = [60] then blw s v else if g = [60, 61] then mn (rng s .non .non) (blw s v + eqR s) else if g = [62] then mx 0 (rng s .non .non - blw s v - eqR s) else rng s .non .non - blw s v
def share1 (s : SD) (g : List Nat) (v : RV) (m : Int) : Int := if v = .non then 0 else if s.r = 0 then 0 else m * askd s g v / s.r
def known (vs : List RV) : List RV := srt (vs.filter fun v => !decide (v = .non))
def sumOf (vs : List RV) : SD := ⟨vs.length, (vs.length : Int) - (known vs).length, nuq (known vs), bnds (known vs)⟩
theorem known_len (vs : List RV) : (known vs).length ≤ vs.length := by rw [known, srt_len]; exact List.length_filter_le _ _
/-- what holds of every summary -/
structure Ok (s : SD) (k : Nat) : Prop where
  kn : s.r - s.n = k
  n0 : 0 ≤ s.n
  d0 : 0 ≤ s.d
  dk : s.d ≤ k
  pos : 0 < k → 0 < s.d
  bl : s.bs.length = min 8 k
theorem ok_of (vs : List RV) : Ok (sumOf vs) (known vs).length := by
  have h := known_len vs
  have h2 := nuq_le (known vs)
  refine ⟨by show (vs.length : Int) - (vs.length - (known vs).length) = _; omega, by show 0 ≤ (vs.length : Int) - (known vs).length; omega, by show 0 ≤ ((nuq (known vs) : Nat) : Int); omega, by show ((nuq (known vs) : Nat) : Int) ≤ _; omega, fun h => ?_, bnds_len _⟩
  have := nuq_pos (l := known vs) (fun z => by rw [z] at h; exact absurd h (by decide))
  show (0 : Int) < ((nuq (known vs) : Nat) : Int)
  omega
theorem cnt_le (bs : List RV) (v : RV) : cnt bs v ≤ bs.length := List.length_filter_le _ _
theorem blw_b {s : SD} {k : Nat} (o : Ok s k) (v : RV) : 0 ≤ blw s v ∧ blw s v ≤ k := by
  unfold blw
  rw [o.kn]
  split
  · omega
  · rename_i c
    have hp : 0 < s.bs.length := List.length_pos_iff.mpr c
    have h1 := cnt_le s.bs v
    refine ⟨Int.ediv_nonneg (Int.mul_nonneg (by omega) (by omega)) (by omega), ?_⟩
    refine Int.ediv_le_of_le_mul (by omega) ?_
    exact Int.mul_le_mul_of_nonneg_left (by omega) (by omega)
theorem eqR_b {s : SD} {k : Nat} (o : Ok s k) : 0 ≤ eqR s ∧ eqR s ≤ k := by
  have h1 := o.d0
  have h2 := o.dk
  unfold eqR
  rw [o.kn]
  split
  · omega
  · rename_i c
    have hd : 0 < s.d := by omega
    refine ⟨Int.ediv_nonneg (by omega) (by omega), ?_⟩
    refine Int.ediv_le_of_le_mul hd ?_
    have : (k : Int) * 1 ≤ k * s.d := Int.mul_le_mul_of_nonneg_left (by omega) (by omega)
    have h3 : ((k : Int) - 1) * (s.d - 1) ≥ 0 := Int.mul_nonneg (by omega) (by omega)
    have e : ((k : Int) - 1) * (s.d - 1) = k * s.d - k - s.d + 1 := by
      rw [Int.sub_mul, Int.mul_sub, Int.mul_sub]
      omega
    omega
theorem rng_nn {s : SD} {k : Nat} (o : Ok s k) : rng s .non .non = k := by
  have h := o.kn
  unfold rng upp low mx
  simp only [if_true]
  rw [h]
  split <;> omega
theorem askd_b {s : SD} {k : Nat} (o : Ok s k) (g : List Nat) (v : RV) : 0 ≤ askd s g v ∧ askd s g v ≤ k := by
  have h1 := blw_b o v
  have h2 := eqR_b o
  unfold askd mn mx
  rw [rng_nn o]
  repeat' split
  all_goals omega
theorem share_b {s : SD} {k : Nat} (o : Ok s k) (g : List Nat) (v : RV) {m : Int} (hm : 0 ≤ m) : 0 ≤ share1 s g v m ∧ share1 s g v m ≤ m := by
  have h1 := askd_b o g v
  have h2 := o.kn
  have h3 := o.n0
  unfold share1
  split
  · omega
  · split
    · omega
    · rename_i c
      have hr : 0 < s.r := by omega
      refine ⟨Int.ediv_nonneg (Int.mul_nonneg hm h1.1) (by omega), ?_⟩
      exact Int.ediv_le_of_le_mul hr (Int.mul_le_mul_of_nonneg_left (by omega) hm)
/-- the shares rise -/
theorem cnt_mono {bs : List RV} {u v : RV} (h : vlt v u = false) : cnt bs u ≤ cnt bs v := by
  unfold cnt
  induction bs with
  | nil => exact Nat.le_refl _
  | cons b r ih =>
    rw [List.filter_cons, List.filter_cons]
    cases e1 : vlt b u with
    | false =>
      cases vlt b v
      · exact ih
      · exact Nat.le_succ_of_le ih
    | true =>
      have e2 : vlt b v = true := by
        cases e : vlt b v with
        | true => rfl
        | false => exact absurd (vle_tr h e) (by rw [e1]; decide)
      rw [e2]
      exact Nat.succ_le_succ ih
theorem blw_mono {s : SD} {k : Nat} (o : Ok s k) {u v : RV} (h : vlt v u = false) : blw s u ≤ blw s v := by
  unfold blw
  rw [o.kn]
  split
  · exact Int.le_refl _
  · rename_i c
    have hp : 0 < s.bs.length := List.length_pos_iff.mpr c
    have := cnt_mono (bs := s.bs) h
    exact Int.ediv_le_ediv (by omega) (Int.mul_le_mul_of_nonneg_left (by omega) (by omega))
theorem cnt_take {ks : List (Addr × RV)} {i : Nat} {p : Addr × RV} (h : ks[i]? = some p) (v : RV) : cnt ((ks.take (i + 1)).map (·.2)) v = cnt ((ks.take i).map (·.2)) v + if vlt p.2 v = true then 1 else 0 := by
  unfold cnt
  rw [List.take_add_one, h, List.map_append, List.filter_append, List.length_append]
  congr 1
  show ([p.2].filter fun b => vlt b v).length = _
  cases e : vlt p.2 v
  · simp [List.filter_cons, e]
  · simp [List.filter_cons, e]
end M28
end

section
-- part K28A
set_option Elab.async false
set_option linter.all false
set_option maxRecDepth 100000
set_option maxHeartbeats 800000
open PySem PySem.Spec PyProof.Rows L2 Fw
local macro_rules | `(tactic| walk_at "e1") => `(tactic| first
  | ((with_reducible refine' w_var ?hv ?_); (case hv => rfl))
  | with_reducible refine w_c ?_
  | with_reducible refine w_op ?_
  | with_reducible refine w_un ?_
  | with_reducible refine w_cons ?_
  | with_reducible refine w_nil ?_
  | with_reducible refine w_cl ?_
  | with_reducible refine w_cb ?_
  | with_reducible refine w_gname ?_
  | with_reducible refine w_gsub ?_
  | with_reducible refine w_test ?_
  | with_reducible refine w_B ?_
  | with_reducible refine w_bl ?_
  | with_reducible refine w_and ?_
  | with_reducible refine w_or ?_
  | with_reducible refine w_not ?_
  | with_reducible refine w_if ?_
  | with_reducible refine w_I0 ?_
  | with_reducible refine Gk.w_rU ?_
  | with_reducible refine Dq.w_orV ?_
  | with_reducible refine Dq.w_js ?_
  | with_reducible refine Dq.w_js0 ?_
  | with_reducible refine Dq.w_fm ?_
  | with_reducible refine Dq.w_andV ?_
  | with_reducible refine Gk.w_iEnum ?_
  | with_reducible refine Dq.w_dget ?_
  | with_reducible refine Dq.w_dpop1 ?_
  | with_reducible refine Dq.w_ddel ?_
  | with_reducible refine Dq.w_din ?_
  | with_reducible refine Dq.w_dnotin ?_
  | with_reducible refine Dq.w_dget2 ?_
  | with_reducible refine Dq.w_dnew ?_
  | with_reducible refine Dq.w_fldaug ?_
  | with_reducible refine Dq.w_aSub ?_
  | with_reducible refine Dq.w_aAdd ?_
  | with_reducible refine Dq.w_mkd ?_
  | with_reducible refine Dq.w_notN0 ?_
  | with_reducible refine Dq.w_isN0 ?_
  | with_reducible refine Ftw.w_isTI ?_
  | with_reducible refine Ftw.w_isTS ?_
  | with_reducible refine Ftw.w_isTR ?_
  | with_reducible refine Ftw.w_isTN ?_
  | with_reducible refine Ftw.w_isTtt ?_
  | with_reducible refine Ftw.w_isTft ?_
  | with_reducible refine Ftw.w_isTtf ?_
  | with_reducible refine Ftw.w_isNS ?_
  | with_reducible refine Ftw.w_isNB ?_
  | ((with_reducible refine' Ftw.w_isiRS ?hq ?_); (case hq => assumption))
  | ((with_reducible refine' Ftw.w_isiRT ?hq ?_); (case hq => assumption))
  | ((with_reducible refine' Ftw.w_isiRI ?hq ?_); (case hq => assumption))
  | with_reducible refine Ftw.w_isiIT ?_
  | with_reducible refine Ftw.w_isiII ?_
  | with_reducible refine Dq.w_notNR ?_
  | with_reducible refine Dq.w_isNR ?_
  | with_reducible refine Dq.w_notNI ?_
  | with_reducible refine Dq.w_isNI ?_
  | with_reducible refine L2.w_neOs ?_
  | with_reducible refine w_ipI ?_
  | with_reducible refine w_eqS ?_
  | with_reducible refine w_neS ?_
  | with_reducible refine w_eqI ?_
  | with_reducible refine w_neI ?_
  | with_reducible refine w_eqB ?_
  | with_reducible refine w_neB ?_
  | ((with_reducible refine w_eq ?hs ?_); (case hs => rfl))
  | ((with_reducible refine w_ne ?hs ?_); (case hs => rfl))
  | with_reducible refine w_fld ?_
  | with_reducible refine w_bm ?_
  | with_reducible refine w_bm0 ?_
  | with_reducible refine w_sl ?_
  | with_reducible refine w_part ?_
  | with_reducible refine w_partI ?_
  | with_reducible refine w_nopart ?_
  | ((with_reducible refine' w_ixL ?hh ?ha ?_); (case hh => first | assumption | exact upd_same); (case ha => rfl))
  | ((with_reducible refine' w_setLu ?ha ?_); (case ha => rfl))
  | ((with_reducible refine' w_setL ?hh ?ha ?_); (case hh => first | assumption | exact upd_same); (case ha => rfl))
  | with_reducible refine w_iteT ?_
  | with_reducible refine w_iteF ?_
  | with_reducible refine w_lst ?_
  | with_reducible refine w_tup ?_
  | ((with_reducible refine w_new ?hz ?_); (case hz => rfl))
  | with_reducible refine w_lc ?_
  | with_reducible refine w_iL ?_
  | with_reducible refine w_iT ?_
  | with_reducible refine w_iR1 ?_
  | with_reducible refine w_iR2 ?_
  | with_reducible refine w_yes ?_
  | with_reducible refine w_iStr ?_
  | with_reducible exact tyS
  | with_reducible refine And.intro tyS ?_
  | ((with_reducible refine w_find3 ?_); (first | rw [find3_one] | rw [starts3] | skip))
  | ((with_reducible refine w_2s ?_); (try rw [find_one]))
  | ((with_reducible refine w_inS ?_); rw [S_list])
  | ((with_reducible refine w_lenS ?hz ?_); (case hz => first | assumption | omega | decide); rw [SX.S_len])
  | ((with_reducible refine w_addS ?hz ?_); (case hz => first | assumption | omega | decide); rw [vS_cat])
  | with_reducible refine w_mk ?_
  | with_reducible refine w_me ?_
  | with_reducible refine w_sfld ?_
  | ((with_reducible refine' w_gtup ?hh ?hn ?_); (case hh => first | assumption | exact upd_same); (case hn => rfl))
  | with_reducible refine w_gcons ?_
  | with_reducible refine w_gnil ?_
  | with_reducible refine w_repl ?_
  | with_reducible refine w_star ?_
  | with_reducible refine w_revL ?_
  | with_reducible refine w_isiS ?_
  | with_reducible refine w_isiI ?_
  | with_reducible refine w_isiN ?_
  | with_reducible refine w_chain ?_
  | with_reducible refine w_iEnumT ?_
  | with_reducible refine w_iZip3 ?_
  | with_reducible refine w_iZip ?_
  | with_reducible refine w_lenR3 ?_
  | with_reducible refine w_x1i ?_
  | with_reducible refine w_x1b ?_
  | with_reducible refine w_x1s ?_
  | with_reducible refine w_int1i ?_
  | with_reducible refine w_int1b ?_
  | ((with_reducible refine w_mod ?hc ?_); (case hc => omega))
  | ((with_reducible refine w_fdivW ?hc ?hd ?_); (case hc => omega); (case hd => omega))
  | ((with_reducible refine w_mul ?hc ?_); (case hc => first | exact Or.inr ⟨by decide, by decide⟩ | exact Or.inl ⟨by decide, by decide⟩))
  | ((with_reducible refine w_pow ?hc ?_); (case hc => exact ⟨by decide, by decide, by decide⟩)))
local macro_rules | `(tactic| walk_at "s1") => `(tactic| first
  | with_reducible refine w_seq ?_
  | with_reducible refine w_asg ?_
  | with_reducible refine w_ret ?_
  | with_reducible refine w_par ?_
  | with_reducible refine w_drop ?_
  | with_reducible refine w_next ?_
  | with_reducible refine w_ifs ?_
  | ((with_reducible refine' w_aug ?hv ?_); (case hv => rfl))
  | with_reducible refine w_for ?_
  | walk_at "e1")
local macro_rules | `(tactic| walk_at "e") => `(tactic| repeat walk_at "e1")
local macro_rules | `(tactic| walk_at "g") => `(tactic| repeat walk_at "s1")

namespace K28
open Dc Gk
def top (i : Nat) : Stmt := PySem.Challenge.pw_tablestack_k28_what_is_known_of_columns.main.body.getD i (.Pass ⟨0, 0, 0, 0⟩)
-- _law_dice: 0:cell
abbrev s__law_dice : Stmt := top 10
theorem sc__law_dice : FnScope ["cell"] ["cell"] (defScope s__law_dice) := ⟨rfl, rfl, rfl, by decide +kernel, rfl, by decide +kernel, by decide +kernel⟩
-- _law_roll: 0:dice 1:many 2:found
abbrev s__law_roll : Stmt := top 11
theorem sc__law_roll : FnScope ["dice", "many", "found"] ["dice", "many"] (defScope s__law_roll) := ⟨rfl, rfl, rfl, by decide +kernel, rfl, by decide +kernel, by decide +kernel⟩
-- _law_rounds: 0:script 1:most 2:cells 3:cell
abbrev s__law_rounds : Stmt := top 12
theorem sc__law_rounds : FnScope ["script", "most", "cells", "cell"] ["script", "most"] (defScope s__law_rounds) := ⟨rfl, rfl, rfl, by decide +kernel, rfl, by decide +kernel, by decide +kernel⟩
structure Wl (K : PySem.W.Frag) (mg : Str → Option Value) : Prop where
  n_abs : mg "abs" = none
  n_int : mg "int" = none
  n_str : mg "str" = none
  n_len : mg "len" = none
  n_range : mg "range" = none
  d__law_dice : FnP K mg "_law_dice" s__law_dice
  d__law_roll : FnP K mg "_law_roll" s__law_roll
  d__law_rounds : FnP K mg "_law_rounds" s__law_rounds
section
variable {P : Program} {w : World} {K : PySem.W.Frag} {mg : Str → Option Value} {base : Heap}
theorem ok__law_dice (W : Wl K mg) : Cl P w K mg base 1 "_law_dice" spDice := by
  refine cl_mk W.d__law_dice sc__law_dice (fun _ _ _ _ _ _ us hl => match us, hl with | [_], _ => rfl) (fun vs H Q E h => ?_) (fun f cdv A outer s H vs Q E hr h => ?_)
  · obtain ⟨c, rfl, _⟩ := h; rfl
  obtain ⟨c, rfl, q⟩ := h
  refine ⟨_, (pss_cons (ps_if (pt_chain op_lt op_lt (pe_op op_sub pe_int pe_int) (pv 0) pe_int)
    (pss_one (ps_ret (pe_lst (pa_cons (pe_callB call_abs rfl W.n_abs (by decide +kernel) (pa_cons (pv 0) pa_nil)) (pa_cons pe_int (pa_cons pe_int pa_nil))))))
    pss_nil)
    (pss_one (ps_ret (pe_lst (pa_cons (pv 0) (pa_cons (pe_op op_add pe_int (pe_op op_mod (pe_callTy call_int1 rfl W.n_int (by decide +kernel) (pa_cons (pv 0) pa_nil)) pe_int)) (pa_cons (pe_callTy call_int1 rfl W.n_int (by decide +kernel) (pa_cons (pe_cmpR op_ge (pv 0) (pe_op op_pow pe_int pe_int) (nomark _)) pa_nil)) pa_nil))))))), ?_⟩
  walk_at "g"
  refine w_iteD (fun c1 => ?_) (fun c1 => ?_)
  · walk_at "g"
    refine w_iteD (fun c2 => ?_) (fun c2 => ?_)
    · walk_at "g"
      exact fun p hp => q p _ _ _ hp
    · walk_at "g"
      exact fun p hp => q p _ _ _ hp
  · walk_at "g"
    exact fun p hp => q p _ _ _ hp
theorem ok__law_roll (W : Wl K mg) : Cl P w K mg base 1 "_law_roll" spRoll := by
  refine cl_mk W.d__law_roll sc__law_roll (fun _ _ _ _ _ _ us hl => match us, hl with | [_, _], _ => rfl) (fun vs H Q E h => ?_) (fun f cdv A outer s H vs Q E hr h => ?_)
  · obtain ⟨d, m, a, b, c, rfl, _⟩ := h; rfl
  obtain ⟨d, m, a, b, c, rfl, hd, h0, h1, q⟩ := h
  refine ⟨_, (pss_cons (ps_if (PW.pt (pw_or (pt_cmpR op_eq (pe_ix ix_list (pv 0) pe_int (fun _ _ => rfl)) pe_int (nomark _)) (pw_or1 (PW.pt (pw_and (pt_cmpR op_eq (pe_ix ix_list (pv 0) pe_int (fun _ _ => rfl)) pe_int (nomark _)) (pw_and1 (pt_cmpR op_gt (pe_ix ix_list (pv 0) pe_int (fun _ _ => rfl)) pe_int (nomark _))))))))
    (pss_cons (ps_set (i := 2) sc__law_roll.nd rfl (Or.inl rfl) (pe_op op_mod (pe_callTy call_int1 rfl W.n_int (by decide +kernel) (pa_cons (pe_ix ix_list (pv 0) pe_int (fun _ _ => rfl)) pa_nil)) (pv 1)))
    (pss_cons (ps_asg (pe_op op_fdivW (pe_ix ix_list (pv 0) pe_int (fun _ _ => rfl)) (pv 1)) (pg_sub (pv 0) pe_int set_list))
    (pss_one (ps_ret (pv 2)))))
    pss_nil)
    (pss_cons (ps_asg pe_int (pg_sub (pv 0) pe_int set_list))
    (pss_cons (ps_asg (pe_op op_mod (pe_callTy call_int1 rfl W.n_int (by decide +kernel) (pa_cons (pe_op op_add (pe_op op_add (pe_op op_mul (pe_ix ix_list (pv 0) pe_int (fun _ _ => rfl)) pe_int) (pe_op op_mul (pe_ix ix_list (pv 0) pe_int (fun _ _ => rfl)) pe_int)) pe_int) pa_nil)) pe_int) (pg_sub (pv 0) pe_int set_list))
    (pss_cons (ps_asg (pe_op op_add (pe_ix ix_list (pv 0) pe_int (fun _ _ => rfl)) pe_int) (pg_sub (pv 0) pe_int set_list))
    (pss_one (ps_ret (pe_op op_mod (pe_callTy call_int1 rfl W.n_int (by decide +kernel) (pa_cons (pe_op op_fdivW (pe_ix ix_list (pv 0) pe_int (fun _ _ => rfl)) pe_int) pa_nil)) (pv 1)))))))), ?_⟩
  have fin : ∀ z a' b' c' : Int, Q (.int (z % m)) (upd H d (.lst [.int a', .int b', .int c'])) := fun z a' b' c' => q _ a' b' c' (mod_b h0).1 (mod_b h0).2
  walk_at "g"
  refine w_iteD (fun c1 => ?_) (fun c1 => ?_)
  · walk_at "g"
    exact fin _ _ _ _
  · walk_at "g"
    refine w_iteD (fun c2 => ?_) (fun c2 => ?_)
    · walk_at "g"
      refine w_iteD (fun c3 => ?_) (fun c3 => ?_)
      · walk_at "g"
        exact fin _ _ _ _
      · walk_at "g"
        exact fin _ _ _ _
    · walk_at "g"
      exact fin _ _ _ _
theorem ok__law_rounds (W : Wl K mg) (c__law_dice : Cl P w K mg base 1 "_law_dice" spDice) : Cl P w K mg base 2 "_law_rounds" (spRounds K) := by
  refine cl_mk W.d__law_rounds sc__law_rounds (fun _ _ _ _ _ _ us hl => match us, hl with | [_, _], _ => rfl) (fun vs H Q E h => ?_) (fun f cdv A outer s H vs Q E hr h => ?_)
  · obtain ⟨a, ns, m, rfl, _⟩ := h; rfl
  obtain ⟨a, ns, m, rfl, hS, h63, q⟩ := h
  refine ⟨_, (pss_cons (ps_set (i := 2) sc__law_rounds.nd rfl (Or.inl rfl) (pe_slice sl_list (pv 0) po_none (po_some (pv 1))))
    (pss_cons (ps_if (pt_cmpR (op_eqD (hu64 hr)) (pv 2) (pe_lst pa_nil) (nomark _))
    (pss_one (ps_set (i := 2) sc__law_rounds.nd rfl (Or.inl rfl) (pe_lst (pa_cons pe_int pa_nil))))
    pss_nil)
    (pss_one (ps_ret (pe_lc (own := [("cell", 3)]) rfl sc__law_rounds.nd (pi_list (pv 2)) (blkOk_by (own := [("cell", 3)]) (N := ["script", "most", "cells", "cell"]) (sc := defScope s__law_rounds) (by decide +kernel)) (fun _ _ _ _ _ => (pg_name (i := 3) sc__law_rounds.nd rfl (by first | exact Or.inl rfl | exact Or.inr rfl))) (fun _ _ _ _ _ => pts_nil) (fun _ _ _ _ _ => (pe_cl c__law_dice hr (by decide) rfl passL (pa_cons (pv 3) pa_nil)))))))), ?_⟩
  walk_at "g"
  refine ⟨a, _, rfl, hS, fun p1 hp1 => ?_⟩
  obtain ⟨ms, em, hm⟩ := cut_ints ns none (some m)
  rw [em]
  have hz : ms.length ≤ 63 := Nat.le_trans hm h63
  have s1 : Same H (upd H p1 (.lst (ms.map V.int))) := same_new hp1 _
  -- the list is walked
  have rest : ∀ (H1 : Hp) (p : Addr) (zs : List Int), Same H H1 → H1 p = some (.lst (zs.map V.int)) → zs.length ≤ 63 → ∀ (c : Option V),
      tRet (tLc (iList K (tVar 2)) (gName 3) tYes (tCl spDice E0 (tCons (tVar 3) tNil)) (List.map (fun x => x.snd) [((Str.ofString "cell" : Str), 3)])) { nx := fun x H' => Q V.non H', rt := Q } [some (.ref a), some (.int m), some (.ref p), c] H1 := by
    intro H1 p zs e1 hp hzs c
    walk_at "g"
    refine w_lcL (SqL.of hp) (fun D hD => ⟨fun i H2 => ∃ ds : List Addr, ds.length = i ∧ Same H1 H2 ∧ H2 D = some (.lst (ds.map V.ref)) ∧ ∀ d ∈ ds, Dice H2 d ∧ H1 d = none ∧ d ≠ D,
      ⟨[], rfl, same_new hD _, upd_same, fun d hd => by cases hd⟩, fun i H2 _ ⟨ds, _, e, _⟩ => SqL.of (e _ _ hp), ?_, ?_⟩)
    · rintro i x H2 hi ⟨ds, el, e2, eD, hds⟩
      have hi2 : i < zs.length := by
        have := (List.getElem?_eq_some_iff.mp hi).1
        rwa [List.length_map] at this
      obtain ⟨z, rfl⟩ : ∃ z, x = V.int z := by
        rw [List.getElem?_map] at hi
        cases e : zs[i]? with
        | none => rw [e] at hi; cases hi
        | some z => rw [e] at hi; exact ⟨z, (Option.some.inj hi).symm⟩
      walk_at "g"
      refine ⟨rfl, ?_⟩
      walk_at "g"
      refine ⟨z, rfl, fun d a b e hd => ?_⟩
      have nd : D ≠ d := ne_of_none eD hd
      refine ⟨ds.map V.ref, by rw [upd_ne nd]; exact eD, by rw [List.length_map, el]; exact Nat.lt_of_lt_of_le (Nat.lt_of_lt_of_le hi2 hzs) (by decide), ds ++ [d], by rw [List.length_append, el]; rfl, fun b o hb => ?_, by rw [upd_same, List.map_append]; rfl, fun b hb => ?_⟩
      · rw [upd_ne (ne_of_none hb hD), upd_ne (ne_of_none (e2 _ _ hb) hd)]
        exact e2 _ _ hb
      · rcases List.mem_append.mp hb with hb | hb
        · obtain ⟨h1, h2, h3⟩ := hds b hb
          obtain ⟨a', b', c', h1⟩ := h1
          exact ⟨⟨a', b', c', by rw [upd_ne h3, upd_ne (ne_of_none h1 hd)]; exact h1⟩, h2, h3⟩
        · rcases List.mem_singleton.mp hb with rfl
          exact ⟨⟨_, _, _, by rw [upd_ne nd.symm, upd_same]⟩, e2.free hd, nd.symm⟩
    · rintro H2 ⟨ds, el, e2, eD, hds⟩
      rw [List.length_map] at el
      exact q D H2 ds (e1.trans e2) (e1.free hD) eD (fun d hd => ⟨(hds d hd).1, e1.free (hds d hd).2.1⟩) (by omega)
  walk_at "g"
  intro p2 hp2
  refine ⟨_, _, .lst (SqL.of (same_new hp2 _ _ _ upd_same)) (dp_ints ms), .lst (SqL.of upd_same) .nil, shaped_ints ms, rfl, ?_⟩
  rw [eqv_nil]
  walk_at "g"
  have s2 := s1.trans (same_new hp2 (.lst []))
  refine w_iteD (fun c1 => ?_) (fun c1 => ?_)
  · walk_at "g"
    intro p3 hp3
    exact rest _ p3 [0] (s2.trans (same_new hp3 _)) upd_same (by decide) none
  · exact rest _ p1 ms s2 (same_new hp2 _ _ _ upd_same) hz none
end
end K28
end

section
-- part K28B0
set_option Elab.async false
set_option linter.all false
set_option maxRecDepth 100000
set_option maxHeartbeats 800000
open PySem PySem.Spec PyProof.Rows L2 Fw
local macro_rules | `(tactic| walk_at "e1") => `(tactic| first
  | ((with_reducible refine' w_var ?hv ?_); (case hv => rfl))
  | with_reducible refine w_c ?_
  | with_reducible refine w_op ?_
  | with_reducible refine w_un ?_
  | with_reducible refine w_cons ?_
  | with_reducible refine w_nil ?_
  | with_reducible refine w_cl ?_
  | with_reducible refine w_cb ?_
  | with_reducible refine w_gname ?_
  | with_reducible refine w_gsub ?_
  | with_reducible refine w_test ?_
  | with_reducible refine w_B ?_
  | with_reducible refine w_bl ?_
  | with_reducible refine w_and ?_
  | with_reducible refine w_or ?_
  | with_reducible refine w_not ?_
  | with_reducible refine w_if ?_
  | with_reducible refine w_I0 ?_
  | with_reducible refine Gk.w_rU ?_
  | with_reducible refine Dq.w_orV ?_
  | with_reducible refine Dq.w_js ?_
  | with_reducible refine Dq.w_js0 ?_
  | with_reducible refine Dq.w_fm ?_
  | with_reducible refine Dq.w_andV ?_
  | with_reducible refine Gk.w_iEnum ?_
  | with_reducible refine Dq.w_dget ?_
  | with_reducible refine Dq.w_dpop1 ?_
  | with_reducible refine Dq.w_ddel ?_
  | with_reducible refine Dq.w_din ?_
  | with_reducible refine Dq.w_dnotin ?_
  | with_reducible refine Dq.w_dget2 ?_
  | with_reducible refine Dq.w_dnew ?_
  | with_reducible refine Dq.w_fldaug ?_
  | with_reducible refine Dq.w_aSub ?_
  | with_reducible refine Dq.w_aAdd ?_
  | with_reducible refine Dq.w_mkd ?_
  | with_reducible refine Dq.w_notN0 ?_
  | with_reducible refine Dq.w_isN0 ?_
  | with_reducible refine Ftw.w_isTI ?_
  | with_reducible refine Ftw.w_isTS ?_
  | with_reducible refine Ftw.w_isTR ?_
  | with_reducible refine Ftw.w_isTN ?_
  | with_reducible refine Ftw.w_isTtt ?_
  | with_reducible refine Ftw.w_isTft ?_
  | with_reducible refine Ftw.w_isTtf ?_
  | with_reducible refine Ftw.w_isNS ?_
  | with_reducible refine Ftw.w_isNB ?_
  | ((with_reducible refine' Ftw.w_isiRS ?hq ?_); (case hq => assumption))
  | ((with_reducible refine' Ftw.w_isiRT ?hq ?_); (case hq => assumption))
  | ((with_reducible refine' Ftw.w_isiRI ?hq ?_); (case hq => assumption))
  | with_reducible refine Ftw.w_isiIT ?_
  | with_reducible refine Ftw.w_isiII ?_
  | with_reducible refine Dq.w_notNR ?_
  | with_reducible refine Dq.w_isNR ?_
  | with_reducible refine Dq.w_notNI ?_
  | with_reducible refine Dq.w_isNI ?_
  | with_reducible refine L2.w_neOs ?_
  | with_reducible refine w_ipI ?_
  | with_reducible refine w_eqS ?_
  | with_reducible refine w_neS ?_
  | with_reducible refine w_eqI ?_
  | with_reducible refine w_neI ?_
  | with_reducible refine w_eqB ?_
  | with_reducible refine w_neB ?_
  | ((with_reducible refine w_eq ?hs ?_); (case hs => rfl))
  | ((with_reducible refine w_ne ?hs ?_); (case hs => rfl))
  | with_reducible refine w_fld ?_
  | with_reducible refine w_bm ?_
  | with_reducible refine w_bm0 ?_
  | with_reducible refine w_sl ?_
  | with_reducible refine w_part ?_
  | with_reducible refine w_partI ?_
  | with_reducible refine w_nopart ?_
  | ((with_reducible refine' w_ixL ?hh ?ha ?_); (case hh => first | assumption | exact upd_same); (case ha => rfl))
  | ((with_reducible refine' w_setLu ?ha ?_); (case ha => rfl))
  | ((with_reducible refine' w_setL ?hh ?ha ?_); (case hh => first | assumption | exact upd_same); (case ha => rfl))
  | with_reducible refine w_iteT ?_
  | with_reducible refine w_iteF ?_
  | with_reducible refine w_lst ?_
  | with_reducible refine w_tup ?_
  | ((with_reducible refine w_new ?hz ?_); (case hz => rfl))
  | with_reducible refine w_lc ?_
  | with_reducible refine w_iL ?_
  | with_reducible refine w_iT ?_
  | with_reducible refine w_iR1 ?_
  | with_reducible refine w_iR2 ?_
  | with_reducible refine w_yes ?_
  | with_reducible refine w_iStr ?_
  | with_reducible exact tyS
  | with_reducible refine And.intro tyS ?_
  | ((with_reducible refine w_find3 ?_); (first | rw [find3_one] | rw [starts3] | skip))
  | ((with_reducible refine w_2s ?_); (try rw [find_one]))
  | ((with_reducible refine w_inS ?_); rw [S_list])
  | ((with_reducible refine w_lenS ?hz ?_); (case hz => first | assumption | omega | decide); rw [SX.S_len])
  | ((with_reducible refine w_addS ?hz ?_); (case hz => first | assumption | omega | decide); rw [vS_cat])
  | with_reducible refine w_mk ?_
  | with_reducible refine w_me ?_
  | with_reducible refine w_sfld ?_
  | ((with_reducible refine' w_gtup ?hh ?hn ?_); (case hh => first | assumption | exact upd_same); (case hn => rfl))
  | with_reducible refine w_gcons ?_
  | with_reducible refine w_gnil ?_
  | with_reducible refine w_repl ?_
  | with_reducible refine w_star ?_
  | with_reducible refine w_revL ?_
  | with_reducible refine w_isiS ?_
  | with_reducible refine w_isiI ?_
  | with_reducible refine w_isiN ?_
  | with_reducible refine w_chain ?_
  | with_reducible refine w_iEnumT ?_
  | with_reducible refine w_iZip3 ?_
  | with_reducible refine w_iZip ?_
  | with_reducible refine w_lenR3 ?_
  | with_reducible refine w_x1i ?_
  | with_reducible refine w_x1b ?_
  | with_reducible refine w_x1s ?_
  | with_reducible refine w_int1i ?_
  | with_reducible refine w_int1b ?_
  | ((with_reducible refine w_mod ?hc ?_); (case hc => omega))
  | ((with_reducible refine w_fdivW ?hc ?hd ?_); (case hc => omega); (case hd => omega))
  | ((with_reducible refine w_mul ?hc ?_); (case hc => first | exact Or.inr ⟨by decide, by decide⟩ | exact Or.inl ⟨by decide, by decide⟩))
  | ((with_reducible refine w_pow ?hc ?_); (case hc => exact ⟨by decide, by decide, by decide⟩)))
local macro_rules | `(tactic| walk_at "s1") => `(tactic| first
  | with_reducible refine w_seq ?_
  | with_reducible refine w_asg ?_
  | with_reducible refine w_ret ?_
  | with_reducible refine w_par ?_
  | with_reducible refine w_drop ?_
  | with_reducible refine w_next ?_
  | with_reducible refine w_ifs ?_
  | ((with_reducible refine' w_aug ?hv ?_); (case hv => rfl))
  | with_reducible refine w_for ?_
  | walk_at "e1")
local macro_rules | `(tactic| walk_at "e") => `(tactic| repeat walk_at "e1")
local macro_rules | `(tactic| walk_at "g") => `(tactic| repeat walk_at "s1")

namespace K28
open Dc Gk M28 Fpr M5
-- rank: 0:value
abbrev s_rank : Stmt := top 1
theorem sc_rank : FnScope ["value"] ["value"] (defScope s_rank) := ⟨rfl, rfl, rfl, by decide +kernel, rfl, by decide +kernel, by decide +kernel⟩
-- Summary.__init__: 0:self 1:rows 2:nulls 3:different 4:bounds
abbrev s_Summary___init__ : Stmt := inClass (top 4) 0
theorem sc_Summary___init__ : FnScope ["self", "rows", "nulls", "different", "bounds"] ["self", "rows", "nulls", "different", "bounds"] (defScope s_Summary___init__) := ⟨rfl, rfl, rfl, by decide +kernel, rfl, by decide +kernel, by decide +kernel⟩
-- Summary.shown: 0:self
abbrev s_Summary_shown : Stmt := inClass (top 4) 1
theorem sc_Summary_shown : FnScope ["self"] ["self"] (defScope s_Summary_shown) := ⟨rfl, rfl, rfl, by decide +kernel, rfl, by decide +kernel, by decide +kernel⟩
-- Summary.equal_rows: 0:self
abbrev s_Summary_equal_rows : Stmt := inClass (top 4) 2
theorem sc_Summary_equal_rows : FnScope ["self"] ["self"] (defScope s_Summary_equal_rows) := ⟨rfl, rfl, rfl, by decide +kernel, rfl, by decide +kernel, by decide +kernel⟩
-- Summary.below_rows: 0:self 1:value 2:place 3:below 4:bound
abbrev s_Summary_below_rows : Stmt := inClass (top 4) 3
theorem sc_Summary_below_rows : FnScope ["self", "value", "place", "below", "bound"] ["self", "value"] (defScope s_Summary_below_rows) := ⟨rfl, rfl, rfl, by decide +kernel, rfl, by decide +kernel, by decide +kernel⟩
-- Summary.range_rows: 0:self 1:low 2:high 3:upper 4:lower
abbrev s_Summary_range_rows : Stmt := inClass (top 4) 4
theorem sc_Summary_range_rows : FnScope ["self", "low", "high", "upper", "lower"] ["self", "low", "high"] (defScope s_Summary_range_rows) := ⟨rfl, rfl, rfl, by decide +kernel, rfl, by decide +kernel, by decide +kernel⟩
-- summarize: 0:values 1:places 2:value 3:parts 4:bounds 5:number
abbrev s_summarize : Stmt := top 5
theorem sc_summarize : FnScope ["values", "places", "value", "parts", "bounds", "number"] ["values"] (defScope s_summarize) := ⟨rfl, rfl, rfl, by decide +kernel, rfl, by decide +kernel, by decide +kernel⟩
-- summarize_rows: 0:rows 1:width 2:row 3:place
abbrev s_summarize_rows : Stmt := top 6
theorem sc_summarize_rows : FnScope ["rows", "width", "row", "place"] ["rows", "width"] (defScope s_summarize_rows) := ⟨rfl, rfl, rfl, by decide +kernel, rfl, by decide +kernel, by decide +kernel⟩
-- expected_share: 0:summaries 1:sides 2:many 3:place 4:sign 5:value 6:summary
abbrev s_expected_share : Stmt := top 7
theorem sc_expected_share : FnScope ["summaries", "sides", "many", "place", "sign", "value", "summary"] ["summaries", "sides", "many"] (defScope s_expected_share) := ⟨rfl, rfl, rfl, by decide +kernel, rfl, by decide +kernel, by decide +kernel⟩
-- asked_rows: 0:summary 1:sign 2:value 3:known 4:below 5:equal
abbrev s_asked_rows : Stmt := top 8
theorem sc_asked_rows : FnScope ["summary", "sign", "value", "known", "below", "equal"] ["summary", "sign", "value"] (defScope s_asked_rows) := ⟨rfl, rfl, rfl, by decide +kernel, rfl, by decide +kernel, by decide +kernel⟩
structure Ws (K : PySem.W.Frag) (mg : Str → Option Value) (cS : Addr) : Prop extends Wl K mg where
  n_isinstance : mg "isinstance" = none
  n_tuple : mg "tuple" = none
  n_max : mg "max" = none
  n_min : mg "min" = none
  n_sorted : mg "sorted" = none
  n_set : mg "set" = none
  n_dict : mg "dict" = none
  c_MOST_PARTS : Cin mg "MOST_PARTS" 8
  s_cl : Cls K cS
  s_rows : NoAttr K cS "rows"
  s_nulls : NoAttr K cS "nulls"
  s_different : NoAttr K cS "different"
  s_bounds : NoAttr K cS "bounds"
  s_g : mg "Summary" = some (.ref cS)
  s_i : ∃ (f : Addr) (fd : FuncData), FunD K "__init__" "Summary.__init__" (defArgs s_Summary___init__) (defBody s_Summary___init__) (defScope s_Summary___init__) [] [] f fd ∧ Mk K cS f
  s_shown : FnM K cS "shown" "Summary.shown" s_Summary_shown
  s_equal_rows : FnM K cS "equal_rows" "Summary.equal_rows" s_Summary_equal_rows
  s_below_rows : FnM K cS "below_rows" "Summary.below_rows" s_Summary_below_rows
  s_range_rows : FnM K cS "range_rows" "Summary.range_rows" s_Summary_range_rows
  d_rank : FnP K mg "rank" s_rank
  d_summarize : FnP K mg "summarize" s_summarize
  d_summarize_rows : FnP K mg "summarize_rows" s_summarize_rows
  d_expected_share : FnP K mg "expected_share" s_expected_share
  d_asked_rows : FnP K mg "asked_rows" s_asked_rows
def F4 (a b c d : V) : List (Str × V) := [("rows", a), ("nulls", b), ("different", c), ("bounds", d)]
section
variable {v1 v2 v3 v4 y : V} {K K' : PySem.W.Frag} {mg : Str → Option Value} {cS : Addr} {H : Hp} {Q : VK} {x dx : Addr} {σ : L2.St} {i : Nat}
theorem l_1 : (F4 v1 v2 v3 v4).lookup ("rows" : Str) = some v1 := Dq.look1 (by decide +kernel)
theorem l_2 : (F4 v1 v2 v3 v4).lookup ("nulls" : Str) = some v2 := (Dq.look0 (by decide +kernel)).trans (Dq.look1 (by decide +kernel))
theorem l_3 : (F4 v1 v2 v3 v4).lookup ("different" : Str) = some v3 := (Dq.look0 (by decide +kernel)).trans ((Dq.look0 (by decide +kernel)).trans (Dq.look1 (by decide +kernel)))
theorem l_4 : (F4 v1 v2 v3 v4).lookup ("bounds" : Str) = some v4 := (Dq.look0 (by decide +kernel)).trans ((Dq.look0 (by decide +kernel)).trans ((Dq.look0 (by decide +kernel)).trans (Dq.look1 (by decide +kernel))))
theorem g_rows (W : Ws K mg cS) (hK : K' = K) (hs : σ[i]? = some (some (.ref x))) (hx : H x = some (.ins cS dx (F4 v1 v2 v3 v4))) (q : Q v1 H) : tFld K' (tVar i) ("rows" : Str) σ H Q := by
  subst hK
  exact ⟨_, hs, x, cS, dx, _, _, rfl, hx, W.s_cl, W.s_rows, l_1, q⟩
theorem g_nulls (W : Ws K mg cS) (hK : K' = K) (hs : σ[i]? = some (some (.ref x))) (hx : H x = some (.ins cS dx (F4 v1 v2 v3 v4))) (q : Q v2 H) : tFld K' (tVar i) ("nulls" : Str) σ H Q := by
  subst hK
  exact ⟨_, hs, x, cS, dx, _, _, rfl, hx, W.s_cl, W.s_nulls, l_2, q⟩
theorem g_different (W : Ws K mg cS) (hK : K' = K) (hs : σ[i]? = some (some (.ref x))) (hx : H x = some (.ins cS dx (F4 v1 v2 v3 v4))) (q : Q v3 H) : tFld K' (tVar i) ("different" : Str) σ H Q := by
  subst hK
  exact ⟨_, hs, x, cS, dx, _, _, rfl, hx, W.s_cl, W.s_different, l_3, q⟩
theorem g_bounds (W : Ws K mg cS) (hK : K' = K) (hs : σ[i]? = some (some (.ref x))) (hx : H x = some (.ins cS dx (F4 v1 v2 v3 v4))) (q : Q v4 H) : tFld K' (tVar i) ("bounds" : Str) σ H Q := by
  subst hK
  exact ⟨_, hs, x, cS, dx, _, _, rfl, hx, W.s_cl, W.s_bounds, l_4, q⟩
theorem puts3 : putF ("nulls" : Str) v2 (putF ("rows" : Str) v1 []) = [(("rows" : Str), v1), (("nulls" : Str), v2)] := by
  have e1 : putF ("rows" : Str) v1 [] = [(("rows" : Str), v1)] := rfl
  rw [e1, Dq.putF_ne (by decide +kernel)]
  rfl
theorem puts4' : putF ("different" : Str) v3 (putF ("nulls" : Str) v2 (putF ("rows" : Str) v1 [])) = [(("rows" : Str), v1), (("nulls" : Str), v2), (("different" : Str), v3)] := by
  rw [puts3, Dq.putF_ne (by decide +kernel), Dq.putF_ne (by decide +kernel)]
  rfl
theorem puts4 : putF ("bounds" : Str) v4 (putF ("different" : Str) v3 (putF ("nulls" : Str) v2 (putF ("rows" : Str) v1 []))) = F4 v1 v2 v3 v4 := by
  have e1 : putF ("rows" : Str) v1 [] = [(("rows" : Str), v1)] := rfl
  have e2 : putF ("nulls" : Str) v2 [(("rows" : Str), v1)] = [(("rows" : Str), v1), (("nulls" : Str), v2)] := by rw [Dq.putF_ne (by decide +kernel)]; rfl
  have e3 : putF ("different" : Str) v3 [(("rows" : Str), v1), (("nulls" : Str), v2)] = [(("rows" : Str), v1), (("nulls" : Str), v2), (("different" : Str), v3)] := by rw [Dq.putF_ne (by decide +kernel), Dq.putF_ne (by decide +kernel)]; rfl
  rw [e1, e2, e3, Dq.putF_ne (by decide +kernel), Dq.putF_ne (by decide +kernel), Dq.putF_ne (by decide +kernel)]
  rfl
end
/-- ranking pairs that stand in the heap -/
theorem F4_no {v1 v2 v3 v4 : V} {g : Str} (h1 : (g == ("rows" : Str)) = false) (h2 : (g == ("nulls" : Str)) = false) (h3 : (g == ("different" : Str)) = false) (h4 : (g == ("bounds" : Str)) = false) : (F4 v1 v2 v3 v4).lookup g = none :=
  (Dq.look0 h1).trans ((Dq.look0 h2).trans ((Dq.look0 h3).trans ((Dq.look0 h4).trans rfl)))
theorem no_shown {v1 v2 v3 v4 : V} : (F4 v1 v2 v3 v4).lookup ("shown" : Str) = none := F4_no (by decide +kernel) (by decide +kernel) (by decide +kernel) (by decide +kernel)
theorem no_equal {v1 v2 v3 v4 : V} : (F4 v1 v2 v3 v4).lookup ("equal_rows" : Str) = none := F4_no (by decide +kernel) (by decide +kernel) (by decide +kernel) (by decide +kernel)
theorem no_below {v1 v2 v3 v4 : V} : (F4 v1 v2 v3 v4).lookup ("below_rows" : Str) = none := F4_no (by decide +kernel) (by decide +kernel) (by decide +kernel) (by decide +kernel)
theorem no_range {v1 v2 v3 v4 : V} : (F4 v1 v2 v3 v4).lookup ("range_rows" : Str) = none := F4_no (by decide +kernel) (by decide +kernel) (by decide +kernel) (by decide +kernel)
theorem w_isNV {H : Hp} {Q : VK} {v : RV} (q : Q (.bl (decide (v = .non))) H) : rIsN (vV v) V.non H Q := Dq.w_isNb (by cases v <;> simp [vV]) q
theorem w_notNV {H : Hp} {Q : VK} {v : RV} (q : Q (.bl (!decide (v = .non))) H) : rNotN (vV v) V.non H Q := Dq.w_notNb (by cases v <;> simp [vV]) q
def okv : RV → Prop
  | .txt l => ∀ c ∈ l, c < 128
  | _ => True
def Prs (H : Hp) (ks : List (Addr × RV)) : Prop := ∀ p ∈ ks, H p.1 = some (.tup (rkV p.2)) ∧ okv p.2
theorem Prs.sm {H H' : Hp} {ks : List (Addr × RV)} (h : Prs H ks) (s : Same H H') : Prs H' ks := fun p hp => ⟨s _ _ (h p hp).1, (h p hp).2⟩
theorem S_ok {l : List Nat} (h : ∀ c ∈ l, c < 128) : PyData.strOk (S l) = true := by
  unfold PyData.strOk
  rw [Array.all_eq_true_iff_forall_mem]
  intro c hc
  have : c ∈ (S l).cps.toList := hc.val
  rw [S_list] at this
  exact decide_eq_true (by have := h c this; omega)
def dR (v : RV) : PyData := .tuple [.int (rk1 v), match v with | .txt l => .str (S l) | .num n => .int n | .non => .int 0]
theorem dR_dp {K : PySem.W.Frag} {H : Hp} {p : Addr × RV} (h : H p.1 = some (.tup (rkV p.2))) : Dp K H (.ref p.1) (dR p.2) := by
  refine .tup (SqT.of h) ?_
  rw [rkV_eq]
  refine .cons (.int _) (.cons ?_ .nil)
  cases p.2 with
  | non => exact .int _
  | txt l => exact .str _
  | num n => exact .int _
theorem dR_fine {v : RV} (h : okv v) : Fine 1 (dR v) := by
  refine Fine.tup fun d hd => ?_
  rcases List.mem_cons.mp hd with rfl | hd
  · exact .int _
  · rw [List.mem_singleton.mp hd]
    cases v with
    | non => exact .int _
    | txt l => exact .str (S_ok h)
    | num n => exact .int _
theorem prs_dp {K : PySem.W.Frag} {H : Hp} : ∀ {ks : List (Addr × RV)}, Prs H ks → DpAll K H (ks.map fun p => V.ref p.1) (ks.map fun p => dR p.2)
  | [], _ => .nil
  | p :: ks, h => .cons (dR_dp (h p List.mem_cons_self).1) (prs_dp fun q hq => h q (List.mem_cons_of_mem _ hq))
theorem prs_fine {H : Hp} {ks : List (Addr × RV)} (h : Prs H ks) : ∀ d ∈ ks.map (fun p => dR p.2), Fine 1 d := fun d hd => by
  obtain ⟨p, hp, rfl⟩ := List.mem_map.mp hd
  exact dR_fine (h p hp).2
theorem w_eqEmpty {K : PySem.W.Frag} {H : Hp} {Q : VK} {b T : Addr} {ks : List (Addr × RV)} (hb : H b = some (.tup (ks.map fun p => V.ref p.1))) (hT : H T = some (.tup [])) (hp : Prs H ks) (q : Q (.bl (decide (ks = []))) H) : rEqD K (.ref b) (.ref T) H Q := by
  refine ⟨_, _, .tup (SqT.of hb) (prs_dp hp), .tup (SqT.of hT) .nil, (Fine.tup (prs_fine hp)).shaped (by decide), by decide +kernel, ?_⟩
  have : PyData.eqv (.tuple (ks.map fun p => dR p.2)) (.tuple []) = decide (ks = []) := by
    cases ks with
    | nil => rfl
    | cons p r => rfl
  rw [this]
  exact q
theorem w_eqEmptyL {K : PySem.W.Frag} {H : Hp} {Q : VK} {b T : Addr} {ks : List (Addr × RV)} (hb : H b = some (.lst (ks.map fun p => V.ref p.1))) (hT : H T = some (.lst [])) (hp : Prs H ks) (q : Q (.bl (decide (ks = []))) H) : rEqD K (.ref b) (.ref T) H Q := by
  refine ⟨_, _, .lst (SqL.of hb) (prs_dp hp), .lst (SqL.of hT) .nil, (Fine.lst (prs_fine hp)).shaped (by decide), by decide +kernel, ?_⟩
  have : PyData.eqv (.list (ks.map fun p => dR p.2)) (.list []) = decide (ks = []) := by
    cases ks with
    | nil => rfl
    | cons p r => rfl
  rw [this]
  exact q
def SumO (cS : Addr) (H : Hp) (x : Addr) (s : SD) : Prop := ∃ dx b ks, H x = some (.ins cS dx (F4 (.int s.r) (.int s.n) (.int s.d) (.ref b))) ∧ H b = some (.tup (ks.map fun p => V.ref p.1)) ∧ ks.map (·.2) = s.bs ∧ Prs H ks
theorem SumO.sm {cS : Addr} {H H' : Hp} {x : Addr} {s : SD} (h : SumO cS H x s) (e : Same H H') : SumO cS H' x s := by
  obtain ⟨dx, b, ks, h1, h2, h3, h4⟩ := h
  exact ⟨dx, b, ks, e _ _ h1, e _ _ h2, h3, h4.sm e⟩
/-- what a summary shows -/
def ShO (H : Hp) (p : Addr) (s : SD) : Prop := ∃ b ks, H p = some (.tup [.int s.r, .int s.n, .int s.d, .ref b]) ∧ H b = some (.tup (ks.map fun p => V.ref p.1)) ∧ ks.map (·.2) = s.bs ∧ Prs H ks
theorem ShO.sm {H H' : Hp} {x : Addr} {s : SD} (h : ShO H x s) (e : Same H H') : ShO H' x s := by
  obtain ⟨b, ks, h1, h2, h3, h4⟩ := h
  exact ⟨b, ks, e _ _ h1, e _ _ h2, h3, h4.sm e⟩
def spRank : Sp := fun vs H Q _ => ∃ v : RV, vs = [vV v] ∧ ∀ p, H p = none → Q (.ref p) (upd H p (.tup (rkV v)))
def spIni (cS : Addr) : Sp := fun vs H Q _ => ∃ (x dx l : Addr) (r n d : Int) (xs : List V), vs = [.ref x, .int r, .int n, .int d, .ref l] ∧ H x = some (.ins cS dx []) ∧ (H l = some (.lst xs) ∨ H l = some (.tup xs)) ∧
  ∀ b H', (∀ a o, a ≠ x → H a = some o → H' a = some o) → H' x = some (.ins cS dx (F4 (.int r) (.int n) (.int d) (.ref b))) → H' b = some (.tup xs) → Q .non H'
def spShown (cS : Addr) : Sp := fun vs H Q _ => ∃ (x : Addr) (s : SD), vs = [.ref x] ∧ SumO cS H x s ∧ ∀ p H', Same H H' → ShO H' p s → Q (.ref p) H'
def spEq (cS : Addr) : Sp := fun vs H Q _ => ∃ (x : Addr) (s : SD), vs = [.ref x] ∧ SumO cS H x s ∧ 0 ≤ s.d ∧ s.d < 2 ^ 50 ∧ Q (.int (eqR s)) H
def spBelow (cS : Addr) : Sp := fun vs H Q _ => ∃ (x : Addr) (s : SD) (v : RV), vs = [.ref x, vV v] ∧ SumO cS H x s ∧ s.bs.length ≤ 1000 ∧ ∀ H', Same H H' → Q (.int (blw s v)) H'
def spRange (cS : Addr) : Sp := fun vs H Q _ => ∃ (x : Addr) (s : SD) (u v : RV), vs = [.ref x, vV u, vV v] ∧ SumO cS H x s ∧ s.bs.length ≤ 1000 ∧ ∀ H', Same H H' → Q (.int (rng s u v)) H'
section
variable {P : Program} {w : World} {K : PySem.W.Frag} {mg : Str → Option Value} {base : Heap} {cS : Addr} {H : Hp} {x : Addr} {s : SD}
/-- how a method of a summary is asked -/
theorem sum_at (h : SumO cS H x s) {g : Str} (hg : ∀ v1 v2 v3 v4 : V, (F4 v1 v2 v3 v4).lookup g = none) {R : Prop} (q : R) : ∃ a dx fs, V.ref x = .ref a ∧ H a = some (.ins cS dx fs) ∧ fs.lookup g = none ∧ R := by
  obtain ⟨dx, b, ks, h1, _⟩ := h
  exact ⟨x, dx, _, rfl, h1, hg _ _ _ _, q⟩
end
end K28
end

section
-- part K28B
set_option Elab.async false
set_option linter.all false
set_option maxRecDepth 100000
set_option maxHeartbeats 800000
open PySem PySem.Spec PyProof.Rows L2 Fw
local macro_rules | `(tactic| walk_at "e1") => `(tactic| first
  | ((with_reducible refine' w_var ?hv ?_); (case hv => rfl))
  | with_reducible refine w_c ?_
  | with_reducible refine w_op ?_
  | with_reducible refine w_un ?_
  | with_reducible refine w_cons ?_
  | with_reducible refine w_nil ?_
  | with_reducible refine w_cl ?_
  | with_reducible refine w_cb ?_
  | with_reducible refine w_gname ?_
  | with_reducible refine w_gsub ?_
  | with_reducible refine w_test ?_
  | with_reducible refine w_B ?_
  | with_reducible refine w_bl ?_
  | with_reducible refine w_and ?_
  | with_reducible refine w_or ?_
  | with_reducible refine w_not ?_
  | with_reducible refine w_if ?_
  | with_reducible refine w_I0 ?_
  | with_reducible refine Gk.w_rU ?_
  | with_reducible refine Dq.w_orV ?_
  | with_reducible refine Dq.w_js ?_
  | with_reducible refine Dq.w_js0 ?_
  | with_reducible refine Dq.w_fm ?_
  | with_reducible refine Dq.w_andV ?_
  | with_reducible refine Gk.w_iEnum ?_
  | with_reducible refine Dq.w_dget ?_
  | with_reducible refine Dq.w_dpop1 ?_
  | with_reducible refine Dq.w_ddel ?_
  | with_reducible refine Dq.w_din ?_
  | with_reducible refine Dq.w_dnotin ?_
  | with_reducible refine Dq.w_dget2 ?_
  | with_reducible refine Dq.w_dnew ?_
  | with_reducible refine Dq.w_fldaug ?_
  | with_reducible refine Dq.w_aSub ?_
  | with_reducible refine Dq.w_aAdd ?_
  | with_reducible refine Dq.w_mkd ?_
  | with_reducible refine Dq.w_notN0 ?_
  | with_reducible refine Dq.w_isN0 ?_
  | with_reducible refine Ftw.w_isTI ?_
  | with_reducible refine Ftw.w_isTS ?_
  | with_reducible refine Ftw.w_isTR ?_
  | with_reducible refine Ftw.w_isTN ?_
  | with_reducible refine Ftw.w_isTtt ?_
  | with_reducible refine Ftw.w_isTft ?_
  | with_reducible refine Ftw.w_isTtf ?_
  | with_reducible refine Ftw.w_isNS ?_
  | with_reducible refine Ftw.w_isNB ?_
  | ((with_reducible refine' Ftw.w_isiRS ?hq ?_); (case hq => assumption))
  | ((with_reducible refine' Ftw.w_isiRT ?hq ?_); (case hq => assumption))
  | ((with_reducible refine' Ftw.w_isiRI ?hq ?_); (case hq => assumption))
  | with_reducible refine Ftw.w_isiIT ?_
  | with_reducible refine Ftw.w_isiII ?_
  | with_reducible refine Dq.w_notNR ?_
  | with_reducible refine Dq.w_isNR ?_
  | with_reducible refine Dq.w_notNI ?_
  | with_reducible refine Dq.w_isNI ?_
  | with_reducible refine L2.w_neOs ?_
  | with_reducible refine w_ipI ?_
  | with_reducible refine w_eqS ?_
  | with_reducible refine w_neS ?_
  | with_reducible refine w_eqI ?_
  | with_reducible refine w_neI ?_
  | with_reducible refine w_eqB ?_
  | with_reducible refine w_neB ?_
  | ((with_reducible refine w_eq ?hs ?_); (case hs => rfl))
  | ((with_reducible refine w_ne ?hs ?_); (case hs => rfl))
  | with_reducible refine w_fld ?_
  | with_reducible refine w_bm ?_
  | with_reducible refine w_bm0 ?_
  | with_reducible refine w_sl ?_
  | with_reducible refine w_part ?_
  | with_reducible refine w_partI ?_
  | with_reducible refine w_nopart ?_
  | ((with_reducible refine' w_ixL ?hh ?ha ?_); (case hh => first | assumption | exact upd_same); (case ha => rfl))
  | ((with_reducible refine' w_setLu ?ha ?_); (case ha => rfl))
  | ((with_reducible refine' w_setL ?hh ?ha ?_); (case hh => first | assumption | exact upd_same); (case ha => rfl))
  | with_reducible refine w_iteT ?_
  | with_reducible refine w_iteF ?_
  | with_reducible refine w_lst ?_
  | with_reducible refine w_tup ?_
  | ((with_reducible refine w_new ?hz ?_); (case hz => rfl))
  | with_reducible refine w_lc ?_
  | with_reducible refine w_iL ?_
  | with_reducible refine w_iT ?_
  | with_reducible refine w_iR1 ?_
  | with_reducible refine w_iR2 ?_
  | with_reducible refine w_yes ?_
  | with_reducible refine w_iStr ?_
  | with_reducible exact tyS
  | with_reducible refine And.intro tyS ?_
  | ((with_reducible refine w_find3 ?_); (first | rw [find3_one] | rw [starts3] | skip))
  | ((with_reducible refine w_2s ?_); (try rw [find_one]))
  | ((with_reducible refine w_inS ?_); rw [S_list])
  | ((with_reducible refine w_lenS ?hz ?_); (case hz => first | assumption | omega | decide); rw [SX.S_len])
  | ((with_reducible refine w_addS ?hz ?_); (case hz => first | assumption | omega | decide); rw [vS_cat])
  | with_reducible refine w_mk ?_
  | with_reducible refine w_me ?_
  | with_reducible refine w_sfld ?_
  | ((with_reducible refine' w_gtup ?hh ?hn ?_); (case hh => first | assumption | exact upd_same); (case hn => rfl))
  | with_reducible refine w_gcons ?_
  | with_reducible refine w_gnil ?_
  | with_reducible refine w_repl ?_
  | with_reducible refine w_star ?_
  | with_reducible refine w_revL ?_
  | with_reducible refine w_isiS ?_
  | with_reducible refine w_isiI ?_
  | with_reducible refine w_isiN ?_
  | with_reducible refine w_chain ?_
  | with_reducible refine w_iEnumT ?_
  | with_reducible refine w_iZip3 ?_
  | with_reducible refine w_iZip ?_
  | with_reducible refine w_lenR3 ?_
  | with_reducible refine w_x1i ?_
  | with_reducible refine w_x1b ?_
  | with_reducible refine w_x1s ?_
  | with_reducible refine w_int1i ?_
  | with_reducible refine w_int1b ?_
  | ((with_reducible refine w_mod ?hc ?_); (case hc => omega))
  | ((with_reducible refine w_fdivW ?hc ?hd ?_); (case hc => omega); (case hd => omega))
  | ((with_reducible refine w_mul ?hc ?_); (case hc => first | exact Or.inr ⟨by decide, by decide⟩ | exact Or.inl ⟨by decide, by decide⟩))
  | ((with_reducible refine w_pow ?hc ?_); (case hc => exact ⟨by decide, by decide, by decide⟩)))
local macro_rules | `(tactic| walk_at "f1") => `(tactic| first
  | ((with_reducible refine' K28.g_rows ?hW ?hK ?hs ?hx ?_); (case hW => assumption); (case hK => rfl); (case hs => rfl); (case hx => first | assumption | exact upd_same))
  | ((with_reducible refine' K28.g_nulls ?hW ?hK ?hs ?hx ?_); (case hW => assumption); (case hK => rfl); (case hs => rfl); (case hx => first | assumption | exact upd_same))
  | ((with_reducible refine' K28.g_different ?hW ?hK ?hs ?hx ?_); (case hW => assumption); (case hK => rfl); (case hs => rfl); (case hx => first | assumption | exact upd_same))
  | ((with_reducible refine' K28.g_bounds ?hW ?hK ?hs ?hx ?_); (case hW => assumption); (case hK => rfl); (case hs => rfl); (case hx => first | assumption | exact upd_same))
  | walk_at "e1")
local macro_rules | `(tactic| walk_at "s1") => `(tactic| first
  | with_reducible refine w_seq ?_
  | with_reducible refine w_asg ?_
  | with_reducible refine w_ret ?_
  | with_reducible refine w_par ?_
  | with_reducible refine w_drop ?_
  | with_reducible refine w_next ?_
  | with_reducible refine w_ifs ?_
  | ((with_reducible refine' w_aug ?hv ?_); (case hv => rfl))
  | with_reducible refine w_for ?_
  | walk_at "f1")
local macro_rules | `(tactic| walk_at "e") => `(tactic| repeat walk_at "e1")
local macro_rules | `(tactic| walk_at "g") => `(tactic| repeat walk_at "s1")

namespace K28
open Dc Gk M28 Fpr M5
section
variable {P : Program} {w : World} {K : PySem.W.Frag} {mg : Str → Option Value} {base : Heap} {cS : Addr}
theorem ok_rank (W : Ws K mg cS) : Cl P w K mg base 1 "rank" spRank := by
  refine cl_mk W.d_rank sc_rank (fun _ _ _ _ _ _ us hl => match us, hl with | [_], _ => rfl) (fun vs H Q E h => ?_) (fun f cdv A outer s H vs Q E hr h => ?_)
  · obtain ⟨v, rfl, _⟩ := h; rfl
  obtain ⟨v, rfl, q⟩ := h
  refine ⟨_, (pss_cons (ps_if (pt_cmpR op_isN1 (pv 0) pe_non (nomark _))
    (pss_one (ps_ret (pe_tup (pa_cons pe_int (pa_cons pe_int pa_nil)))))
    pss_nil)
    (pss_cons (ps_if (pt_val (pe_callB L2.call_isi rfl W.n_isinstance PyProof.Rows.boot_isinstance (pa_cons (pv 0) (pa_cons (pe_bltn (v := .ty "str") rfl W.n_str (by decide +kernel) rfl) pa_nil))))
    (pss_one (ps_ret (pe_tup (pa_cons pe_int (pa_cons (pv 0) pa_nil)))))
    pss_nil)
    (pss_one (ps_ret (pe_tup (pa_cons pe_int (pa_cons (pv 0) pa_nil))))))), ?_⟩
  cases v with
  | non =>
    rw [show vV .non = V.non from rfl]
    walk_at "g"
    exact q
  | txt l =>
    rw [show vV (.txt l) = V.str (S l) from rfl]
    walk_at "g"
    exact q
  | num n =>
    rw [show vV (.num n) = V.int n from rfl]
    walk_at "g"
    exact q
theorem ok_ini (W : Ws K mg cS) : Mc P w K mg base 1 "Summary" cS (spIni cS) := by
  refine mc_mk W.s_i W.s_g sc_Summary___init__ (fun _ _ _ _ _ _ us hl => match us, hl with | [_, _, _, _, _], _ => rfl) (fun vs H Q E h => ?_) (fun f cdv A outer s H vs Q E hr h => ?_)
  · obtain ⟨x, dx, l, r, n, d, xs, rfl, _⟩ := h; rfl
  obtain ⟨x, dx, l, r, n, d, xs, rfl, hx, hl, q⟩ := h
  refine ⟨_, (pss_cons (ps_fld (pv 0) (pv 1) rfl)
    (pss_cons (ps_fld (pv 0) (pv 2) rfl)
    (pss_cons (ps_fld (pv 0) (pv 3) rfl)
    (pss_one (ps_fld (pv 0) (pe_callTy call_tuple_of rfl W.n_tuple (by decide +kernel) (pa_cons (pv 4) pa_nil)) rfl))))), ?_⟩
  walk_at "g"
  refine ⟨x, cS, dx, _, rfl, hx, W.s_cl, W.s_rows, by show 0 < 1000; decide, ?_⟩
  walk_at "g"
  refine ⟨x, cS, dx, _, rfl, upd_same, W.s_cl, W.s_nulls, by show 1 < 1000; decide, ?_⟩
  rw [upd_upd]
  walk_at "g"
  refine ⟨x, cS, dx, _, rfl, upd_same, W.s_cl, W.s_different, by rw [puts3]; show 2 < 1000; decide, ?_⟩
  rw [upd_upd]
  have lx : l ≠ x := fun z => by
    subst z
    rcases hl with h | h <;> rw [hx] at h <;> cases h
  have keep : ∀ o a u, a ≠ x → H a = some u → (upd H x o) a = some u := fun o a u n e => by rw [upd_ne n]; exact e
  walk_at "g"
  rcases hl with hl | hl
  · refine ⟨l, xs, rfl, .inl ⟨SqL.of (keep _ l _ lx hl), fun b hb => ?_⟩⟩
    walk_at "g"
    have bx : x ≠ b := fun z => by rw [← z, upd_same] at hb; cases hb
    refine ⟨x, cS, dx, _, rfl, by rw [upd_ne bx]; exact upd_same, W.s_cl, W.s_bounds, by rw [puts4']; show 3 < 1000; decide, ?_⟩
    rw [puts4]
    refine q b _ (fun a o n e => ?_) upd_same (by rw [upd_ne bx.symm]; exact upd_same)
    have ab : a ≠ b := fun z => by
      rw [z] at e n
      rw [upd_ne n, e] at hb
      cases hb
    rw [upd_ne n, upd_ne ab, upd_ne n]
    exact e
  · refine ⟨l, xs, rfl, .inr ⟨SqT.of (keep _ l _ lx hl), ?_⟩⟩
    walk_at "g"
    refine ⟨x, cS, dx, _, rfl, upd_same, W.s_cl, W.s_bounds, by rw [puts4']; show 3 < 1000; decide, ?_⟩
    rw [puts4, upd_upd]
    exact q l _ (fun a o n e => by rw [upd_ne n]; exact e) upd_same (by rw [upd_ne lx]; exact hl)
theorem ok_shown (W : Ws K mg cS) : Me P w K mg base 1 cS "shown" (spShown cS) := by
  refine me_mk W.s_shown W.s_cl sc_Summary_shown (fun _ _ _ _ _ _ us hl => match us, hl with | [_], _ => rfl) (fun vs H Q E h => ?_) (fun f cdv A outer s H vs Q E hr h => ?_)
  · obtain ⟨x, s, rfl, _⟩ := h; rfl
  obtain ⟨x, s, rfl, ⟨dx, b, ks, hx, hb, hk, hp⟩, q⟩ := h
  refine ⟨_, (pss_one (ps_ret (pe_tup (pa_cons (pe_fld (pv 0) rfl) (pa_cons (pe_fld (pv 0) rfl) (pa_cons (pe_fld (pv 0) rfl) (pa_cons (pe_fld (pv 0) rfl) pa_nil))))))), ?_⟩
  walk_at "g"
  intro p hp1
  have s1 := same_new hp1 (.tup [.int s.r, .int s.n, .int s.d, .ref b])
  exact q p _ s1 ⟨b, ks, upd_same, s1 _ _ hb, hk, hp.sm s1⟩
theorem ok_eq (W : Ws K mg cS) : Me P w K mg base 1 cS "equal_rows" (spEq cS) := by
  refine me_mk W.s_equal_rows W.s_cl sc_Summary_equal_rows (fun _ _ _ _ _ _ us hl => match us, hl with | [_], _ => rfl) (fun vs H Q E h => ?_) (fun f cdv A outer s H vs Q E hr h => ?_)
  · obtain ⟨x, s, rfl, _⟩ := h; rfl
  obtain ⟨x, s, rfl, ⟨dx, b, ks, hx, hb, hk, hp⟩, d0, d1, q⟩ := h
  refine ⟨_, (pss_cons (ps_if (pt_cmpR op_eq (pe_fld (pv 0) rfl) pe_int (nomark _))
    (pss_one (ps_ret pe_int))
    pss_nil)
    (pss_one (ps_ret (pe_op op_fdivW (pe_op op_sub (pe_op op_add (pe_op op_sub (pe_fld (pv 0) rfl) (pe_fld (pv 0) rfl)) (pe_fld (pv 0) rfl)) pe_int) (pe_fld (pv 0) rfl))))), ?_⟩
  unfold eqR at q
  walk_at "g"
  refine w_iteD (fun c => ?_) (fun c => ?_)
  · walk_at "g"
    rw [if_pos c] at q
    exact q
  · walk_at "g"
    rw [if_neg c] at q
    exact q
theorem ok_below (W : Ws K mg cS) (c_rank : Cl P w K mg base 1 "rank" spRank) : Me P w K mg base 2 cS "below_rows" (spBelow cS) := by
  refine me_mk W.s_below_rows W.s_cl sc_Summary_below_rows (fun _ _ _ _ _ _ us hl => match us, hl with | [_, _], _ => rfl) (fun vs H Q E h => ?_) (fun f cdv A outer s H vs Q E hr h => ?_)
  · obtain ⟨x, s, v, rfl, _⟩ := h; rfl
  obtain ⟨x, s, v, rfl, ⟨dx, b, ks, hx, hb, hk, hp⟩, hl, q⟩ := h
  refine ⟨_, (pss_cons (ps_if (pt_cmpR (op_eqD (hu64 hr)) (pe_fld (pv 0) rfl) (pe_tup pa_nil) (nomark _))
    (pss_one (ps_ret pe_int))
    pss_nil)
    (pss_cons (ps_set (i := 2) sc_Summary_below_rows.nd rfl (by first | exact Or.inl rfl | exact Or.inr rfl) (pe_cl c_rank hr (by decide) rfl passL (pa_cons (pv 1) pa_nil)))
    (pss_cons (ps_setLc (i := 3) (own := [("bound", 4)]) rfl sc_Summary_below_rows.nd rfl rfl (sw_true rfl rfl rfl (by decide +kernel)) (pi_tup (pe_fld (pv 0) rfl)) (blkOk_by (own := [("bound", 4)]) (N := ["self", "value", "place", "below", "bound"]) (sc := defScope s_Summary_below_rows) (by decide +kernel)) (fun _ _ _ _ _ => (pg_name (i := 4) sc_Summary_below_rows.nd rfl (by first | exact Or.inl rfl | exact Or.inr rfl))) (fun _ _ _ _ _ => (pts_one (pt_cmpR (Fpr.op_ltPr K rfl (hu64 hr)) (pv 4) (pv 2) (nomark _)))) (fun _ _ _ _ _ => (pv 4)))
    (pss_one (ps_ret (pe_op op_fdivW (pe_op op_mul (pe_op op_sub (pe_fld (pv 0) rfl) (pe_fld (pv 0) rfl)) (pe_callB call_len_seq rfl W.n_len PySem.boot_len (pa_cons (pv 3) pa_nil))) (pe_callB call_len_seq rfl W.n_len PySem.boot_len (pa_cons (pe_fld (pv 0) rfl) pa_nil)))))))), ?_⟩
  have lk : ks.length = s.bs.length := by rw [← hk, List.length_map]
  unfold blw at q
  walk_at "g"
  intro T hT
  have s1 := same_new hT (.tup [])
  refine w_eqEmpty (s1 _ _ hb) upd_same (hp.sm s1) ?_
  walk_at "g"
  refine w_iteD (fun c => ?_) (fun c => ?_)
  · walk_at "g"
    have c2 : s.bs = [] := by rw [← hk, c]; rfl
    rw [if_pos c2] at q
    exact q _ s1
  · have c2 : ¬ s.bs = [] := fun z => c (List.map_eq_nil_iff.mp (hk.trans z))
    rw [if_neg c2] at q
    walk_at "g"
    refine ⟨v, rfl, fun R hR => ?_⟩
    have s2 := s1.trans (same_new hR (.tup (rkV v)))
    have eR : (upd (upd H T (.tup [])) R (.tup (rkV v))) R = some (.tup (rkV v)) := upd_same
    generalize upd (upd H T (.tup [])) R (.tup (rkV v)) = H2 at s2 eR
    have hx2 := s2 _ _ hx
    have hb2 := s2 _ _ hb
    have hp2 := hp.sm s2
    walk_at "g"
    refine w_lcTn (SqT.of hb2) fun D hD => ⟨fun i H3 => ∃ ys : List V, Same H2 H3 ∧ H3 D = some (.lst ys) ∧ ys.length = M28.cnt ((ks.take i).map (·.2)) v, ⟨[], same_new hD _, upd_same, rfl⟩, fun i H3 _ ⟨ys, e, _⟩ => SqT.of (e _ _ hb2), ?_, ?_⟩
    · rintro i z H3 hi ⟨ys, e3, eD, el⟩
      obtain ⟨p, hp3, rfl⟩ := map_get hi
      have pin := List.mem_of_getElem? hp3
      walk_at "g"
      refine ⟨rfl, ?_⟩
      walk_at "g"
      refine ⟨p.1, R, p.2, v, rfl, rfl, SqT.of (e3 _ _ (hp2 p pin).1), SqT.of (e3 _ _ eR), ?_⟩
      walk_at "g"
      have ct := cnt_take hp3 v
      refine w_ite (fun c => ?_) (fun c => ?_)
      · rw [if_pos c] at ct
        walk_at "g"
        have := M28.cnt_le ((ks.take i).map (·.2)) v
        rw [List.length_map, List.length_take] at this
        exact ⟨ys, eD, Nat.lt_of_lt_of_le (by omega : ys.length < 2000) (by decide), ys ++ [_], same_upd e3 hD, upd_same, by rw [List.length_append, el, ct]; rfl⟩
      · rw [if_neg (by rw [c]; decide)] at ct
        exact ⟨ys, e3, eD, by rw [el, ct]; rfl⟩
    · rintro H3 ⟨ys, e3, eD, el⟩
      rw [List.length_map, List.take_length, hk] at el
      have hx3 := e3 _ _ hx2
      have hb3 := e3 _ _ hb2
      walk_at "g"
      refine ⟨D, ys, rfl, .inl (SqL.of eD), ?_⟩
      have ct := M28.cnt_le s.bs v
      refine w_mul (Or.inr ⟨by omega, by omega⟩) ?_
      walk_at "g"
      refine ⟨b, _, rfl, .inr (SqT.of hb3), ?_⟩
      rw [List.length_map, lk, el]
      have : 0 < s.bs.length := List.length_pos_iff.mpr c2
      walk_at "g"
      exact q _ (s2.trans e3)
theorem ok_range (W : Ws K mg cS) (c_Summary_below_rows : Me P w K mg base 2 cS "below_rows" (spBelow cS)) : Me P w K mg base 3 cS "range_rows" (spRange cS) := by
  refine me_mk W.s_range_rows W.s_cl sc_Summary_range_rows (fun _ _ _ _ _ _ us hl => match us, hl with | [_, _, _], _ => rfl) (fun vs H Q E h => ?_) (fun f cdv A outer s H vs Q E hr h => ?_)
  · obtain ⟨x, s, u, v, rfl, _⟩ := h; rfl
  obtain ⟨x, s, u, v, rfl, so, hl, q⟩ := h
  refine ⟨_, (pss_cons (ps_set (i := 3) sc_Summary_range_rows.nd rfl (Or.inl rfl) (pe_ifExp (pt_cmpR op_isN1 (pv 2) pe_non (nomark _)) (pe_op op_sub (pe_fld (pv 0) rfl) (pe_fld (pv 0) rfl)) (pe_me c_Summary_below_rows hr (by decide) passL (pv 0) (pa_cons (pv 2) pa_nil))))
    (pss_cons (ps_set (i := 4) sc_Summary_range_rows.nd rfl (Or.inl rfl) (pe_ifExp (pt_cmpR op_isN1 (pv 1) pe_non (nomark _)) pe_int (pe_me c_Summary_below_rows hr (by decide) passL (pv 0) (pa_cons (pv 1) pa_nil))))
    (pss_one (ps_ret (pe_callB (call_max2 rfl) rfl W.n_max (by decide +kernel) (pa_cons pe_int (pa_cons (pe_op op_sub (pv 3) (pv 4)) pa_nil))))))), ?_⟩
  refine w_seq (w_asg (Dq.w_ifV (fun y H' => y = .int (upp s v) ∧ Same H H') (fun R hR => ?_) ?_))
  · have so2 := so
    obtain ⟨dx, b, ks, hx, hb, hk, hp⟩ := so2
    walk_at "g"
    refine w_isNV ?_
    walk_at "g"
    unfold upp at hR
    refine w_iteD (fun c => ?_) (fun c => ?_)
    · rw [if_pos c] at hR
      walk_at "g"
      exact hR _ _ ⟨rfl, fun _ _ h => h⟩
    · rw [if_neg c] at hR
      walk_at "g"
      refine sum_at so (fun _ _ _ _ => no_below) ?_
      walk_at "g"
      exact ⟨x, s, v, rfl, so, hl, fun H' e => hR _ _ ⟨rfl, e⟩⟩
  rintro y H1 ⟨rfl, e1⟩
  have so1 := so.sm e1
  with_reducible refine w_gname ?_
  with_reducible refine w_seq ?_
  with_reducible refine w_asg ?_
  refine Dq.w_ifV (fun y H' => y = .int (M28.low s u) ∧ Same H1 H') (fun R hR => ?_) ?_
  · walk_at "g"
    refine w_isNV ?_
    walk_at "g"
    unfold M28.low at hR
    refine w_iteD (fun c => ?_) (fun c => ?_)
    · rw [if_pos c] at hR
      walk_at "g"
      exact hR _ _ ⟨rfl, fun _ _ h => h⟩
    · rw [if_neg c] at hR
      walk_at "g"
      refine sum_at so1 (fun _ _ _ _ => no_below) ?_
      walk_at "g"
      exact ⟨x, s, u, rfl, so1, hl, fun H' e => hR _ _ ⟨rfl, e⟩⟩
  rintro y H2 ⟨rfl, e2⟩
  walk_at "g"
  unfold rng mx at q
  exact ⟨_, _, rfl, q _ (e1.trans e2)⟩
end
end K28
end

section
-- part K28C
set_option Elab.async false
set_option linter.all false
set_option maxRecDepth 100000
set_option maxHeartbeats 800000
open PySem PySem.Spec PyProof.Rows L2 Fw
local macro_rules | `(tactic| walk_at "e1") => `(tactic| first
  | ((with_reducible refine' w_var ?hv ?_); (case hv => rfl))
  | with_reducible refine w_c ?_
  | with_reducible refine w_op ?_
  | with_reducible refine w_un ?_
  | with_reducible refine w_cons ?_
  | with_reducible refine w_nil ?_
  | with_reducible refine w_cl ?_
  | with_reducible refine w_cb ?_
  | with_reducible refine w_gname ?_
  | with_reducible refine w_gsub ?_
  | with_reducible refine w_test ?_
  | with_reducible refine w_B ?_
  | with_reducible refine w_bl ?_
  | with_reducible refine w_and ?_
  | with_reducible refine w_or ?_
  | with_reducible refine w_not ?_
  | with_reducible refine w_if ?_
  | with_reducible refine w_I0 ?_
  | with_reducible refine Gk.w_rU ?_
  | with_reducible refine Dq.w_orV ?_
  | with_reducible refine Dq.w_js ?_
  | with_reducible refine Dq.w_js0 ?_
  | with_reducible refine Dq.w_fm ?_
  | with_reducible refine Dq.w_andV ?_
  | with_reducible refine Gk.w_iEnum ?_
  | with_reducible refine Dq.w_dget ?_
  | with_reducible refine Dq.w_dpop1 ?_
  | with_reducible refine Dq.w_ddel ?_
  | with_reducible refine Dq.w_din ?_
  | with_reducible refine Dq.w_dnotin ?_
  | with_reducible refine Dq.w_dget2 ?_
  | with_reducible refine Dq.w_dnew ?_
  | with_reducible refine Dq.w_fldaug ?_
  | with_reducible refine Dq.w_aSub ?_
  | with_reducible refine Dq.w_aAdd ?_
  | with_reducible refine Dq.w_mkd ?_
  | with_reducible refine Dq.w_notN0 ?_
  | with_reducible refine Dq.w_isN0 ?_
  | with_reducible refine Ftw.w_isTI ?_
  | with_reducible refine Ftw.w_isTS ?_
  | with_reducible refine Ftw.w_isTR ?_
  | with_reducible refine Ftw.w_isTN ?_
  | with_reducible refine Ftw.w_isTtt ?_
  | with_reducible refine Ftw.w_isTft ?_
  | with_reducible refine Ftw.w_isTtf ?_
  | with_reducible refine Ftw.w_isNS ?_
  | with_reducible refine Ftw.w_isNB ?_
  | ((with_reducible refine' Ftw.w_isiRS ?hq ?_); (case hq => assumption))
  | ((with_reducible refine' Ftw.w_isiRT ?hq ?_); (case hq => assumption))
  | ((with_reducible refine' Ftw.w_isiRI ?hq ?_); (case hq => assumption))
  | with_reducible refine Ftw.w_isiIT ?_
  | with_reducible refine Ftw.w_isiII ?_
  | with_reducible refine Dq.w_notNR ?_
  | with_reducible refine Dq.w_isNR ?_
  | with_reducible refine Dq.w_notNI ?_
  | with_reducible refine Dq.w_isNI ?_
  | with_reducible refine L2.w_neOs ?_
  | with_reducible refine w_ipI ?_
  | with_reducible refine w_eqS ?_
  | with_reducible refine w_neS ?_
  | with_reducible refine w_eqI ?_
  | with_reducible refine w_neI ?_
  | with_reducible refine w_eqB ?_
  | with_reducible refine w_neB ?_
  | ((with_reducible refine w_eq ?hs ?_); (case hs => rfl))
  | ((with_reducible refine w_ne ?hs ?_); (case hs => rfl))
  | with_reducible refine w_fld ?_
  | with_reducible refine w_bm ?_
  | with_reducible refine w_bm0 ?_
  | with_reducible refine w_sl ?_
  | with_reducible refine w_part ?_
  | with_reducible refine w_partI ?_
  | with_reducible refine w_nopart ?_
  | ((with_reducible refine' w_ixL ?hh ?ha ?_); (case hh => first | assumption | exact upd_same); (case ha => rfl))
  | ((with_reducible refine' w_setLu ?ha ?_); (case ha => rfl))
  | ((with_reducible refine' w_setL ?hh ?ha ?_); (case hh => first | assumption | exact upd_same); (case ha => rfl))
  | with_reducible refine w_iteT ?_
  | with_reducible refine w_iteF ?_
  | with_reducible refine w_lst ?_
  | with_reducible refine w_tup ?_
  | ((with_reducible refine w_new ?hz ?_); (case hz => rfl))
  | with_reducible refine w_lc ?_
  | with_reducible refine w_iL ?_
  | with_reducible refine w_iT ?_
  | with_reducible refine w_iR1 ?_
  | with_reducible refine w_iR2 ?_
  | with_reducible refine w_yes ?_
  | with_reducible refine w_iStr ?_
  | with_reducible exact tyS
  | with_reducible refine And.intro tyS ?_
  | ((with_reducible refine w_find3 ?_); (first | rw [find3_one] | rw [starts3] | skip))
  | ((with_reducible refine w_2s ?_); (try rw [find_one]))
  | ((with_reducible refine w_inS ?_); rw [S_list])
  | ((with_reducible refine w_lenS ?hz ?_); (case hz => first | assumption | omega | decide); rw [SX.S_len])
  | ((with_reducible refine w_addS ?hz ?_); (case hz => first | assumption | omega | decide); rw [vS_cat])
  | with_reducible refine w_mk ?_
  | with_reducible refine w_me ?_
  | with_reducible refine w_sfld ?_
  | ((with_reducible refine' w_gtup ?hh ?hn ?_); (case hh => first | assumption | exact upd_same); (case hn => rfl))
  | with_reducible refine w_gcons ?_
  | with_reducible refine w_gnil ?_
  | with_reducible refine w_repl ?_
  | with_reducible refine w_star ?_
  | with_reducible refine w_revL ?_
  | with_reducible refine w_isiS ?_
  | with_reducible refine w_isiI ?_
  | with_reducible refine w_isiN ?_
  | with_reducible refine w_chain ?_
  | with_reducible refine w_iEnumT ?_
  | with_reducible refine w_iZip3 ?_
  | with_reducible refine w_iZip ?_
  | with_reducible refine w_lenR3 ?_
  | with_reducible refine w_x1i ?_
  | with_reducible refine w_x1b ?_
  | with_reducible refine w_x1s ?_
  | with_reducible refine w_int1i ?_
  | with_reducible refine w_int1b ?_
  | ((with_reducible refine w_mod ?hc ?_); (case hc => omega))
  | ((with_reducible refine w_fdivW ?hc ?hd ?_); (case hc => omega); (case hd => omega))
  | ((with_reducible refine w_mul ?hc ?_); (case hc => first | exact Or.inr ⟨by decide, by decide⟩ | exact Or.inl ⟨by decide, by decide⟩))
  | ((with_reducible refine w_pow ?hc ?_); (case hc => exact ⟨by decide, by decide, by decide⟩)))
local macro_rules | `(tactic| walk_at "f1") => `(tactic| first
  | ((with_reducible refine' K28.g_rows ?hW ?hK ?hs ?hx ?_); (case hW => assumption); (case hK => rfl); (case hs => rfl); (case hx => first | assumption | exact upd_same))
  | ((with_reducible refine' K28.g_nulls ?hW ?hK ?hs ?hx ?_); (case hW => assumption); (case hK => rfl); (case hs => rfl); (case hx => first | assumption | exact upd_same))
  | ((with_reducible refine' K28.g_different ?hW ?hK ?hs ?hx ?_); (case hW => assumption); (case hK => rfl); (case hs => rfl); (case hx => first | assumption | exact upd_same))
  | ((with_reducible refine' K28.g_bounds ?hW ?hK ?hs ?hx ?_); (case hW => assumption); (case hK => rfl); (case hs => rfl); (case hx => first | assumption | exact upd_same))
  | walk_at "e1")
local macro_rules | `(tactic| walk_at "s1") => `(tactic| first
  | with_reducible refine w_seq ?_
  | with_reducible refine w_asg ?_
  | with_reducible refine w_ret ?_
  | with_reducible refine w_par ?_
  | with_reducible refine w_drop ?_
  | with_reducible refine w_next ?_
  | with_reducible refine w_ifs ?_
  | ((with_reducible refine' w_aug ?hv ?_); (case hv => rfl))
  | with_reducible refine w_for ?_
  | walk_at "f1")
local macro_rules | `(tactic| walk_at "e") => `(tactic| repeat walk_at "e1")
local macro_rules | `(tactic| walk_at "g") => `(tactic| repeat walk_at "s1")

namespace K28
open Dc Gk M28 Fpr M5
def spAsked (cS : Addr) : Sp := fun vs H Q _ => ∃ (x : Addr) (s : SD) (g : List Nat) (v : RV), vs = [.ref x, .str (S g), vV v] ∧ SumO cS H x s ∧ s.bs.length ≤ 1000 ∧ 0 ≤ s.d ∧ s.d < 2 ^ 50 ∧ ∀ H', Same H H' → Q (.int (askd s g v)) H'
/-- at most one side is asked -/
def spShare (cS : Addr) : Sp := fun vs H Q _ => ∃ (l z x : Addr) (m : Int) (s : SD), vs = [.ref l, .ref z, .int m] ∧ H l = some (.lst [.ref x]) ∧ SumO cS H x s ∧ s.bs.length ≤ 1000 ∧ 0 ≤ s.d ∧ s.d < 2 ^ 50 ∧ 0 ≤ s.r ∧ s.r < 2 ^ 50 ∧ 0 ≤ m ∧ m < 2 ^ 50 ∧
  ((H z = some (.lst []) ∧ ∀ H', Same H H' → Q (.int m) H') ∨ ∃ (t : Addr) (g : List Nat) (v : RV), H z = some (.lst [.ref t]) ∧ H t = some (.tup [.int 0, .str (S g), vV v]) ∧ ∀ H', Same H H' → Q (.int (share1 s g v m)) H')
section
variable {P : Program} {w : World} {K : PySem.W.Frag} {mg : Str → Option Value} {base : Heap} {cS : Addr}
theorem ok_asked (W : Ws K mg cS) (c_Summary_equal_rows : Me P w K mg base 1 cS "equal_rows" (spEq cS)) (c_Summary_below_rows : Me P w K mg base 2 cS "below_rows" (spBelow cS)) (c_Summary_range_rows : Me P w K mg base 3 cS "range_rows" (spRange cS)) :
    Cl P w K mg base 4 "asked_rows" (spAsked cS) := by
  refine cl_mk W.d_asked_rows sc_asked_rows (fun _ _ _ _ _ _ us hl => match us, hl with | [_, _, _], _ => rfl) (fun vs H Q E h => ?_) (fun f cdv A outer s H vs Q E hr h => ?_)
  · obtain ⟨x, s, g, v, rfl, _⟩ := h; rfl
  obtain ⟨x, s, g, v, rfl, so, hl, d0, d1, q⟩ := h
  refine ⟨_, (pss_cons (ps_set (i := 3) sc_asked_rows.nd rfl (Or.inl rfl) (pe_me c_Summary_range_rows hr (by decide) passL (pv 0) (pa_cons pe_non (pa_cons pe_non pa_nil))))
    (pss_cons (ps_set (i := 4) sc_asked_rows.nd rfl (Or.inl rfl) (pe_me c_Summary_below_rows hr (by decide) passL (pv 0) (pa_cons (pv 2) pa_nil)))
    (pss_cons (ps_set (i := 5) sc_asked_rows.nd rfl (Or.inl rfl) (pe_me0 c_Summary_equal_rows hr (by decide) passL (pv 0)))
    (pss_cons (ps_if (pt_cmpR op_eq (pv 1) pe_str (nomark _))
    (pss_one (ps_ret (pv 5)))
    pss_nil)
    (pss_cons (ps_if (pt_cmpR op_eq (pv 1) pe_str (nomark _))
    (pss_one (ps_ret (pv 4)))
    pss_nil)
    (pss_cons (ps_if (pt_cmpR op_eq (pv 1) pe_str (nomark _))
    (pss_one (ps_ret (pe_callB (call_min2 rfl) rfl W.n_min (by decide +kernel) (pa_cons (pv 3) (pa_cons (pe_op op_add (pv 4) (pv 5)) pa_nil)))))
    pss_nil)
    (pss_cons (ps_if (pt_cmpR op_eq (pv 1) pe_str (nomark _))
    (pss_one (ps_ret (pe_callB (call_max2 rfl) rfl W.n_max (by decide +kernel) (pa_cons pe_int (pa_cons (pe_op op_sub (pe_op op_sub (pv 3) (pv 4)) (pv 5)) pa_nil)))))
    pss_nil)
    (pss_one (ps_ret (pe_op op_sub (pv 3) (pv 4))))))))))), ?_⟩
  walk_at "g"
  refine sum_at so (fun _ _ _ _ => no_range) ?_
  walk_at "g"
  refine ⟨x, s, .non, .non, rfl, so, hl, fun H1 e1 => ?_⟩
  have so1 := so.sm e1
  walk_at "g"
  refine sum_at so1 (fun _ _ _ _ => no_below) ?_
  walk_at "g"
  refine ⟨x, s, v, rfl, so1, hl, fun H2 e2 => ?_⟩
  have so2 := so1.sm e2
  walk_at "g"
  refine sum_at so2 (fun _ _ _ _ => no_equal) ?_
  refine ⟨x, s, rfl, so2, d0, d1, ?_⟩
  have q1 := q _ (e1.trans e2)
  unfold askd at q1
  walk_at "g"
  refine w_iteD (fun c => ?_) (fun c => ?_)
  · have c2 : g = [61] := c.trans (by decide +kernel)
    rw [if_pos c2] at q1
    walk_at "g"
    exact q1
  have c2 : ¬ g = [61] := fun z => c (z.trans (by decide +kernel))
  clear c
  rw [if_neg c2] at q1
  walk_at "g"
  refine w_iteD (fun c => ?_) (fun c => ?_)
  · have c2 : g = [60] := c.trans (by decide +kernel)
    rw [if_pos c2] at q1
    walk_at "g"
    exact q1
  have c2 : ¬ g = [60] := fun z => c (z.trans (by decide +kernel))
  clear c
  rw [if_neg c2] at q1
  walk_at "g"
  refine w_iteD (fun c => ?_) (fun c => ?_)
  · have c2 : g = [60, 61] := c.trans (by decide +kernel)
    rw [if_pos c2] at q1
    walk_at "g"
    exact ⟨_, _, rfl, q1⟩
  have c2 : ¬ g = [60, 61] := fun z => c (z.trans (by decide +kernel))
  clear c
  rw [if_neg c2] at q1
  walk_at "g"
  refine w_iteD (fun c => ?_) (fun c => ?_)
  · have c2 : g = [62] := c.trans (by decide +kernel)
    rw [if_pos c2] at q1
    walk_at "g"
    exact ⟨_, _, rfl, q1⟩
  have c2 : ¬ g = [62] := fun z => c (z.trans (by decide +kernel))
  clear c
  rw [if_neg c2] at q1
  walk_at "g"
  exact q1
theorem ok_share (W : Ws K mg cS) (c_asked_rows : Cl P w K mg base 4 "asked_rows" (spAsked cS)) : Cl P w K mg base 5 "expected_share" (spShare cS) := by
  refine cl_mk W.d_expected_share sc_expected_share (fun _ _ _ _ _ _ us hl => match us, hl with | [_, _, _], _ => rfl) (fun vs H Q E h => ?_) (fun f cdv A outer s H vs Q E hr h => ?_)
  · obtain ⟨l, z, x, m, s, rfl, _⟩ := h; rfl
  obtain ⟨l, z, x, m, s, rfl, hl, so, hb, d0, d1, r0, r1, m0, m1, q⟩ := h
  refine ⟨_, (pss_cons (ps_for (passes_of rfl) rfl (pi_list (pv 1)) (pg_tup rfl (pgs_cons (pg_name (i := 3) sc_expected_share.nd rfl (Or.inl rfl)) (pgs_cons (pg_name (i := 4) sc_expected_share.nd rfl (Or.inl rfl)) (pgs_cons (pg_name (i := 5) sc_expected_share.nd rfl (Or.inl rfl)) pgs_nil))))
    (pss_cons (ps_if (pt_cmpR op_isN1 (pv 5) pe_non (nomark _))
    (pss_one (ps_ret pe_int))
    pss_nil)
    (pss_cons (ps_set (i := 6) sc_expected_share.nd rfl (Or.inl rfl) (pe_ix ix_list (pv 0) (pv 3) (fun _ _ => rfl)))
    (pss_cons (ps_if (pt_cmpR op_eq (pe_fld (pv 6) rfl) pe_int (nomark _))
    (pss_one (ps_ret pe_int))
    pss_nil)
    (pss_one (ps_set (i := 2) sc_expected_share.nd rfl (Or.inl rfl) (pe_op op_fdivW (pe_op op_mul (pv 2) (pe_cl c_asked_rows hr (by decide) rfl passL (pa_cons (pv 6) (pa_cons (pv 4) (pa_cons (pv 5) pa_nil))))) (pe_fld (pv 6) rfl))))))))
    (pss_one (ps_ret (pv 2)))), ?_⟩
  have fin : ∀ H' : Hp, ∀ v : Int, Q (.int v) H' → tRet (tVar 2) { nx := fun x H' => Q V.non H', rt := Q } [some (.ref l), some (.ref z), some (.int v), none, none, none, none] H' := fun H' v h => by
    walk_at "g"
    exact h
  rcases q with ⟨hz, q⟩ | ⟨t, g, v, hz, ht, q⟩
  · walk_at "g"
    refine w_forL (SqL.of hz) (fun i σ H' => H' = H ∧ σ = [some (.ref l), some (.ref z), some (.int m), none, none, none, none]) ⟨rfl, rfl⟩ (fun i σ H' _ h => by rw [h.1]; exact SqL.of hz) ?_ ?_
    · intro i y σ H' hi
      cases hi
    · rintro σ H' ⟨rfl, rfl⟩
      walk_at "g"
      exact q _ fun _ _ h => h
  · walk_at "g"
    refine w_forL (SqL.of hz) (fun i σ H' => (i = 0 ∧ H' = H ∧ σ = [some (.ref l), some (.ref z), some (.int m), none, none, none, none]) ∨ (i = 1 ∧ Same H H' ∧ ∃ o, σ = [some (.ref l), some (.ref z), some (.int (share1 s g v m)), some (.int 0), some (.str (S g)), some (vV v), o])) (.inl ⟨rfl, rfl, rfl⟩)
      (fun i σ H' _ h => ?_) ?_ ?_
    · rcases h with ⟨_, rfl, _⟩ | ⟨_, e, _⟩
      · exact SqL.of hz
      · exact SqL.of (e _ _ hz)
    · rintro i y σ H' hi (⟨rfl, rfl, rfl⟩ | ⟨rfl, e, _⟩)
      · cases hi
        unfold share1 at q
        walk_at "g"
        refine w_isNV ?_
        walk_at "g"
        refine w_iteD (fun c => ?_) (fun c => ?_)
        · rw [if_pos c] at q
          walk_at "g"
          exact q _ fun _ _ h => h
        rw [if_neg c] at q
        have so0 := so
        obtain ⟨dx, b, ks, hx, _⟩ := so0
        walk_at "g"
        refine w_iteD (fun c2 => ?_) (fun c2 => ?_)
        · rw [if_pos c2] at q
          walk_at "g"
          exact q _ fun _ _ h => h
        walk_at "g"
        refine ⟨x, s, g, v, rfl, so, hb, d0, d1, fun H2 e2 => ?_⟩
        have hx2 := e2 _ _ hx
        refine w_mul (Or.inl ⟨by omega, by omega⟩) ?_
        walk_at "g"
        exact .inr ⟨rfl, e2, _, by rw [share1, if_neg c, if_neg c2]; rfl⟩
      · cases hi
    · rintro σ H' (⟨h0, _⟩ | ⟨_, e, o, rfl⟩)
      · cases h0
      · walk_at "g"
        exact q _ e
/-- values of one kind -/
def Hom (b : Bool) (vs : List RV) : Prop := ∀ v ∈ vs, (v = .non ∨ isT v = b) ∧ okv v
def spSum (cS : Addr) : Sp := fun vs H Q _ => ∃ (l : Addr) (us : List RV) (b : Bool), vs = [.ref l] ∧ H l = some (.lst (us.map vV)) ∧ us.length ≤ 60 ∧ Hom b us ∧ ∀ x H', Same H H' → SumO cS H' x (sumOf us) → Q (.ref x) H'
theorem mn_eq (n : Nat) : (if (n : Int) < 8 then (n : Int) else 8) = ((min 8 n : Nat) : Int) := by split <;> omega
theorem known_of {us : List RV} {ks ls : List (Addr × RV)} (hk : ks.map (·.2) = us.filter (fun v => !decide (v = .non))) (pm : (ls.map (·.2)).Perm (ks.map (·.2))) (st : ls.Pairwise (fun q r => vlt r.2 q.2 = false)) : ls.map (·.2) = known us :=
  srt_one (pm.trans (by rw [hk]; exact (srt_perm _).symm)) (List.pairwise_map.mpr st) (srt_srt _)
theorem hom_in {us : List RV} {ks : List (Addr × RV)} {b : Bool} (hom : Hom b us) (hk : ks.map (·.2) = us.filter (fun v => !decide (v = .non))) {p : Addr × RV} (hp : p ∈ ks) : isT p.2 = b := by
  have h1 : p.2 ∈ us.filter (fun v => !decide (v = .non)) := by rw [← hk]; exact List.mem_map.mpr ⟨p, hp, rfl⟩
  obtain ⟨h2, h3⟩ := List.mem_filter.mp h1
  rcases (hom _ h2).1 with e | e
  · rw [e] at h3; simp at h3
  · exact e
section
variable {σ : L2.St} {H : Hp} {g : TG} {tt : TT} {te : TE} {vs : List Nat}
theorem w_lcR2 {lo hi : Int} {m : Nat} {R : Addr → Hp → Prop} (e : hi = lo + m) (b1 : -1000 ≤ lo) (b2 : lo ≤ 1000) (b3 : m ≤ 1000) (h : ∀ D, H D = none → ∃ Pv : Nat → Hp → Prop, Pv 0 (upd H D (.lst [])) ∧
      (∀ (i : Nat) H2, i < m → Pv i H2 → g (.int (lo + (i : Int))) (wipe σ vs) H2 fun σ2 H2 => wipe σ2 vs = wipe σ vs ∧ tt σ2 H2 fun b H3 =>
        if b = true then te σ2 H3 fun y H4 => ∃ acc, H4 D = some (.lst acc) ∧ acc.length < sizeLine ∧ Pv (i + 1) (upd H4 D (.lst (acc ++ [y]))) else Pv (i + 1) H3) ∧ (∀ H2, Pv m H2 → R D H2)) :
    ∃ i j : Int, [V.int lo, V.int hi] = [.int i, .int j] ∧ (-(2 ^ 62) ≤ i ∧ i < 2 ^ 62 ∧ -(2 ^ 62) ≤ j ∧ j < 2 ^ 62) ∧ ∀ D, H D = none → ∃ W : Nat → Nat → Hp → Prop, (∃ m, W 0 m (upd H D (.lst []))) ∧ ∀ k m H, W k m H →
      ((Itr i (j - i).toNat).stop k H ∧ R D H) ∨ ((Itr i (j - i).toNat).go k H ∧ ∃ Nx : Hp → Prop, (∀ H', Nx H' → ∃ m', m' < m ∧ W (k + 1) m' H') ∧ ∀ x H', (Itr i (j - i).toNat).yld k H x H' → g x (wipe σ vs) H' fun σ2 H2 => wipe σ2 vs = wipe σ vs ∧ tt σ2 H2 fun b H3 =>
        if b = true then te σ2 H3 fun y H4 => ∃ acc, H4 D = some (.lst acc) ∧ acc.length < sizeLine ∧ Nx (upd H4 D (.lst (acc ++ [y]))) else Nx H3) := by
  refine ⟨lo, hi, rfl, ⟨by omega, by omega, by omega, by omega⟩, fun D hD => ?_⟩
  have em : (hi - lo).toNat = m := by omega
  rw [em]
  obtain ⟨Pv, h0, hs, hd⟩ := h D hD
  exact lc_range (Qd := fun H => R D H) Pv h0 hs hd
end
theorem w_lenSet {K : PySem.W.Frag} {ta : TE} {σ : L2.St} {H : Hp} {Q : VK} (h : ta σ H fun x H1 => ∃ (l : Addr) (ks : List (Addr × RV)), x = V.ref l ∧ SqL K H1 l (ks.map fun p => V.ref p.1) ∧ (∀ p ∈ ks, At2 K H1 p) ∧ ks.length < 64 ∧
    ∀ M : List RV, M.Nodup → (∀ v, v ∈ M ↔ v ∈ ks.map (·.2)) → Q (.int (M.length : Nat)) H1) : Fst.tLenSetPr K ta σ H Q := h
theorem getD_snd (ls : List (Addr × RV)) (j : Nat) : (ls.getD j (0, .non)).2 = (ls.map (·.2)).getD j .non := by
  rw [List.getD_eq_getElem?_getD, List.getD_eq_getElem?_getD, List.getElem?_map]
  cases ls[j]? <;> rfl
def bndP (ls : List (Addr × RV)) (i : Nat) : List (Addr × RV) := (List.range i).map fun k => ls.getD (bix ls.length k) (0, .non)
theorem bndP_snd (ls : List (Addr × RV)) : (bndP ls (min 8 ls.length)).map (·.2) = bnds (ls.map (·.2)) := by
  unfold bndP bnds
  rw [List.map_map, List.length_map]
  exact List.map_congr_left fun k hk => getD_snd ls _
theorem bndP_succ (ls : List (Addr × RV)) (i : Nat) : bndP ls (i + 1) = bndP ls i ++ [ls.getD (bix ls.length i) (0, .non)] := by
  unfold bndP
  rw [List.range_succ, List.map_append]
  rfl
theorem bndP_in {ls : List (Addr × RV)} {p : Addr × RV} {i : Nat} (hi : i ≤ min 8 ls.length) (h : p ∈ bndP ls i) : p ∈ ls := by
  obtain ⟨k, hk, rfl⟩ := List.mem_map.mp h
  have hk2 := List.mem_range.mp hk
  have := (bix_ok (n := ls.length) (k := k) (by omega)).2
  rw [List.getD_eq_getElem?_getD, List.getElem?_eq_getElem this]
  exact List.getElem_mem this
theorem ok_sum (W : Ws K mg cS) (c_rank : Cl P w K mg base 1 "rank" spRank) (c_Summary : Mc P w K mg base 1 "Summary" cS (spIni cS)) : Cl P w K mg base 3 "summarize" (spSum cS) := by
  refine cl_mk W.d_summarize sc_summarize (fun _ _ _ _ _ _ us hl => match us, hl with | [_], _ => rfl) (fun vs H Q E h => ?_) (fun f cdv A outer s H vs Q E hr h => ?_)
  · obtain ⟨l, us, b, rfl, _⟩ := h; rfl
  obtain ⟨l, us, b, rfl, hl, h60, hom, q⟩ := h
  refine ⟨_, (pss_cons (ps_set (i := 1) sc_summarize.nd rfl (by first | exact Or.inl rfl | exact Or.inr rfl) (pe_callB Fpr.cr_sortPr rfl W.n_sorted (by decide +kernel) (pa_cons (pe_lc (own := [("value", 2)]) rfl sc_summarize.nd (pi_list (pv 0)) (blkOk_by (own := [("value", 2)]) (N := ["values", "places", "value", "parts", "bounds", "number"]) (sc := defScope s_summarize) (by decide +kernel)) (fun _ _ _ _ _ => (pg_name (i := 2) sc_summarize.nd rfl (by first | exact Or.inl rfl | exact Or.inr rfl))) (fun _ _ _ _ _ => (pts_one (pt_cmpR op_notN1 (pv 2) pe_non (nomark _)))) (fun _ _ _ _ _ => (pe_cl c_rank hr (by decide) rfl passL (pa_cons (pv 2) pa_nil)))) pa_nil)))
    (pss_cons (ps_set (i := 3) sc_summarize.nd rfl (by first | exact Or.inl rfl | exact Or.inr rfl) (pe_callB (call_min2 rfl) rfl W.n_min (by decide +kernel) (pa_cons (C8.pe_gc rfl W.c_MOST_PARTS) (pa_cons (pe_callB call_len_seq rfl W.n_len PySem.boot_len (pa_cons (pv 1) pa_nil)) pa_nil))))
    (pss_cons (ps_setLc (i := 4) (own := [("number", 5)]) rfl sc_summarize.nd rfl rfl (sw_true rfl rfl rfl (by decide +kernel)) (pi_range2 rfl W.n_range (pa_cons pe_int (pa_cons (pe_op op_add (pv 3) pe_int) pa_nil))) (blkOk_by (own := [("number", 5)]) (N := ["values", "places", "value", "parts", "bounds", "number"]) (sc := defScope s_summarize) (by decide +kernel)) (fun _ _ _ _ _ => (pg_name (i := 5) sc_summarize.nd rfl (by first | exact Or.inl rfl | exact Or.inr rfl))) (fun _ _ _ _ _ => pts_nil) (fun _ _ _ _ _ => (pe_ix (ix_listK K rfl) (pv 1) (pe_op op_sub (pe_op op_fdivW (pe_op op_mul (pv 5) (pe_callB (len_seqK K rfl) rfl W.n_len PySem.boot_len (pa_cons (pv 1) pa_nil))) (pv 3)) pe_int) (fun _ _ => rfl))))
    (pss_one (ps_ret (pe_mc c_Summary hr (by decide) rfl passL (pa_cons (pe_callB call_len_seq rfl W.n_len PySem.boot_len (pa_cons (pv 0) pa_nil)) (pa_cons (pe_op op_sub (pe_callB call_len_seq rfl W.n_len PySem.boot_len (pa_cons (pv 0) pa_nil)) (pe_callB call_len_seq rfl W.n_len PySem.boot_len (pa_cons (pv 1) pa_nil))) (pa_cons (Fst.pe_lenSetPr rfl (hu64 hr) rfl W.n_len rfl W.n_set (pv 1)) (pa_cons (pv 4) pa_nil)))))))))), ?_⟩
  walk_at "g"
  refine w_lcLn (SqL.of hl) fun D hD => ⟨fun i H2 => ∃ ks : List (Addr × RV), Same H H2 ∧ H2 D = some (.lst (ks.map fun p => V.ref p.1)) ∧ ks.map (·.2) = (us.take i).filter (fun v => !decide (v = .non)) ∧ Prs H2 ks ∧ ks.length ≤ i,
    ⟨[], same_new hD _, upd_same, rfl, fun p hp => (by cases hp), Nat.le_refl _⟩, fun i H2 _ ⟨ks, e, _⟩ => SqL.of (e _ _ hl), ?_, ?_⟩
  · rintro i z H2 hi ⟨ks, e2, eD, hk, hp, hn⟩
    obtain ⟨v, hv, rfl⟩ := map_get hi
    have hvu := List.mem_of_getElem? hv
    have hi2 : i < us.length := (List.getElem?_eq_some_iff.mp hv).1
    walk_at "g"
    refine ⟨rfl, ?_⟩
    walk_at "g"
    refine w_notNV ?_
    walk_at "g"
    refine w_iteN (fun c => ?_) (fun c => ?_)
    · walk_at "g"
      refine ⟨v, rfl, fun T hT => ?_⟩
      have s3 := same_new hT (.tup (rkV v))
      have eT : (upd H2 T (.tup (rkV v))) T = some (.tup (rkV v)) := upd_same
      generalize upd H2 T (.tup (rkV v)) = H3 at s3 eT
      have e3 := s3 _ _ eD
      refine ⟨_, e3, by rw [List.length_map]; exact Nat.lt_of_lt_of_le (by omega : ks.length < 70000) (by decide), ks ++ [(T, v)], same_upd (e2.trans s3) hD, by rw [upd_same, List.map_append]; rfl, ?_, fun p hp2 => ?_, by rw [List.length_append]; exact Nat.succ_le_succ hn⟩
      · rw [List.map_append, hk, List.take_add_one, hv, List.filter_append]
        simp [c]
      · rcases List.mem_append.mp hp2 with hp2 | hp2
        · exact ⟨tup_wr (s3 _ _ (hp p hp2).1) e3, (hp p hp2).2⟩
        · rw [List.mem_singleton.mp hp2]
          exact ⟨tup_wr eT e3, (hom v hvu).2⟩
    · refine ⟨ks, e2, eD, ?_, hp, Nat.le_succ_of_le hn⟩
      rw [hk, List.take_add_one, hv, List.filter_append]
      simp [c]
  · rintro H2 ⟨ks, e2, eD, hk, hp, hn⟩
    rw [List.length_map, List.take_length] at hk
    rw [List.length_map] at hn
    walk_at "g"
    refine ⟨D, ks, b, rfl, SqL.of eD, fun p hp2 => ⟨SqT.of (hp p hp2).1, hom_in hom hk hp2⟩, fun ls L pm hin st hL => ?_⟩
    have hk3 := known_of hk pm st
    have s3 := same_new hL (.lst (ls.map fun p => V.ref p.1))
    have eL : (upd H2 L (.lst (ls.map fun p => V.ref p.1))) L = some (.lst (ls.map fun p => V.ref p.1)) := upd_same
    generalize upd H2 L (.lst (ls.map fun p => V.ref p.1)) = H3 at s3 eL
    have hp3 : Prs H3 ls := fun p hp2 => hp.sm s3 p (hin p hp2)
    have hn3 : ls.length = (known us).length := by rw [← hk3, List.length_map]
    have h60k : (known us).length ≤ 60 := Nat.le_trans (known_len us) h60
    have es := e2.trans s3
    clear hp hin st pm hk eD e2 s3 hD hn hL
    walk_at "g"
    refine ⟨L, _, rfl, .inl (SqL.of eL), ?_⟩
    rw [List.length_map, hn3]
    refine ⟨_, _, rfl, ?_⟩
    rw [mn_eq]
    walk_at "g"
    refine w_lcR2 (m := min 8 ls.length) (by rw [hn3]; omega) (by decide) (by decide) (by omega) fun D hD => ⟨fun i H4 => Same H3 H4 ∧ H4 D = some (.lst ((bndP ls i).map fun p => V.ref p.1)), ⟨same_new hD _, upd_same⟩, ?_, ?_⟩
    · rintro i H4 hi ⟨e4, eD⟩
      have hb := bix_ok hi
      walk_at "g"
      refine ⟨rfl, ?_⟩
      walk_at "g"
      refine ⟨L, _, rfl, .inl (SqL.of (e4 _ _ eL)), ?_⟩
      rw [List.length_map]
      refine w_mul (Or.inl ⟨by omega, by omega⟩) ?_
      walk_at "g"
      rw [← hn3, show (1 + (i : Int)) = i + 1 by omega, hb.1]
      refine w_ixL (e4 _ _ eL) (v := .ref (ls.getD (bix ls.length i) (0, .non)).1) (atI_nat ?_) ?_
      · rw [List.getElem?_map, List.getD_eq_getElem?_getD, List.getElem?_eq_getElem hb.2]
        rfl
      have lb : (bndP ls i).length = i := by simp [bndP]
      exact ⟨_, eD, by rw [List.length_map, lb]; exact Nat.lt_of_lt_of_le (by omega : i < 100) (by decide), same_upd e4 hD, by rw [upd_same, bndP_succ, List.map_append]; rfl⟩
    · rintro H4 ⟨e4, eD⟩
      have hl4 := e4 _ _ (es _ _ hl)
      have eL4 := e4 _ _ eL
      have hp4 := hp3.sm e4
      have es4 := es.trans e4
      have snd := bndP_snd ls
      rw [hk3] at snd
      have pin : Prs H4 (bndP ls (min 8 ls.length)) := fun p hp => hp4 p (bndP_in (Nat.le_refl _) hp)
      generalize bndP ls (min 8 ls.length) = bs at eD snd pin
      walk_at "g"
      refine ⟨l, _, rfl, .inl (SqL.of hl4), ?_⟩
      rw [List.length_map]
      walk_at "g"
      refine ⟨l, _, rfl, .inl (SqL.of hl4), ?_⟩
      rw [List.length_map]
      walk_at "g"
      refine ⟨L, _, rfl, .inl (SqL.of eL4), ?_⟩
      rw [List.length_map, hn3]
      walk_at "g"
      refine w_lenSet ?_
      walk_at "g"
      refine ⟨L, ls, rfl, SqL.of eL4, fun p hp => SqT.of (hp4 p hp).1, by omega, fun M nd mem => ?_⟩
      rw [hk3] at mem
      rw [nuq_of nd mem]
      walk_at "g"
      intro x dx hx hdx ne
      refine ⟨x, dx, _, _, _, _, _, rfl, upd_same, .inl (by rw [upd_ne (ne_of_none eD hx), upd_ne (ne_of_none eD hdx)]; exact eD), fun b H5 keep hx5 hb5 => ⟨rfl, ?_⟩⟩
      have e5 : Same H4 H5 := fun a o h => keep a o (ne_of_none h hx) (by rw [upd_ne (ne_of_none h hx), upd_ne (ne_of_none h hdx)]; exact h)
      exact q x H5 (es4.trans e5) ⟨dx, b, bs, hx5, hb5, snd, pin.sm e5⟩
end
end K28
end

section
-- part K28D
set_option Elab.async false
set_option linter.all false
set_option maxRecDepth 100000
set_option maxHeartbeats 800000
open PySem PySem.Spec PyProof.Rows L2 Fw
local macro_rules | `(tactic| walk_at "e1") => `(tactic| first
  | ((with_reducible refine' w_var ?hv ?_); (case hv => rfl))
  | with_reducible refine w_c ?_
  | with_reducible refine w_op ?_
  | with_reducible refine w_un ?_
  | with_reducible refine w_cons ?_
  | with_reducible refine w_nil ?_
  | with_reducible refine w_cl ?_
  | with_reducible refine w_cb ?_
  | with_reducible refine w_gname ?_
  | with_reducible refine w_gsub ?_
  | with_reducible refine w_test ?_
  | with_reducible refine w_B ?_
  | with_reducible refine w_bl ?_
  | with_reducible refine w_and ?_
  | with_reducible refine w_or ?_
  | with_reducible refine w_not ?_
  | with_reducible refine w_if ?_
  | with_reducible refine w_I0 ?_
  | with_reducible refine Gk.w_rU ?_
  | with_reducible refine Dq.w_orV ?_
  | with_reducible refine Dq.w_js ?_
  | with_reducible refine Dq.w_js0 ?_
  | with_reducible refine Dq.w_fm ?_
  | with_reducible refine Dq.w_andV ?_
  | with_reducible refine Gk.w_iEnum ?_
  | with_reducible refine Dq.w_dget ?_
  | with_reducible refine Dq.w_dpop1 ?_
  | with_reducible refine Dq.w_ddel ?_
  | with_reducible refine Dq.w_din ?_
  | with_reducible refine Dq.w_dnotin ?_
  | with_reducible refine Dq.w_dget2 ?_
  | with_reducible refine Dq.w_dnew ?_
  | with_reducible refine Dq.w_fldaug ?_
  | with_reducible refine Dq.w_aSub ?_
  | with_reducible refine Dq.w_aAdd ?_
  | with_reducible refine Dq.w_mkd ?_
  | with_reducible refine Dq.w_notN0 ?_
  | with_reducible refine Dq.w_isN0 ?_
  | with_reducible refine Ftw.w_isTI ?_
  | with_reducible refine Ftw.w_isTS ?_
  | with_reducible refine Ftw.w_isTR ?_
  | with_reducible refine Ftw.w_isTN ?_
  | with_reducible refine Ftw.w_isTtt ?_
  | with_reducible refine Ftw.w_isTft ?_
  | with_reducible refine Ftw.w_isTtf ?_
  | with_reducible refine Ftw.w_isNS ?_
  | with_reducible refine Ftw.w_isNB ?_
  | ((with_reducible refine' Ftw.w_isiRS ?hq ?_); (case hq => assumption))
  | ((with_reducible refine' Ftw.w_isiRT ?hq ?_); (case hq => assumption))
  | ((with_reducible refine' Ftw.w_isiRI ?hq ?_); (case hq => assumption))
  | with_reducible refine Ftw.w_isiIT ?_
  | with_reducible refine Ftw.w_isiII ?_
  | with_reducible refine Dq.w_notNR ?_
  | with_reducible refine Dq.w_isNR ?_
  | with_reducible refine Dq.w_notNI ?_
  | with_reducible refine Dq.w_isNI ?_
  | with_reducible refine L2.w_neOs ?_
  | with_reducible refine w_ipI ?_
  | with_reducible refine w_eqS ?_
  | with_reducible refine w_neS ?_
  | with_reducible refine w_eqI ?_
  | with_reducible refine w_neI ?_
  | with_reducible refine w_eqB ?_
  | with_reducible refine w_neB ?_
  | ((with_reducible refine w_eq ?hs ?_); (case hs => rfl))
  | ((with_reducible refine w_ne ?hs ?_); (case hs => rfl))
  | with_reducible refine w_fld ?_
  | with_reducible refine w_bm ?_
  | with_reducible refine w_bm0 ?_
  | with_reducible refine w_sl ?_
  | with_reducible refine w_part ?_
  | with_reducible refine w_partI ?_
  | with_reducible refine w_nopart ?_
  | ((with_reducible refine' w_ixL ?hh ?ha ?_); (case hh => first | assumption | exact upd_same); (case ha => rfl))
  | ((with_reducible refine' w_setLu ?ha ?_); (case ha => rfl))
  | ((with_reducible refine' w_setL ?hh ?ha ?_); (case hh => first | assumption | exact upd_same); (case ha => rfl))
  | with_reducible refine w_iteT ?_
  | with_reducible refine w_iteF ?_
  | with_reducible refine w_lst ?_
  | with_reducible refine w_tup ?_
  | ((with_reducible refine w_new ?hz ?_); (case hz => rfl))
  | with_reducible refine w_lc ?_
  | with_reducible refine w_iL ?_
  | with_reducible refine w_iT ?_
  | with_reducible refine w_iR1 ?_
  | with_reducible refine w_iR2 ?_
  | with_reducible refine w_yes ?_
  | with_reducible refine w_iStr ?_
  | with_reducible exact tyS
  | with_reducible refine And.intro tyS ?_
  | ((with_reducible refine w_find3 ?_); (first | rw [find3_one] | rw [starts3] | skip))
  | ((with_reducible refine w_2s ?_); (try rw [find_one]))
  | ((with_reducible refine w_inS ?_); rw [S_list])
  | ((with_reducible refine w_lenS ?hz ?_); (case hz => first | assumption | omega | decide); rw [SX.S_len])
  | ((with_reducible refine w_addS ?hz ?_); (case hz => first | assumption | omega | decide); rw [vS_cat])
  | with_reducible refine w_mk ?_
  | with_reducible refine w_me ?_
  | with_reducible refine w_sfld ?_
  | ((with_reducible refine' w_gtup ?hh ?hn ?_); (case hh => first | assumption | exact upd_same); (case hn => rfl))
  | with_reducible refine w_gcons ?_
  | with_reducible refine w_gnil ?_
  | with_reducible refine w_repl ?_
  | with_reducible refine w_star ?_
  | with_reducible refine w_revL ?_
  | with_reducible refine w_isiS ?_
  | with_reducible refine w_isiI ?_
  | with_reducible refine w_isiN ?_
  | with_reducible refine w_chain ?_
  | with_reducible refine w_iEnumT ?_
  | with_reducible refine w_iZip3 ?_
  | with_reducible refine w_iZip ?_
  | with_reducible refine w_lenR3 ?_
  | with_reducible refine w_x1i ?_
  | with_reducible refine w_x1b ?_
  | with_reducible refine w_x1s ?_
  | with_reducible refine w_int1i ?_
  | with_reducible refine w_int1b ?_
  | ((with_reducible refine w_mod ?hc ?_); (case hc => omega))
  | ((with_reducible refine w_fdivW ?hc ?hd ?_); (case hc => omega); (case hd => omega))
  | ((with_reducible refine w_mul ?hc ?_); (case hc => first | exact Or.inr ⟨by decide, by decide⟩ | exact Or.inl ⟨by decide, by decide⟩))
  | ((with_reducible refine w_pow ?hc ?_); (case hc => exact ⟨by decide, by decide, by decide⟩)))
local macro_rules | `(tactic| walk_at "f1") => `(tactic| first
  | ((with_reducible refine' K28.g_rows ?hW ?hK ?hs ?hx ?_); (case hW => assumption); (case hK => rfl); (case hs => rfl); (case hx => first | assumption | exact upd_same))
  | ((with_reducible refine' K28.g_nulls ?hW ?hK ?hs ?hx ?_); (case hW => assumption); (case hK => rfl); (case hs => rfl); (case hx => first | assumption | exact upd_same))
  | ((with_reducible refine' K28.g_different ?hW ?hK ?hs ?hx ?_); (case hW => assumption); (case hK => rfl); (case hs => rfl); (case hx => first | assumption | exact upd_same))
  | ((with_reducible refine' K28.g_bounds ?hW ?hK ?hs ?hx ?_); (case hW => assumption); (case hK => rfl); (case hs => rfl); (case hx => first | assumption | exact upd_same))
  | walk_at "e1")
local macro_rules | `(tactic| walk_at "s1") => `(tactic| first
  | with_reducible refine w_seq ?_
  | with_reducible refine w_asg ?_
  | with_reducible refine w_ret ?_
  | with_reducible refine w_par ?_
  | with_reducible refine w_drop ?_
  | with_reducible refine w_next ?_
  | with_reducible refine w_ifs ?_
  | ((with_reducible refine' w_aug ?hv ?_); (case hv => rfl))
  | with_reducible refine w_for ?_
  | walk_at "f1")
local macro_rules | `(tactic| walk_at "e") => `(tactic| repeat walk_at "e1")
local macro_rules | `(tactic| walk_at "g") => `(tactic| repeat walk_at "s1")

theorem Fpr.pi_listK {X : Cx} (K0 : PySem.W.Frag) (hK : X.K = K0) {e tg : Expr} {te : TE} (he : PE X e te) : PI X tg e (iList K0 te) := by
  subst hK
  exact pi_list he
namespace K28
open Dc Gk M28 Fpr M5
section
variable {P : Program} {w : World} {K : PySem.W.Frag} {mg : Str → Option Value} {base : Heap} {cS : Addr}
def spRows (cS : Addr) : Sp := fun vs H Q _ => ∃ (l : Addr) (ts : List Addr) (us : List (RV × RV)) (b1 b2 : Bool), vs = [.ref l, .int 2] ∧ H l = some (.lst (ts.map V.ref)) ∧ Paired (fun t u => H t = some (.tup [vV u.1, vV u.2])) ts us ∧ us.length ≤ 60 ∧ Hom b1 (us.map (·.1)) ∧ Hom b2 (us.map (·.2)) ∧
  ∀ p x y H', Same H H' → SumO cS H' x (sumOf (us.map (·.1))) → SumO cS H' y (sumOf (us.map (·.2))) → H' p = some (.tup [.ref x, .ref y]) → Q (.ref p) H'
def col (k : Nat) (u : RV × RV) : RV := if k = 0 then u.1 else u.2
theorem col_at {k : Nat} {u : RV × RV} (h : k < 2) : atI [vV u.1, vV u.2] ((0 : Int) + (k : Int)) = some (vV (col k u)) := by
  have : k = 0 ∨ k = 1 := by omega
  rcases this with rfl | rfl <;> rfl
theorem SumO.wr {H : Hp} {x L : Addr} {s : SD} {zs : List V} {o : HO} (h : SumO cS H x s) (hL : H L = some (.lst zs)) : SumO cS (upd H L o) x s := by
  obtain ⟨dx, b, ks, h1, h2, h3, h4⟩ := h
  have ne : ∀ {a u}, H a = some u → (∀ zs, u ≠ .lst zs) → (upd H L o) a = some u := fun {a u} e n => by
    rw [upd_ne (fun z => n zs (by rw [z, hL] at e; exact (Option.some.inj e).symm))]
    exact e
  exact ⟨dx, b, ks, ne h1 (fun zs z => by cases z), ne h2 (fun zs z => by cases z), h3, fun p hp => ⟨ne (h4 p hp).1 (fun zs z => by cases z), (h4 p hp).2⟩⟩
theorem ok_rows (W : Ws K mg cS) (c_summarize : Cl P w K mg base 3 "summarize" (spSum cS)) : Cl P w K mg base 4 "summarize_rows" (spRows cS) := by
  refine cl_mk W.d_summarize_rows sc_summarize_rows (fun _ _ _ _ _ _ us hl => match us, hl with | [_, _], _ => rfl) (fun vs H Q E h => ?_) (fun f cdv A outer s H vs Q E hr h => ?_)
  · obtain ⟨l, ts, us, b1, b2, rfl, _⟩ := h; rfl
  obtain ⟨l, ts, us, b1, b2, rfl, hl, ht, h60, hom1, hom2, q⟩ := h
  refine ⟨_, (pss_one (ps_ret (pe_callTy call_tuple_of rfl W.n_tuple (by decide +kernel) (pa_cons (pe_lc (own := [("place", 3)]) rfl sc_summarize_rows.nd (pi_range1 rfl W.n_range (pa_cons (pv 1) pa_nil)) (blkOk_by (own := [("place", 3)]) (N := ["rows", "width", "row", "place"]) (sc := defScope s_summarize_rows) (by decide +kernel)) (fun _ _ _ _ _ => (pg_name (i := 3) sc_summarize_rows.nd rfl (by first | exact Or.inl rfl | exact Or.inr rfl))) (fun _ _ _ _ _ => pts_nil) (fun _ _ _ _ _ => (pe_cl c_summarize hr (by decide) rfl passL (pa_cons (pe_lc (own := [("row", 2)]) rfl sc_summarize_rows.nd (Fpr.pi_listK K rfl (pv 0)) (blkOk_by (own := [("row", 2)]) (N := ["rows", "width", "row", "place"]) (sc := relS _ (defScope s_summarize_rows)) (by decide +kernel)) (fun _ _ _ _ _ => (pg_name (i := 2) sc_summarize_rows.nd rfl (by first | exact Or.inl rfl | exact Or.inr rfl))) (fun _ _ _ _ _ => pts_nil) (fun _ _ _ _ _ => (pe_ix (ix_tupK K rfl) (pv 2) (pv 3) (fun _ _ => rfl)))) pa_nil)))) pa_nil)))), ?_⟩
  have lt : ts.length = us.length := ht.length
  walk_at "g"
  refine w_lcRp ⟨by decide, by decide⟩ fun D hD => ⟨fun i H1 => ∃ xs : List Addr, xs.length = i ∧ Same H H1 ∧ H1 D = some (.lst (xs.map V.ref)) ∧ ∀ j x, xs[j]? = some x → SumO cS H1 x (sumOf (us.map (col j))), ⟨[], rfl, same_new hD _, upd_same, fun j x hx => by cases hx⟩, ?_, ?_⟩
  · rintro i H1 hi ⟨xs, rfl, e1, eD, hxs⟩
    walk_at "g"
    refine ⟨rfl, ?_⟩
    walk_at "g"
    refine w_lcLn (SqL.of (e1 _ _ hl)) fun D2 hD2 => ⟨fun k H2 => ∃ ys : List V, Same H1 H2 ∧ H2 D2 = some (.lst ys) ∧ ys = (us.take k).map (fun u => vV (col xs.length u)), ⟨[], same_new hD2 _, upd_same, rfl⟩, fun k H2 _ ⟨ys, e, _⟩ => SqL.of (e _ _ (e1 _ _ hl)), ?_, ?_⟩
    · rintro k z H2 hk ⟨ys, e2, eD2, rfl⟩
      obtain ⟨t, hk2, rfl⟩ := map_get hk
      obtain ⟨u, hu, tu⟩ := paired_get ht hk2
      have tu2 := e2 _ _ (e1 _ _ tu)
      have hk3 : k < us.length := (List.getElem?_eq_some_iff.mp hu).1
      walk_at "g"
      refine ⟨rfl, ?_⟩
      walk_at "g"
      refine ⟨t, _, _, _, rfl, rfl, SqT.of tu2, col_at (by omega), ?_⟩
      refine ⟨_, eD2, by rw [List.length_map, List.length_take]; exact Nat.lt_of_lt_of_le (by omega : min k us.length < 100) (by decide), _, same_upd e2 hD2, upd_same, ?_⟩
      rw [List.take_add_one, hu, List.map_append]
      rfl
    · rintro H2 ⟨ys, e2, eD2, rfl⟩
      rw [List.length_map, lt, List.take_length, show us.map (fun u => vV (col xs.length u)) = (us.map (col xs.length)).map vV by rw [List.map_map]; rfl] at eD2
      obtain ⟨b, hb⟩ : ∃ b, Hom b (us.map (col xs.length)) := by
        have : xs.length = 0 ∨ xs.length = 1 := by omega
        rcases this with z | z <;> rw [z]
        · exact ⟨b1, hom1⟩
        · exact ⟨b2, hom2⟩
      walk_at "g"
      refine ⟨D2, _, b, rfl, eD2, by rw [List.length_map]; exact h60, hb, fun x H3 e3 so => ?_⟩
      have e13 := e2.trans e3
      have eD3 := e13 _ _ eD
      refine ⟨_, eD3, by rw [List.length_map]; exact Nat.lt_of_lt_of_le (by omega : xs.length < 100) (by decide), xs ++ [x], by simp, same_upd (e1.trans e13) hD, by rw [upd_same, List.map_append]; rfl, fun j y hj => ?_⟩
      rw [List.getElem?_append] at hj
      split at hj
      · exact ((hxs j y hj).sm e13).wr eD3
      · rename_i hlt
        have hj0 : j = xs.length := by
          have := (List.getElem?_eq_some_iff.mp hj).1
          simp at this
          omega
        subst hj0
        rw [Nat.sub_self] at hj
        cases hj
        exact so.wr eD3
  · rintro H1 ⟨xs, hx, e1, eD, hxs⟩
    have hx2 : xs.length = 2 := hx
    obtain ⟨x, y, rfl⟩ : ∃ x y, xs = [x, y] := by
      match xs, hx2 with
      | [x, y], _ => exact ⟨x, y, rfl⟩
    walk_at "g"
    refine ⟨D, _, rfl, .inl ⟨SqL.of eD, fun p hp => ?_⟩⟩
    have e2 := same_new hp (.tup [.ref x, .ref y])
    exact q p x y _ (e1.trans e2) ((hxs 0 x rfl).sm e2) ((hxs 1 y rfl).sm e2) upd_same
end
end K28
end

section
-- part K28E
set_option Elab.async false
set_option linter.all false
set_option maxRecDepth 100000
set_option maxHeartbeats 800000
open PySem PySem.Spec PyProof.Rows L2 Fw
local macro_rules | `(tactic| walk_at "e1") => `(tactic| first
  | ((with_reducible refine' w_var ?hv ?_); (case hv => rfl))
  | with_reducible refine w_c ?_
  | with_reducible refine w_op ?_
  | with_reducible refine w_un ?_
  | with_reducible refine w_cons ?_
  | with_reducible refine w_nil ?_
  | with_reducible refine w_cl ?_
  | with_reducible refine w_cb ?_
  | with_reducible refine w_gname ?_
  | with_reducible refine w_gsub ?_
  | with_reducible refine w_test ?_
  | with_reducible refine w_B ?_
  | with_reducible refine w_bl ?_
  | with_reducible refine w_and ?_
  | with_reducible refine w_or ?_
  | with_reducible refine w_not ?_
  | with_reducible refine w_if ?_
  | with_reducible refine w_I0 ?_
  | with_reducible refine Gk.w_rU ?_
  | with_reducible refine Dq.w_orV ?_
  | with_reducible refine Dq.w_js ?_
  | with_reducible refine Dq.w_js0 ?_
  | with_reducible refine Dq.w_fm ?_
  | with_reducible refine Dq.w_andV ?_
  | with_reducible refine Gk.w_iEnum ?_
  | with_reducible refine Dq.w_dget ?_
  | with_reducible refine Dq.w_dpop1 ?_
  | with_reducible refine Dq.w_ddel ?_
  | with_reducible refine Dq.w_din ?_
  | with_reducible refine Dq.w_dnotin ?_
  | with_reducible refine Dq.w_dget2 ?_
  | with_reducible refine Dq.w_dnew ?_
  | with_reducible refine Dq.w_fldaug ?_
  | with_reducible refine Dq.w_aSub ?_
  | with_reducible refine Dq.w_aAdd ?_
  | with_reducible refine Dq.w_mkd ?_
  | with_reducible refine Dq.w_notN0 ?_
  | with_reducible refine Dq.w_isN0 ?_
  | with_reducible refine Ftw.w_isTI ?_
  | with_reducible refine Ftw.w_isTS ?_
  | with_reducible refine Ftw.w_isTR ?_
  | with_reducible refine Ftw.w_isTN ?_
  | with_reducible refine Ftw.w_isTtt ?_
  | with_reducible refine Ftw.w_isTft ?_
  | with_reducible refine Ftw.w_isTtf ?_
  | with_reducible refine Ftw.w_isNS ?_
  | with_reducible refine Ftw.w_isNB ?_
  | ((with_reducible refine' Ftw.w_isiRS ?hq ?_); (case hq => assumption))
  | ((with_reducible refine' Ftw.w_isiRT ?hq ?_); (case hq => assumption))
  | ((with_reducible refine' Ftw.w_isiRI ?hq ?_); (case hq => assumption))
  | with_reducible refine Ftw.w_isiIT ?_
  | with_reducible refine Ftw.w_isiII ?_
  | with_reducible refine Dq.w_notNR ?_
  | with_reducible refine Dq.w_isNR ?_
  | with_reducible refine Dq.w_notNI ?_
  | with_reducible refine Dq.w_isNI ?_
  | with_reducible refine L2.w_neOs ?_
  | with_reducible refine w_ipI ?_
  | with_reducible refine w_eqS ?_
  | with_reducible refine w_neS ?_
  | with_reducible refine w_eqI ?_
  | with_reducible refine w_neI ?_
  | with_reducible refine w_eqB ?_
  | with_reducible refine w_neB ?_
  | ((with_reducible refine w_eq ?hs ?_); (case hs => rfl))
  | ((with_reducible refine w_ne ?hs ?_); (case hs => rfl))
  | with_reducible refine w_fld ?_
  | with_reducible refine w_bm ?_
  | with_reducible refine w_bm0 ?_
  | with_reducible refine w_sl ?_
  | with_reducible refine w_part ?_
  | with_reducible refine w_partI ?_
  | with_reducible refine w_nopart ?_
  | ((with_reducible refine' w_ixL ?hh ?ha ?_); (case hh => first | assumption | exact upd_same); (case ha => rfl))
  | ((with_reducible refine' w_setLu ?ha ?_); (case ha => rfl))
  | ((with_reducible refine' w_setL ?hh ?ha ?_); (case hh => first | assumption | exact upd_same); (case ha => rfl))
  | with_reducible refine w_iteT ?_
  | with_reducible refine w_iteF ?_
  | with_reducible refine w_lst ?_
  | with_reducible refine w_tup ?_
  | ((with_reducible refine w_new ?hz ?_); (case hz => rfl))
  | with_reducible refine w_lc ?_
  | with_reducible refine w_iL ?_
  | with_reducible refine w_iT ?_
  | with_reducible refine w_iR1 ?_
  | with_reducible refine w_iR2 ?_
  | with_reducible refine w_yes ?_
  | with_reducible refine w_iStr ?_
  | with_reducible exact tyS
  | with_reducible refine And.intro tyS ?_
  | ((with_reducible refine w_find3 ?_); (first | rw [find3_one] | rw [starts3] | skip))
  | ((with_reducible refine w_2s ?_); (try rw [find_one]))
  | ((with_reducible refine w_inS ?_); rw [S_list])
  | ((with_reducible refine w_lenS ?hz ?_); (case hz => first | assumption | omega | decide); rw [SX.S_len])
  | ((with_reducible refine w_addS ?hz ?_); (case hz => first | assumption | omega | decide); rw [vS_cat])
  | with_reducible refine w_mk ?_
  | with_reducible refine w_me ?_
  | with_reducible refine w_sfld ?_
  | ((with_reducible refine' w_gtup ?hh ?hn ?_); (case hh => first | assumption | exact upd_same); (case hn => rfl))
  | with_reducible refine w_gcons ?_
  | with_reducible refine w_gnil ?_
  | with_reducible refine w_repl ?_
  | with_reducible refine w_star ?_
  | with_reducible refine w_revL ?_
  | with_reducible refine w_isiS ?_
  | with_reducible refine w_isiI ?_
  | with_reducible refine w_isiN ?_
  | with_reducible refine w_chain ?_
  | with_reducible refine w_iEnumT ?_
  | with_reducible refine w_iZip3 ?_
  | with_reducible refine w_iZip ?_
  | with_reducible refine w_lenR3 ?_
  | with_reducible refine w_x1i ?_
  | with_reducible refine w_x1b ?_
  | with_reducible refine w_x1s ?_
  | with_reducible refine w_int1i ?_
  | with_reducible refine w_int1b ?_
  | ((with_reducible refine w_mod ?hc ?_); (case hc => omega))
  | ((with_reducible refine w_fdivW ?hc ?hd ?_); (case hc => omega); (case hd => omega))
  | ((with_reducible refine w_mul ?hc ?_); (case hc => first | exact Or.inr ⟨by decide, by decide⟩ | exact Or.inl ⟨by decide, by decide⟩))
  | ((with_reducible refine w_pow ?hc ?_); (case hc => exact ⟨by decide, by decide, by decide⟩)))
local macro_rules | `(tactic| walk_at "f1") => `(tactic| first
  | ((with_reducible refine' K28.g_rows ?hW ?hK ?hs ?hx ?_); (case hW => assumption); (case hK => rfl); (case hs => rfl); (case hx => first | assumption | exact upd_same))
  | ((with_reducible refine' K28.g_nulls ?hW ?hK ?hs ?hx ?_); (case hW => assumption); (case hK => rfl); (case hs => rfl); (case hx => first | assumption | exact upd_same))
  | ((with_reducible refine' K28.g_different ?hW ?hK ?hs ?hx ?_); (case hW => assumption); (case hK => rfl); (case hs => rfl); (case hx => first | assumption | exact upd_same))
  | ((with_reducible refine' K28.g_bounds ?hW ?hK ?hs ?hx ?_); (case hW => assumption); (case hK => rfl); (case hs => rfl); (case hx => first | assumption | exact upd_same))
  | walk_at "e1")
local macro_rules | `(tactic| walk_at "s1") => `(tactic| first
  | with_reducible refine w_seq ?_
  | with_reducible refine w_asg ?_
  | with_reducible refine w_ret ?_
  | with_reducible refine w_par ?_
  | with_reducible refine w_drop ?_
  | with_reducible refine w_next ?_
  | with_reducible refine w_ifs ?_
  | ((with_reducible refine' w_aug ?hv ?_); (case hv => rfl))
  | with_reducible refine w_for ?_
  | walk_at "f1")
local macro_rules | `(tactic| walk_at "e") => `(tactic| repeat walk_at "e1")
local macro_rules | `(tactic| walk_at "g") => `(tactic| repeat walk_at "s1")

namespace K28
open Dc Gk M28 Fpr M5
-- _law_values: 0:dice 1:kind 2:many 3:k
abbrev s__law_values : Stmt := top 13
theorem sc__law_values : FnScope ["dice", "kind", "many", "k"] ["dice"] (defScope s__law_values) := ⟨rfl, rfl, rfl, by decide +kernel, rfl, by decide +kernel, by decide +kernel⟩
-- _law_bounds: 0:known 1:many 2:k
abbrev s__law_bounds : Stmt := top 14
theorem sc__law_bounds : FnScope ["known", "many", "k"] ["known"] (defScope s__law_bounds) := ⟨rfl, rfl, rfl, by decide +kernel, rfl, by decide +kernel, by decide +kernel⟩
-- law: 0:script 1:dice 2:values 3:known 4:value 5:different 6:one 7:summary 8:share 9:last 10:passed 11:due 12:sign 13:many 14:rows 15:k 16:both
abbrev s_law : Stmt := top 15
theorem sc_law : FnScope ["script", "dice", "values", "known", "value", "different", "one", "summary", "share", "last", "passed", "due", "sign", "many", "rows", "k", "both"] ["script"] (defScope s_law) := ⟨rfl, rfl, rfl, by decide +kernel, rfl, by decide +kernel, by decide +kernel⟩
structure Wz (K : PySem.W.Frag) (mg : Str → Option Value) (cS : Addr) : Prop extends Ws K mg cS where
  n_enumerate : mg "enumerate" = none
  d__law_values : FnP K mg "_law_values" s__law_values
  d__law_bounds : FnP K mg "_law_bounds" s__law_bounds
def spVals : Sp := fun vs H Q _ => ∃ d : Addr, vs = [.ref d] ∧ Dice H d ∧ ∀ l us b H', Kp d H H' → Dice H' d → H' l = some (.lst (us.map vV)) → us.length ≤ 40 → Hom b us → Q (.ref l) H'
def spBnds (cS : Addr) : Sp := fun vs H Q _ => ∃ (l : Addr) (ls : List (Addr × RV)), vs = [.ref l] ∧ H l = some (.lst (ls.map fun p => V.ref p.1)) ∧ ls.length ≤ 60 ∧ ∀ p, ∀ H', Same H H' → H' p = some (.tup ((bndP ls (min 8 ls.length)).map fun p => V.ref p.1)) → Q (.ref p) H'
theorem lit_a : (Str.ofString "a") = S [97] := by decide +kernel
theorem lit_b : (Str.ofString "b") = S [98] := by decide +kernel
theorem lit_ba : (Str.ofString "ba") = S [98, 97] := by decide +kernel
theorem lit_c : (Str.ofString "c") = S [99] := by decide +kernel
section
variable {P : Program} {w : World} {K : PySem.W.Frag} {mg : Str → Option Value} {base : Heap} {cS : Addr}
theorem ok_bnds (W : Wz K mg cS) : Cl P w K mg base 1 "_law_bounds" (spBnds cS) := by
  refine cl_mk W.d__law_bounds sc__law_bounds (fun _ _ _ _ _ _ us hl => match us, hl with | [_], _ => rfl) (fun vs H Q E h => ?_) (fun f cdv A outer s H vs Q E hr h => ?_)
  · obtain ⟨l, ls, rfl, _⟩ := h; rfl
  obtain ⟨l, ls, rfl, hl, h60, q⟩ := h
  refine ⟨_, (pss_cons (ps_set (i := 1) sc__law_bounds.nd rfl (by first | exact Or.inl rfl | exact Or.inr rfl) (pe_callB (call_min2 rfl) rfl W.n_min (by decide +kernel) (pa_cons pe_int (pa_cons (pe_callB call_len_seq rfl W.n_len PySem.boot_len (pa_cons (pv 0) pa_nil)) pa_nil))))
    (pss_one (ps_ret (pe_callTy call_tuple_of rfl W.n_tuple (by decide +kernel) (pa_cons (pe_lc (own := [("k", 2)]) rfl sc__law_bounds.nd (pi_range1 rfl W.n_range (pa_cons (pv 1) pa_nil)) (blkOk_by (own := [("k", 2)]) (N := ["known", "many", "k"]) (sc := defScope s__law_bounds) (by decide +kernel)) (fun _ _ _ _ _ => (pg_name (i := 2) sc__law_bounds.nd rfl (by first | exact Or.inl rfl | exact Or.inr rfl))) (fun _ _ _ _ _ => pts_nil) (fun _ _ _ _ _ => (pe_ix (ix_listK K rfl) (pv 0) (pe_op op_sub (pe_op op_fdivW (pe_op op_mul (pe_op op_add (pv 2) pe_int) (pe_callB (len_seqK K rfl) rfl W.n_len PySem.boot_len (pa_cons (pv 0) pa_nil))) (pv 1)) pe_int) (fun _ _ => rfl)))) pa_nil))))), ?_⟩
  walk_at "g"
  refine ⟨l, _, rfl, .inl (SqL.of hl), ?_⟩
  rw [List.length_map]
  refine ⟨_, _, rfl, ?_⟩
  rw [mn_eq]
  walk_at "g"
  refine w_lcRp ⟨by omega, by omega⟩ fun D hD => ⟨fun i H4 => Same H H4 ∧ H4 D = some (.lst ((bndP ls i).map fun p => V.ref p.1)), ⟨same_new hD _, upd_same⟩, ?_, ?_⟩
  · rintro i H4 hi ⟨e4, eD⟩
    have hi2 : i < min 8 ls.length := by omega
    have hb := bix_ok hi2
    walk_at "g"
    refine ⟨rfl, ?_⟩
    walk_at "g"
    refine ⟨l, _, rfl, .inl (SqL.of (e4 _ _ hl)), ?_⟩
    rw [List.length_map]
    refine w_mul (Or.inl ⟨by omega, by omega⟩) ?_
    walk_at "g"
    rw [show (0 + (i : Int) + 1) = i + 1 by omega, hb.1]
    refine w_ixL (e4 _ _ hl) (v := .ref (ls.getD (bix ls.length i) (0, .non)).1) (atI_nat ?_) ?_
    · rw [List.getElem?_map, List.getD_eq_getElem?_getD, List.getElem?_eq_getElem hb.2]
      rfl
    have lb : (bndP ls i).length = i := by simp [bndP]
    exact ⟨_, eD, by rw [List.length_map, lb]; exact Nat.lt_of_lt_of_le (by omega : i < 100) (by decide), same_upd e4 hD, by rw [upd_same, bndP_succ, List.map_append]; rfl⟩
  · rintro H4 ⟨e4, eD⟩
    have em : ((min 8 ls.length : Nat) : Int).toNat = min 8 ls.length := by omega
    rw [em] at eD
    walk_at "g"
    exact ⟨D, _, rfl, .inl ⟨SqL.of eD, fun p hp => q p _ (e4.trans (same_new hp _)) upd_same⟩⟩
theorem ok_vals (W : Wz K mg cS) (c__law_roll : Cl P w K mg base 1 "_law_roll" spRoll) : Cl P w K mg base 2 "_law_values" spVals := by
  refine cl_mk W.d__law_values sc__law_values (fun _ _ _ _ _ _ us hl => match us, hl with | [_], _ => rfl) (fun vs H Q E h => ?_) (fun f cdv A outer s H vs Q E hr h => ?_)
  · obtain ⟨d, rfl, _⟩ := h; rfl
  obtain ⟨d, rfl, hd, q⟩ := h
  refine ⟨_, (pss_cons (ps_asg (pe_tup (pa_cons (pe_cl c__law_roll hr (by decide) rfl passL (pa_cons (pv 0) (pa_cons pe_int pa_nil))) (pa_cons (pe_cl c__law_roll hr (by decide) rfl passL (pa_cons (pv 0) (pa_cons pe_int pa_nil))) pa_nil))) (pg_tup rfl (pgs_cons (pg_name (i := 1) sc__law_values.nd rfl (by first | exact Or.inl rfl | exact Or.inr rfl)) (pgs_cons (pg_name (i := 2) sc__law_values.nd rfl (Or.inl rfl)) pgs_nil))))
    (pss_one (ps_ret (pe_lc (own := [("k", 3)]) rfl sc__law_values.nd (pi_range1 rfl W.n_range (pa_cons (pv 2) pa_nil)) (blkOk_by (own := [("k", 3)]) (N := ["dice", "kind", "many", "k"]) (sc := defScope s__law_values) (by decide +kernel)) (fun _ _ _ _ _ => (pg_name (i := 3) sc__law_values.nd rfl (Or.inl rfl))) (fun _ _ _ _ _ => pts_nil) (fun _ _ _ _ _ => (pe_ifExp (pt_cmpR op_eq (pe_cl c__law_roll hr (by decide) rfl passL (pa_cons (pv 0) (pa_cons pe_int pa_nil))) pe_int (nomark _)) pe_non (pe_ifExp (pt_cmpR op_eq (pv 1) pe_int (nomark _)) (pe_cl c__law_roll hr (by decide) rfl passL (pa_cons (pv 0) (pa_cons pe_int pa_nil))) (pe_ix (ix_listK K rfl) (pe_lst (pa_cons pe_str (pa_cons pe_str (pa_cons pe_str (pa_cons pe_str pa_nil))))) (pe_cl c__law_roll hr (by decide) rfl passL (pa_cons (pv 0) (pa_cons pe_int pa_nil))) (fun _ _ => rfl))))))))), ?_⟩
  walk_at "g"
  refine w_roll (by decide) (by decide) (Kp.refl d H) hd fun kd H1 k0 k1 kp1 _ d1 => ?_
  walk_at "g"
  refine w_roll (by decide) (by decide) kp1 d1 fun m H2 m0 m1 kp2 _ d2 => ?_
  walk_at "g"
  intro T hT
  obtain ⟨kp3, _, d3, _, _, eT⟩ := newl (o := .tup [.int kd, .int m]) kp2 d2 hT rfl
  generalize upd H2 T (.tup [.int kd, .int m]) = H3 at kp3 d3 eT
  walk_at "g"
  refine w_lcRp ⟨by omega, by omega⟩ fun D hD => ⟨fun i H4 => ∃ us : List RV, us.length = i ∧ Kp d H3 H4 ∧ Dice H4 d ∧ H4 D = some (.lst (us.map vV)) ∧ Hom (!decide (kd = 0)) us, ⟨[], rfl, Kp.of (same_new hD _), d3.new hD, upd_same, fun v hv => by cases hv⟩, ?_, ?_⟩
  · have Dd : D ≠ d := fun z => by
      obtain ⟨_, _, _, e⟩ := d3
      rw [z, e] at hD
      cases hD
    rintro i H4 hi ⟨us, rfl, k4, d4, eD, hom⟩
    have fin : ∀ (v : RV) (H5 : Hp), Kp d H4 H5 → Dice H5 d → (v = .non ∨ isT v = !decide (kd = 0)) → okv v → ∃ acc, H5 D = some (.lst acc) ∧ acc.length < sizeLine ∧ ∃ us2 : List RV, us2.length = us.length + 1 ∧ Kp d H3 (upd H5 D (.lst (acc ++ [vV v]))) ∧ Dice (upd H5 D (.lst (acc ++ [vV v]))) d ∧ (upd H5 D (.lst (acc ++ [vV v]))) D = some (.lst (us2.map vV)) ∧ Hom (!decide (kd = 0)) us2 := by
      intro v H5 k5 d5 h1 h2
      have eD5 := k5 D _ Dd eD
      refine ⟨_, eD5, by rw [List.length_map]; exact Nat.lt_of_lt_of_le (by omega : us.length < 100) (by decide), us ++ [v], by simp, Gk.Kp.wr (k4.trans k5) hD, Gk.Dice.wr d5 Dd, by rw [upd_same, List.map_append]; rfl, fun u hu => ?_⟩
      rcases List.mem_append.mp hu with hu | hu
      · exact hom u hu
      · rw [List.mem_singleton.mp hu]
        exact ⟨h1, h2⟩
    walk_at "g"
    refine ⟨rfl, ?_⟩
    walk_at "g"
    refine w_roll (by decide) (by decide) (Kp.refl d H4) d4 fun r H5 r0 r1 k5 _ d5 => ?_
    walk_at "g"
    refine w_iteD (fun c => ?_) (fun c => ?_)
    · walk_at "g"
      exact fin .non H5 k5 d5 (.inl rfl) trivial
    walk_at "g"
    refine w_iteD (fun c2 => ?_) (fun c2 => ?_)
    · walk_at "g"
      refine w_roll (by decide) (by decide) k5 d5 fun r2 H6 _ _ k6 _ d6 => ?_
      exact fin (.num r2) H6 k6 d6 (.inr (by rw [decide_eq_true c2]; rfl)) trivial
    have kt : ∀ l, isT (.txt l) = !decide (kd = 0) := fun l => by rw [decide_eq_false c2]; rfl
    walk_at "g"
    intro L hL
    obtain ⟨k6, _, d6, nL, _, eL⟩ := newl (o := .lst [.str (Str.ofString "a"), .str (Str.ofString "b"), .str (Str.ofString "ba"), .str (Str.ofString "c")]) k5 d5 hL rfl
    generalize upd H5 L (.lst [.str (Str.ofString "a"), .str (Str.ofString "b"), .str (Str.ofString "ba"), .str (Str.ofString "c")]) = H6 at k6 d6 eL
    walk_at "g"
    refine w_roll (by decide) (by decide) k6 d6 fun r2 H7 r20 r21 k7 k67 d7 => ?_
    have eL7 := k67 L _ nL eL
    have small : r2 = 0 ∨ r2 = 1 ∨ r2 = 2 ∨ r2 = 3 := by omega
    rcases small with rfl | rfl | rfl | rfl
    · refine w_ixL eL7 rfl ?_
      rw [lit_a]
      exact fin (.txt [97]) H7 k7 d7 (.inr (kt _)) (by show ∀ c ∈ [97], c < 128; decide)
    · refine w_ixL eL7 rfl ?_
      rw [lit_b]
      exact fin (.txt [98]) H7 k7 d7 (.inr (kt _)) (by show ∀ c ∈ [98], c < 128; decide)
    · refine w_ixL eL7 rfl ?_
      rw [lit_ba]
      exact fin (.txt [98, 97]) H7 k7 d7 (.inr (kt _)) (by show ∀ c ∈ [98, 97], c < 128; decide)
    · refine w_ixL eL7 rfl ?_
      rw [lit_c]
      exact fin (.txt [99]) H7 k7 d7 (.inr (kt _)) (by show ∀ c ∈ [99], c < 128; decide)
  · rintro H4 ⟨us, hu, k4, d4, eD, hom⟩
    walk_at "g"
    exact q D us _ H4 (kp3.trans k4) d4 eD (by omega) hom
end
end K28
end

section
-- part K28F0
set_option Elab.async false
set_option linter.all false
set_option maxRecDepth 100000
set_option maxHeartbeats 800000
open PySem PySem.Spec PyProof.Rows L2 Fw
local macro_rules | `(tactic| walk_at "e1") => `(tactic| first
  | ((with_reducible refine' w_var ?hv ?_); (case hv => rfl))
  | with_reducible refine w_c ?_
  | with_reducible refine w_op ?_
  | with_reducible refine w_un ?_
  | with_reducible refine w_cons ?_
  | with_reducible refine w_nil ?_
  | with_reducible refine w_cl ?_
  | with_reducible refine w_cb ?_
  | with_reducible refine w_gname ?_
  | with_reducible refine w_gsub ?_
  | with_reducible refine w_test ?_
  | with_reducible refine w_B ?_
  | with_reducible refine w_bl ?_
  | with_reducible refine w_and ?_
  | with_reducible refine w_or ?_
  | with_reducible refine w_not ?_
  | with_reducible refine w_if ?_
  | with_reducible refine w_I0 ?_
  | with_reducible refine Gk.w_rU ?_
  | with_reducible refine Dq.w_orV ?_
  | with_reducible refine Dq.w_js ?_
  | with_reducible refine Dq.w_js0 ?_
  | with_reducible refine Dq.w_fm ?_
  | with_reducible refine Dq.w_andV ?_
  | with_reducible refine Gk.w_iEnum ?_
  | with_reducible refine Dq.w_dget ?_
  | with_reducible refine Dq.w_dpop1 ?_
  | with_reducible refine Dq.w_ddel ?_
  | with_reducible refine Dq.w_din ?_
  | with_reducible refine Dq.w_dnotin ?_
  | with_reducible refine Dq.w_dget2 ?_
  | with_reducible refine Dq.w_dnew ?_
  | with_reducible refine Dq.w_fldaug ?_
  | with_reducible refine Dq.w_aSub ?_
  | with_reducible refine Dq.w_aAdd ?_
  | with_reducible refine Dq.w_mkd ?_
  | with_reducible refine Dq.w_notN0 ?_
  | with_reducible refine Dq.w_isN0 ?_
  | with_reducible refine Ftw.w_isTI ?_
  | with_reducible refine Ftw.w_isTS ?_
  | with_reducible refine Ftw.w_isTR ?_
  | with_reducible refine Ftw.w_isTN ?_
  | with_reducible refine Ftw.w_isTtt ?_
  | with_reducible refine Ftw.w_isTft ?_
  | with_reducible refine Ftw.w_isTtf ?_
  | with_reducible refine Ftw.w_isNS ?_
  | with_reducible refine Ftw.w_isNB ?_
  | ((with_reducible refine' Ftw.w_isiRS ?hq ?_); (case hq => assumption))
  | ((with_reducible refine' Ftw.w_isiRT ?hq ?_); (case hq => assumption))
  | ((with_reducible refine' Ftw.w_isiRI ?hq ?_); (case hq => assumption))
  | with_reducible refine Ftw.w_isiIT ?_
  | with_reducible refine Ftw.w_isiII ?_
  | with_reducible refine Dq.w_notNR ?_
  | with_reducible refine Dq.w_isNR ?_
  | with_reducible refine Dq.w_notNI ?_
  | with_reducible refine Dq.w_isNI ?_
  | with_reducible refine L2.w_neOs ?_
  | with_reducible refine w_ipI ?_
  | with_reducible refine w_eqS ?_
  | with_reducible refine w_neS ?_
  | with_reducible refine w_eqI ?_
  | with_reducible refine w_neI ?_
  | with_reducible refine w_eqB ?_
  | with_reducible refine w_neB ?_
  | ((with_reducible refine w_eq ?hs ?_); (case hs => rfl))
  | ((with_reducible refine w_ne ?hs ?_); (case hs => rfl))
  | with_reducible refine w_fld ?_
  | with_reducible refine w_bm ?_
  | with_reducible refine w_bm0 ?_
  | with_reducible refine w_sl ?_
  | with_reducible refine w_part ?_
  | with_reducible refine w_partI ?_
  | with_reducible refine w_nopart ?_
  | ((with_reducible refine' w_ixL ?hh ?ha ?_); (case hh => first | assumption | exact upd_same); (case ha => rfl))
  | ((with_reducible refine' w_setLu ?ha ?_); (case ha => rfl))
  | ((with_reducible refine' w_setL ?hh ?ha ?_); (case hh => first | assumption | exact upd_same); (case ha => rfl))
  | with_reducible refine w_iteT ?_
  | with_reducible refine w_iteF ?_
  | with_reducible refine w_lst ?_
  | with_reducible refine w_tup ?_
  | ((with_reducible refine w_new ?hz ?_); (case hz => rfl))
  | with_reducible refine w_lc ?_
  | with_reducible refine w_iL ?_
  | with_reducible refine w_iT ?_
  | with_reducible refine w_iR1 ?_
  | with_reducible refine w_iR2 ?_
  | with_reducible refine w_yes ?_
  | with_reducible refine w_iStr ?_
  | with_reducible exact tyS
  | with_reducible refine And.intro tyS ?_
  | ((with_reducible refine w_find3 ?_); (first | rw [find3_one] | rw [starts3] | skip))
  | ((with_reducible refine w_2s ?_); (try rw [find_one]))
  | ((with_reducible refine w_inS ?_); rw [S_list])
  | ((with_reducible refine w_lenS ?hz ?_); (case hz => first | assumption | omega | decide); rw [SX.S_len])
  | ((with_reducible refine w_addS ?hz ?_); (case hz => first | assumption | omega | decide); rw [vS_cat])
  | with_reducible refine w_mk ?_
  | with_reducible refine w_me ?_
  | with_reducible refine w_sfld ?_
  | ((with_reducible refine' w_gtup ?hh ?hn ?_); (case hh => first | assumption | exact upd_same); (case hn => rfl))
  | with_reducible refine w_gcons ?_
  | with_reducible refine w_gnil ?_
  | with_reducible refine w_repl ?_
  | with_reducible refine w_star ?_
  | with_reducible refine w_revL ?_
  | with_reducible refine w_isiS ?_
  | with_reducible refine w_isiI ?_
  | with_reducible refine w_isiN ?_
  | with_reducible refine w_chain ?_
  | with_reducible refine w_iEnumT ?_
  | with_reducible refine w_iZip3 ?_
  | with_reducible refine w_iZip ?_
  | with_reducible refine w_lenR3 ?_
  | with_reducible refine w_x1i ?_
  | with_reducible refine w_x1b ?_
  | with_reducible refine w_x1s ?_
  | with_reducible refine w_int1i ?_
  | with_reducible refine w_int1b ?_
  | ((with_reducible refine w_mod ?hc ?_); (case hc => omega))
  | ((with_reducible refine w_fdivW ?hc ?hd ?_); (case hc => omega); (case hd => omega))
  | ((with_reducible refine w_mul ?hc ?_); (case hc => first | exact Or.inr ⟨by decide, by decide⟩ | exact Or.inl ⟨by decide, by decide⟩))
  | ((with_reducible refine w_pow ?hc ?_); (case hc => exact ⟨by decide, by decide, by decide⟩)))
local macro_rules | `(tactic| walk_at "f1") => `(tactic| first
  | ((with_reducible refine' K28.g_rows ?hW ?hK ?hs ?hx ?_); (case hW => assumption); (case hK => rfl); (case hs => rfl); (case hx => first | assumption | exact upd_same))
  | ((with_reducible refine' K28.g_nulls ?hW ?hK ?hs ?hx ?_); (case hW => assumption); (case hK => rfl); (case hs => rfl); (case hx => first | assumption | exact upd_same))
  | ((with_reducible refine' K28.g_different ?hW ?hK ?hs ?hx ?_); (case hW => assumption); (case hK => rfl); (case hs => rfl); (case hx => first | assumption | exact upd_same))
  | ((with_reducible refine' K28.g_bounds ?hW ?hK ?hs ?hx ?_); (case hW => assumption); (case hK => rfl); (case hs => rfl); (case hx => first | assumption | exact upd_same))
  | walk_at "e1")
local macro_rules | `(tactic| walk_at "s1") => `(tactic| first
  | with_reducible refine w_seq ?_
  | with_reducible refine w_asg ?_
  | with_reducible refine w_ret ?_
  | with_reducible refine w_par ?_
  | with_reducible refine w_drop ?_
  | with_reducible refine w_next ?_
  | with_reducible refine w_ifs ?_
  | ((with_reducible refine' w_aug ?hv ?_); (case hv => rfl))
  | with_reducible refine w_for ?_
  | walk_at "f1")
local macro_rules | `(tactic| walk_at "e") => `(tactic| repeat walk_at "e1")
local macro_rules | `(tactic| walk_at "g") => `(tactic| repeat walk_at "s1")

namespace K28
open Dc Gk M28 Fpr M5
theorem up_size {b k : Nat} (hk : 0 < k) : Builtin.Range.rangeSize 0 (b : Int) (k : Int) = ((b + k - 1) / k : Nat) := by
  unfold Builtin.Range.rangeSize
  rw [if_pos (by omega)]
  by_cases h : b = 0
  · subst h
    rw [if_neg (by omega), Nat.zero_add, Nat.div_eq_of_lt (by omega)]
    rfl
  · rw [if_pos (by omega)]
    have e : (b + k - 1) / k = (b - 1) / k + 1 := by
      rw [show b + k - 1 = (b - 1) + k by omega, Nat.add_div_right _ hk]
    have e1 : (b : Int) - 0 - 1 = ((b - 1 : Nat) : Int) := by omega
    rw [e, e1]
    rfl
theorem rgc_up {b k : Nat} (hk : 0 < k) (hk2 : k ≤ 1000) (hb : b ≤ 1000000) : RgC 0 (b : Int) (k : Int) ((b + k - 1) / k) := by
  have es := up_size (b := b) hk
  have hq : (b + k - 1) / k ≤ 2000000 := Nat.le_trans (Nat.div_le_self _ _) (by omega)
  have fit : ∀ n : Int, 0 ≤ n → n ≤ 2000000 → Builtin.Range.rangeFitsLong n = true := by
    intro n h1 h2
    unfold Builtin.Range.rangeFitsLong
    simp only [Bool.and_eq_true, decide_eq_true_eq]
    omega
  generalize (b + k - 1) / k = n at hq es ⊢
  refine ⟨by omega, by omega, ?_, es⟩
  unfold Builtin.Range.small
  rw [es, fit 0 (by decide) (by decide), fit b (by omega) (by omega), fit k (by omega) (by omega), fit _ (by omega) (by omega), if_pos (by omega), fit _ (by omega) (by omega)]
  simp

theorem w_seqRest {a b : TS} {D : Ends} {σ : L2.St} {H : Hp} (I : L2.St → Hp → Prop) (h1 : ∀ N : L2.St → Hp → Prop, (∀ σ' H', I σ' H' → N σ' H') → a { D with nx := N } σ H) (h2 : ∀ σ' H', I σ' H' → b D σ' H') : tSeq a b D σ H := h1 (b D) h2
theorem w_ifK {c : Prop} [Decidable c] {ta tb : TE} {σ : L2.St} {H : Hp} {k : VK} (G : V → Hp → Prop) (h1 : c → ∀ R : VK, (∀ v H', G v H' → R v H') → ta σ H R) (h2 : ¬ c → ∀ R : VK, (∀ v H', G v H' → R v H') → tb σ H R) (h3 : ∀ v H', G v H' → k v H') : if decide c = true then ta σ H k else tb σ H k := by
  by_cases z : c
  · rw [if_pos (decide_eq_true z)]; exact h1 z k h3
  · rw [if_neg (by simpa using z)]; exact h2 z k h3
theorem w_neQ {a b : Int} {A B : Prop} (e : a = b) (h : B) : if (!decide (a = b)) = true then A else B := by
  rw [decide_eq_true e]
  exact h
/-- as many ranges of that length as begin -/
theorem d_eq (us : List RV) : (sumOf us).d = ((nuq (known us) : Nat) : Int) := rfl
theorem eqR_up {us : List RV} (h : nuq (known us) ≠ 0) : eqR (sumOf us) = ((((known us).length + nuq (known us) - 1) / nuq (known us) : Nat) : Int) := by
  have hk := (ok_of us).kn
  unfold eqR
  rw [hk, d_eq, if_neg (by omega), Int.natCast_ediv]
  congr 1
  omega
theorem eqR_0 {us : List RV} (h : nuq (known us) = 0) : eqR (sumOf us) = 0 := by
  unfold eqR
  rw [d_eq, if_pos (by omega)]
theorem keys_nuq {ks : List (List Key)} {vs : List RV} (nd : ks.Nodup) (mem : ∀ k, k ∈ ks ↔ k ∈ vs.map rkK) : ks.length = nuq vs := by
  have n2 : ((uni vs).map rkK).Nodup := List.pairwise_map.mpr ((uni_nd vs).imp fun h e => h (rkK_inj e))
  have p := (List.perm_ext_iff_of_nodup nd n2).mpr fun k => by
    rw [mem, List.mem_map, List.mem_map]
    exact ⟨fun ⟨v, hv, e⟩ => ⟨v, (uni_mem vs v).mpr hv, e⟩, fun ⟨v, hv, e⟩ => ⟨v, (uni_mem vs v).mp hv, e⟩⟩
  rw [p.length_eq, List.length_map]
  rfl
/-- what is shown, as data -/
def dS (s : SD) : List PyData := [.int s.r, .int s.n, .int s.d, .tuple (s.bs.map dR)]
theorem bs_dp {K : PySem.W.Frag} {H : Hp} {b : Addr} {ks : List (Addr × RV)} {bs : List RV} (hb : H b = some (.tup (ks.map fun p => V.ref p.1))) (hk : ks.map (·.2) = bs) (hp : Prs H ks) : Dp K H (.ref b) (.tuple (bs.map dR)) := by
  refine .tup (SqT.of hb) ?_
  rw [← hk, List.map_map]
  exact prs_dp hp
theorem fine_S {H : Hp} {ks : List (Addr × RV)} {s : SD} (hk : ks.map (·.2) = s.bs) (hp : Prs H ks) : Fine 3 (.tuple (dS s)) := by
  refine Fine.tup fun d hd => ?_
  simp only [dS, List.mem_cons, List.not_mem_nil, or_false] at hd
  rcases hd with rfl | rfl | rfl | rfl
  · exact (Fine.int _).le (by decide)
  · exact (Fine.int _).le (by decide)
  · exact (Fine.int _).le (by decide)
  · refine Fine.tup fun d hd => ?_
    rw [← hk, List.map_map] at hd
    exact prs_fine hp d hd
theorem sh_dp {K : PySem.W.Frag} {H : Hp} {r n d : Int} {b : Addr} {ks : List (Addr × RV)} {s : SD} (hr : r = s.r) (hn : n = s.n) (hd : d = s.d) (hb : H b = some (.tup (ks.map fun p => V.ref p.1))) (hk : ks.map (·.2) = s.bs) (hp : Prs H ks) : DpAll K H [.int r, .int n, .int d, .ref b] (dS s) := by
  subst hr hn hd
  exact .cons (.int _) (.cons (.int _) (.cons (.int _) (.cons (bs_dp hb hk hp) .nil)))
/-- the values that are asked for -/
def asks (b : Bool) : List RV := if b = true then [.txt [], .txt [97], .txt [98], .txt [98, 98], .txt [122]] else [.num (-1), .num 0, .num 3, .num 7, .num 30]
theorem asks_up (b : Bool) : (asks b).Pairwise fun u v => vlt v u = false := by cases b <;> decide
theorem asks_ok {b : Bool} {v : RV} (h : v ∈ asks b) : v ≠ .non := by
  cases b <;> (simp only [asks] at h; revert h; revert v; decide)
theorem asks_len (b : Bool) : (asks b).length = 5 := by cases b <;> rfl
def lst0 (s : SD) (b : Bool) : Nat → Int
  | 0 => 0
  | i + 1 => blw s ((asks b).getD i .non)
theorem lst_le {s : SD} {k : Nat} (o : Ok s k) {b : Bool} {i : Nat} {v : RV} (h : (asks b)[i]? = some v) : lst0 s b i ≤ blw s v := by
  cases i with
  | zero => exact (blw_b o v).1
  | succ i =>
    refine blw_mono o ?_
    obtain ⟨h1, h2⟩ := List.getElem?_eq_some_iff.mp h
    have := List.pairwise_iff_getElem.mp (asks_up b) i (i + 1) (by omega) h1 (by omega)
    rw [List.getD_eq_getElem?_getD, List.getElem?_eq_getElem (show i < (asks b).length by omega)]
    rw [h2] at this
    exact this
theorem rng_up {s : SD} {k : Nat} (o : Ok s k) {v : RV} (hv : v ≠ .non) : rng s v .non = k - blw s v := by
  have := blw_b o v
  have h := o.kn
  unfold rng upp M28.low mx
  rw [if_pos rfl, if_neg hv, h]
  split <;> omega
theorem rng_to {s : SD} {k : Nat} (o : Ok s k) {v : RV} (hv : v ≠ .non) : rng s .non v = blw s v := by
  have := blw_b o v
  unfold rng upp M28.low mx
  rw [if_pos rfl, if_neg hv]
  split <;> omega
theorem rng_self {s : SD} {v : RV} (hv : v ≠ .non) : rng s v v = 0 := by
  unfold rng upp M28.low mx
  rw [if_neg hv, if_neg hv]
  split <;> omega
theorem lit_e : (Str.ofString "") = S [] := by decide +kernel
theorem lit_bb : (Str.ofString "bb") = S [98, 98] := by decide +kernel
theorem lit_z : (Str.ofString "z") = S [122] := by decide +kernel
def sgs : List (List Nat) := [[61], [60], [60, 61], [62], [62, 61]]
theorem sgs_lit : [V.str (Str.ofString "="), V.str (Str.ofString "<"), V.str (Str.ofString "<="), V.str (Str.ofString ">"), V.str (Str.ofString ">=")] = sgs.map fun g => V.str (S g) := by
  rw [show (Str.ofString "=") = S [61] by decide +kernel, show (Str.ofString "<") = S [60] by decide +kernel, show (Str.ofString "<=") = S [60, 61] by decide +kernel, show (Str.ofString ">") = S [62] by decide +kernel, show (Str.ofString ">=") = S [62, 61] by decide +kernel]
  rfl
def nums (n : Nat) : List RV := (List.range n).map fun k => RV.num (k : Nat)
def prs (us : List RV) : List (RV × RV) := (List.range us.length).map fun k => (us.getD k .non, RV.num (k : Nat))
theorem prs_get {us : List RV} {i : Nat} {v : RV} (h : us[i]? = some v) : (prs us)[i]? = some (v, RV.num (i : Nat)) := by
  obtain ⟨h1, h2⟩ := List.getElem?_eq_some_iff.mp h
  unfold prs
  rw [List.getElem?_map, List.getElem?_range h1]
  show some (us.getD i .non, _) = _
  rw [List.getD_eq_getElem?_getD, h]
  rfl
theorem prs_len (us : List RV) : (prs us).length = us.length := by simp [prs]
theorem prs_fst (us : List RV) : (prs us).map (·.1) = us := by
  refine List.ext_getElem? fun i => ?_
  rw [List.getElem?_map]
  cases h : us[i]? with
  | some v => rw [prs_get h]; rfl
  | none =>
    have : us.length ≤ i := List.getElem?_eq_none_iff.mp h
    rw [List.getElem?_eq_none (by rw [prs_len]; exact this)]
    rfl
theorem prs_snd (us : List RV) : (prs us).map (·.2) = nums us.length := by unfold prs nums; rw [List.map_map]; rfl
theorem nums_hom (n : Nat) : Hom false (nums n) := fun v hv => by
  obtain ⟨k, _, rfl⟩ := List.mem_map.mp hv
  exact ⟨.inr rfl, trivial⟩
theorem nums_d (n : Nat) : (sumOf (nums n)).d = (n : Int) := by
  have nd : (nums n).Nodup := List.pairwise_map.mpr (List.nodup_range.imp fun h e => h (by injection e with e; omega))
  have hf : (nums n).filter (fun v => !decide (v = .non)) = nums n := List.filter_eq_self.mpr fun v hv => by
    obtain ⟨k, _, rfl⟩ := List.mem_map.mp hv
    rfl
  show ((nuq (known (nums n)) : Nat) : Int) = _
  unfold known
  rw [hf, nuq_nd ((srt_perm _).nodup_iff.mpr nd), srt_len]
  simp [nums]
theorem share_own {us : List RV} (h : 0 < us.length) : share1 (sumOf us) [61] (.num 3) (us.length : Int) = (if (us.length : Int) < eqR (sumOf us) then (us.length : Int) else eqR (sumOf us)) := by
  have ok := ok_of us
  have h1 := eqR_b ok
  have h2 := known_len us
  have hr : (sumOf us).r = (us.length : Int) := rfl
  unfold share1 askd
  rw [if_neg (fun z => by cases z), hr, if_neg (by omega), if_pos rfl, Int.mul_ediv_cancel_left _ (by omega), if_neg (by omega)]
end K28
end

section
-- part K28F
set_option Elab.async false
set_option linter.all false
set_option maxRecDepth 100000
set_option maxHeartbeats 800000
open PySem PySem.Spec PyProof.Rows L2 Fw
local macro_rules | `(tactic| walk_at "e1") => `(tactic| first
  | ((with_reducible refine' w_var ?hv ?_); (case hv => rfl))
  | with_reducible refine w_c ?_
  | with_reducible refine w_op ?_
  | with_reducible refine w_un ?_
  | with_reducible refine w_cons ?_
  | with_reducible refine w_nil ?_
  | with_reducible refine w_cl ?_
  | with_reducible refine w_cb ?_
  | with_reducible refine w_gname ?_
  | with_reducible refine w_gsub ?_
  | with_reducible refine w_test ?_
  | with_reducible refine w_B ?_
  | with_reducible refine w_bl ?_
  | with_reducible refine w_and ?_
  | with_reducible refine w_or ?_
  | with_reducible refine w_not ?_
  | with_reducible refine w_if ?_
  | with_reducible refine w_I0 ?_
  | with_reducible refine Gk.w_rU ?_
  | with_reducible refine Dq.w_orV ?_
  | with_reducible refine Dq.w_js ?_
  | with_reducible refine Dq.w_js0 ?_
  | with_reducible refine Dq.w_fm ?_
  | with_reducible refine Dq.w_andV ?_
  | with_reducible refine Gk.w_iEnum ?_
  | with_reducible refine Dq.w_dget ?_
  | with_reducible refine Dq.w_dpop1 ?_
  | with_reducible refine Dq.w_ddel ?_
  | with_reducible refine Dq.w_din ?_
  | with_reducible refine Dq.w_dnotin ?_
  | with_reducible refine Dq.w_dget2 ?_
  | with_reducible refine Dq.w_dnew ?_
  | with_reducible refine Dq.w_fldaug ?_
  | with_reducible refine Dq.w_aSub ?_
  | with_reducible refine Dq.w_aAdd ?_
  | with_reducible refine Dq.w_mkd ?_
  | with_reducible refine Dq.w_notN0 ?_
  | with_reducible refine Dq.w_isN0 ?_
  | with_reducible refine Ftw.w_isTI ?_
  | with_reducible refine Ftw.w_isTS ?_
  | with_reducible refine Ftw.w_isTR ?_
  | with_reducible refine Ftw.w_isTN ?_
  | with_reducible refine Ftw.w_isTtt ?_
  | with_reducible refine Ftw.w_isTft ?_
  | with_reducible refine Ftw.w_isTtf ?_
  | with_reducible refine Ftw.w_isNS ?_
  | with_reducible refine Ftw.w_isNB ?_
  | ((with_reducible refine' Ftw.w_isiRS ?hq ?_); (case hq => assumption))
  | ((with_reducible refine' Ftw.w_isiRT ?hq ?_); (case hq => assumption))
  | ((with_reducible refine' Ftw.w_isiRI ?hq ?_); (case hq => assumption))
  | with_reducible refine Ftw.w_isiIT ?_
  | with_reducible refine Ftw.w_isiII ?_
  | with_reducible refine Dq.w_notNR ?_
  | with_reducible refine Dq.w_isNR ?_
  | with_reducible refine Dq.w_notNI ?_
  | with_reducible refine Dq.w_isNI ?_
  | with_reducible refine L2.w_neOs ?_
  | with_reducible refine w_ipI ?_
  | with_reducible refine w_eqS ?_
  | with_reducible refine w_neS ?_
  | with_reducible refine w_eqI ?_
  | with_reducible refine w_neI ?_
  | with_reducible refine w_eqB ?_
  | with_reducible refine w_neB ?_
  | ((with_reducible refine w_eq ?hs ?_); (case hs => rfl))
  | ((with_reducible refine w_ne ?hs ?_); (case hs => rfl))
  | with_reducible refine w_fld ?_
  | with_reducible refine w_bm ?_
  | with_reducible refine w_bm0 ?_
  | with_reducible refine w_sl ?_
  | with_reducible refine w_part ?_
  | with_reducible refine w_partI ?_
  | with_reducible refine w_nopart ?_
  | ((with_reducible refine' w_ixL ?hh ?ha ?_); (case hh => first | assumption | exact upd_same); (case ha => rfl))
  | ((with_reducible refine' w_setLu ?ha ?_); (case ha => rfl))
  | ((with_reducible refine' w_setL ?hh ?ha ?_); (case hh => first | assumption | exact upd_same); (case ha => rfl))
  | with_reducible refine w_iteT ?_
  | with_reducible refine w_iteF ?_
  | with_reducible refine w_lst ?_
  | with_reducible refine w_tup ?_
  | ((with_reducible refine w_new ?hz ?_); (case hz => rfl))
  | with_reducible refine w_lc ?_
  | with_reducible refine w_iL ?_
  | with_reducible refine w_iT ?_
  | with_reducible refine w_iR1 ?_
  | with_reducible refine w_iR2 ?_
  | with_reducible refine w_yes ?_
  | with_reducible refine w_iStr ?_
  | with_reducible exact tyS
  | with_reducible refine And.intro tyS ?_
  | ((with_reducible refine w_find3 ?_); (first | rw [find3_one] | rw [starts3] | skip))
  | ((with_reducible refine w_2s ?_); (try rw [find_one]))
  | ((with_reducible refine w_inS ?_); rw [S_list])
  | ((with_reducible refine w_lenS ?hz ?_); (case hz => first | assumption | omega | decide); rw [SX.S_len])
  | ((with_reducible refine w_addS ?hz ?_); (case hz => first | assumption | omega | decide); rw [vS_cat])
  | with_reducible refine w_mk ?_
  | with_reducible refine w_me ?_
  | with_reducible refine w_sfld ?_
  | ((with_reducible refine' w_gtup ?hh ?hn ?_); (case hh => first | assumption | exact upd_same); (case hn => rfl))
  | with_reducible refine w_gcons ?_
  | with_reducible refine w_gnil ?_
  | with_reducible refine w_repl ?_
  | with_reducible refine w_star ?_
  | with_reducible refine w_revL ?_
  | with_reducible refine w_isiS ?_
  | with_reducible refine w_isiI ?_
  | with_reducible refine w_isiN ?_
  | with_reducible refine w_chain ?_
  | with_reducible refine w_iEnumT ?_
  | with_reducible refine w_iZip3 ?_
  | with_reducible refine w_iZip ?_
  | with_reducible refine w_lenR3 ?_
  | with_reducible refine w_x1i ?_
  | with_reducible refine w_x1b ?_
  | with_reducible refine w_x1s ?_
  | with_reducible refine w_int1i ?_
  | with_reducible refine w_int1b ?_
  | ((with_reducible refine w_mod ?hc ?_); (case hc => omega))
  | ((with_reducible refine w_fdivW ?hc ?hd ?_); (case hc => omega); (case hd => omega))
  | ((with_reducible refine w_mul ?hc ?_); (case hc => first | exact Or.inr ⟨by decide, by decide⟩ | exact Or.inl ⟨by decide, by decide⟩))
  | ((with_reducible refine w_pow ?hc ?_); (case hc => exact ⟨by decide, by decide, by decide⟩)))
local macro_rules | `(tactic| walk_at "f1") => `(tactic| first
  | ((with_reducible refine' K28.g_rows ?hW ?hK ?hs ?hx ?_); (case hW => assumption); (case hK => rfl); (case hs => rfl); (case hx => first | assumption | exact upd_same))
  | ((with_reducible refine' K28.g_nulls ?hW ?hK ?hs ?hx ?_); (case hW => assumption); (case hK => rfl); (case hs => rfl); (case hx => first | assumption | exact upd_same))
  | ((with_reducible refine' K28.g_different ?hW ?hK ?hs ?hx ?_); (case hW => assumption); (case hK => rfl); (case hs => rfl); (case hx => first | assumption | exact upd_same))
  | ((with_reducible refine' K28.g_bounds ?hW ?hK ?hs ?hx ?_); (case hW => assumption); (case hK => rfl); (case hs => rfl); (case hx => first | assumption | exact upd_same))
  | walk_at "e1")
local macro_rules | `(tactic| walk_at "s1") => `(tactic| first
  | with_reducible refine w_seq ?_
  | with_reducible refine w_asg ?_
  | with_reducible refine w_ret ?_
  | with_reducible refine w_par ?_
  | with_reducible refine w_drop ?_
  | with_reducible refine w_next ?_
  | with_reducible refine w_ifs ?_
  | ((with_reducible refine' w_aug ?hv ?_); (case hv => rfl))
  | with_reducible refine w_for ?_
  | walk_at "f1")
local macro_rules | `(tactic| walk_at "e") => `(tactic| repeat walk_at "e1")
local macro_rules | `(tactic| walk_at "g") => `(tactic| repeat walk_at "s1")
local macro_rules | `(tactic| walk_at "n1") => `(tactic| ((fail_if_success (with_reducible refine w_if ?_)); walk_at "s1"))
local macro_rules | `(tactic| walk_at "n") => `(tactic| repeat walk_at "n1")

namespace K28
open Dc Gk M28 Fpr M5
def spLaw (K : PySem.W.Frag) : Sp := fun vs H Q _ => ∃ (a : Addr) (ns : List Int), vs = [.ref a] ∧ SqL K H a (ns.map V.int) ∧ ns.length ≤ 63 ∧ ∀ H', Q (.bl true) H'
structure Good (p : Addr) (dcs : List Addr) (Hc : Hp) : Prop where
  lst : Hc p = some (.lst (dcs.map V.ref))
  dice : ∀ d ∈ dcs, Dice Hc d
theorem Good.ne {p d : Addr} {dcs : List Addr} {Hc : Hp} (g : Good p dcs Hc) (hd : Dice Hc d) : p ≠ d := fun z => by
  obtain ⟨a, b, c, e⟩ := hd
  have h := g.lst
  rw [z, e] at h
  have h2 := Option.some.inj h
  injection h2 with h2
  cases dcs with
  | nil => cases h2
  | cons x r => cases h2
theorem Good.kp {p d : Addr} {dcs : List Addr} {Hc H' : Hp} (g : Good p dcs Hc) (hd : Dice Hc d) (k : Kp d Hc H') (d' : Dice H' d) : Good p dcs H' := by
  refine ⟨k _ _ (g.ne hd) g.lst, fun x hx => ?_⟩
  by_cases z : x = d
  · rw [z]; exact d'
  · obtain ⟨a, b, c, e⟩ := g.dice x hx
    exact ⟨a, b, c, k _ _ z e⟩
theorem Good.sm {p : Addr} {dcs : List Addr} {Hc H' : Hp} (g : Good p dcs Hc) (e : Same Hc H') : Good p dcs H' :=
  ⟨e _ _ g.lst, fun d hd => Gk.Dice.sm (g.dice d hd) e⟩
/-- what the law holds when its questions begin -/
structure St (cS : Addr) (us : List RV) (ls : List (Addr × RV)) (l L x : Addr) (H : Hp) : Prop where
  vals : H l = some (.lst (us.map vV))
  kn : H L = some (.lst (ls.map fun p => V.ref p.1))
  snd : ls.map (·.2) = known us
  prs : Prs H ls
  sum : SumO cS H x (sumOf us)
theorem St.sm {cS : Addr} {us : List RV} {ls : List (Addr × RV)} {l L x : Addr} {H H' : Hp} (g : St cS us ls l L x H) (e : Same H H') : St cS us ls l L x H' :=
  ⟨e _ _ g.vals, e _ _ g.kn, g.snd, g.prs.sm e, g.sum.sm e⟩
section
variable {P : Program} {w : World} {K : PySem.W.Frag} {mg : Str → Option Value} {base : Heap} {cS : Addr}
theorem ok_law {f : Addr} {fd : FuncData} (W : Wz K mg cS) (F : FunD K "law" "law" (defArgs s_law) (defBody s_law) (defScope s_law) [] [] f fd)
    (c__law_rounds : Cl P w K mg base 2 "_law_rounds" (spRounds K)) (c__law_values : Cl P w K mg base 2 "_law_values" spVals) (c__law_bounds : Cl P w K mg base 1 "_law_bounds" (spBnds cS)) (c_rank : Cl P w K mg base 1 "rank" spRank)
    (c_summarize : Cl P w K mg base 3 "summarize" (spSum cS)) (c_summarize_rows : Cl P w K mg base 4 "summarize_rows" (spRows cS)) (c_expected_share : Cl P w K mg base 5 "expected_share" (spShare cS)) (c_Summary : Mc P w K mg base 1 "Summary" cS (spIni cS))
    (c_Summary_shown : Me P w K mg base 1 cS "shown" (spShown cS)) (c_Summary_equal_rows : Me P w K mg base 1 cS "equal_rows" (spEq cS)) (c_Summary_below_rows : Me P w K mg base 2 cS "below_rows" (spBelow cS)) (c_Summary_range_rows : Me P w K mg base 3 cS "range_rows" (spRange cS)) :
    FnOk P w K mg base (L2.CX P w) 7 f fd ["script"] (spLaw K) := by
  obtain ⟨oc, od, dV, kV, doc, pm, an, cdv, ct, osl, rfl, lk, hcd, _, _⟩ := F.ex
  refine fn_of lk hcd sc_law (fun vs H Q E h => ?_) fun A outer s H vs Q E hr h => ?_
  · obtain ⟨a, ns, rfl, _⟩ := h; rfl
  obtain ⟨a, ns, rfl, hS, h63, q⟩ := h
  have ws := W.toWs
  refine ⟨_, (pss_cons (ps_for (passes_of rfl) rfl (pi_list (pe_cl c__law_rounds hr (by decide) rfl passL (pa_cons (pv 0) (pa_cons pe_int pa_nil)))) (pg_name (i := 1) sc_law.nd rfl (Or.inl rfl))
    (pss_cons (ps_set (i := 2) sc_law.nd rfl (Or.inl rfl) (pe_cl c__law_values hr (by decide) rfl passL (pa_cons (pv 1) pa_nil)))
    (pss_cons (ps_set (i := 3) sc_law.nd rfl (Or.inl rfl) (pe_callB Fpr.cr_sortPr rfl W.n_sorted (by decide +kernel) (pa_cons (pe_lc (own := [("value", 4)]) rfl sc_law.nd (pi_list (pv 2)) (blkOk_by (own := [("value", 4)]) (N := ["script", "dice", "values", "known", "value", "different", "one", "summary", "share", "last", "passed", "due", "sign", "many", "rows", "k", "both"]) (sc := defScope s_law) (by decide +kernel)) (fun _ _ _ _ _ => (pg_name (i := 4) sc_law.nd rfl (by first | exact Or.inl rfl | exact Or.inr rfl))) (fun _ _ _ _ _ => (pts_one (pt_cmpR op_notN1 (pv 4) pe_non (nomark _)))) (fun _ _ _ _ _ => (pe_cl c_rank hr (by decide) rfl passL (pa_cons (pv 4) pa_nil)))) pa_nil)))
    (pss_cons (ps_set (i := 5) sc_law.nd rfl (Or.inl rfl) (pe_callB call_len_dT rfl W.n_len PySem.boot_len (pa_cons (pe_callTy (Fpr.cr_dictPr rfl (hu64 hr)) rfl W.n_dict (by decide +kernel) (pa_cons (pe_lc (own := [("one", 6)]) rfl sc_law.nd (pi_list (pv 3)) (blkOk_by (own := [("one", 6)]) (N := ["script", "dice", "values", "known", "value", "different", "one", "summary", "share", "last", "passed", "due", "sign", "many", "rows", "k", "both"]) (sc := defScope s_law) (by decide +kernel)) (fun _ _ _ _ _ => (pg_name (i := 6) sc_law.nd rfl (by first | exact Or.inl rfl | exact Or.inr rfl))) (fun _ _ _ _ _ => pts_nil) (fun _ _ _ _ _ => (pe_tup (pa_cons (pv 6) (pa_cons pe_int pa_nil))))) pa_nil)) pa_nil)))
    (pss_cons (ps_set (i := 7) sc_law.nd rfl (Or.inl rfl) (pe_cl c_summarize hr (by decide) rfl passL (pa_cons (pv 2) pa_nil)))
    (pss_cons (ps_if (pt_cmpR (op_neD (hu64 hr)) (pe_me0 c_Summary_shown hr (by decide) passL (pv 7)) (pe_tup (pa_cons (pe_callB call_len_seq rfl W.n_len PySem.boot_len (pa_cons (pv 2) pa_nil)) (pa_cons (pe_op op_sub (pe_callB call_len_seq rfl W.n_len PySem.boot_len (pa_cons (pv 2) pa_nil)) (pe_callB call_len_seq rfl W.n_len PySem.boot_len (pa_cons (pv 3) pa_nil))) (pa_cons (pv 5) (pa_cons (pe_cl c__law_bounds hr (by decide) rfl passL (pa_cons (pv 3) pa_nil)) pa_nil))))) (nomark _))
    (pss_one (ps_ret pe_bl))
    pss_nil)
    (pss_cons (ps_set (i := 8) sc_law.nd rfl (Or.inl rfl) (pe_ifExp (pt_cmpR op_eq (pv 5) pe_int (nomark _)) pe_int (pe_lenR3 rfl W.n_len rfl W.n_range (pa_cons pe_int (pa_cons (pe_callB call_len_seq rfl W.n_len PySem.boot_len (pa_cons (pv 3) pa_nil)) (pa_cons (pv 5) pa_nil))))))
    (pss_cons (ps_if (pt_cmpR op_ne (pe_me0 c_Summary_equal_rows hr (by decide) passL (pv 7)) (pv 8) (nomark _))
    (pss_one (ps_ret pe_bl))
    pss_nil)
    (pss_cons (ps_set (i := 9) sc_law.nd rfl (Or.inl rfl) pe_int)
    (pss_cons (ps_for (passes_of rfl) rfl (pi_list (pe_ifExp (PW.pt (pw_or (pt_cmpR (op_eqD (hu64 hr)) (pv 3) (pe_lst pa_nil) (nomark _)) (pw_or1 (pt_cmpR op_eq (pe_ix ix_tup (pe_ix ix_list (pv 3) pe_int (fun _ _ => rfl)) pe_int (fun _ _ => rfl)) pe_int (nomark _))))) (pe_lst (pa_cons (pe_op op_sub pe_int pe_int) (pa_cons pe_int (pa_cons pe_int (pa_cons pe_int (pa_cons pe_int pa_nil)))))) (pe_lst (pa_cons pe_str (pa_cons pe_str (pa_cons pe_str (pa_cons pe_str (pa_cons pe_str pa_nil)))))))) (pg_name (i := 4) sc_law.nd rfl (by first | exact Or.inl rfl | exact Or.inr rfl))
    (pss_cons (ps_set (i := 10) sc_law.nd rfl (Or.inl rfl) (pe_callB call_len_seq rfl W.n_len PySem.boot_len (pa_cons (pe_lc (own := [("one", 6)]) rfl sc_law.nd (pi_tup (pe_fld (pv 7) rfl)) (blkOk_by (own := [("one", 6)]) (N := ["script", "dice", "values", "known", "value", "different", "one", "summary", "share", "last", "passed", "due", "sign", "many", "rows", "k", "both"]) (sc := defScope s_law) (by decide +kernel)) (fun _ _ _ _ _ => (pg_name (i := 6) sc_law.nd rfl (by first | exact Or.inl rfl | exact Or.inr rfl))) (fun _ _ _ _ _ => (pts_one (pt_cmpR (Fpr.op_ltPr K rfl (hu64 hr)) (pv 6) (pe_cl c_rank hr (by decide) rfl passL (pa_cons (pv 4) pa_nil)) (nomark _)))) (fun _ _ _ _ _ => (pv 6))) pa_nil)))
    (pss_cons (ps_set (i := 11) sc_law.nd rfl (Or.inl rfl) (pe_ifExp (pt_cmpR (op_eqD (hu64 hr)) (pe_fld (pv 7) rfl) (pe_tup pa_nil) (nomark _)) pe_int (pe_op op_fdivW (pe_op op_mul (pe_callB call_len_seq rfl W.n_len PySem.boot_len (pa_cons (pv 3) pa_nil)) (pv 10)) (pe_callB call_len_seq rfl W.n_len PySem.boot_len (pa_cons (pe_fld (pv 7) rfl) pa_nil)))))
    (pss_cons (ps_if (PW.pt (pw_or (pt_cmpR op_ne (pe_me c_Summary_below_rows hr (by decide) passL (pv 7) (pa_cons (pv 4) pa_nil)) (pv 11) (nomark _)) (pw_or (pt_cmpR op_lt (pv 11) (pv 9) (nomark _)) (pw_or1 (pt_cmpR op_ne (pe_me c_Summary_range_rows hr (by decide) passL (pv 7) (pa_cons (pv 4) (pa_cons pe_non pa_nil))) (pe_op op_sub (pe_callB call_len_seq rfl W.n_len PySem.boot_len (pa_cons (pv 3) pa_nil)) (pv 11)) (nomark _))))))
    (pss_one (ps_ret pe_bl))
    pss_nil)
    (pss_cons (ps_if (PW.pt (pw_or (pt_cmpR op_ne (pe_me c_Summary_range_rows hr (by decide) passL (pv 7) (pa_cons pe_non (pa_cons (pv 4) pa_nil))) (pv 11) (nomark _)) (pw_or1 (pt_cmpR op_ne (pe_me c_Summary_range_rows hr (by decide) passL (pv 7) (pa_cons (pv 4) (pa_cons (pv 4) pa_nil))) pe_int (nomark _)))))
    (pss_one (ps_ret pe_bl))
    pss_nil)
    (pss_cons (ps_set (i := 9) sc_law.nd rfl (Or.inl rfl) (pv 11))
    (pss_cons (ps_for (passes_of rfl) rfl (pi_list (pe_lst (pa_cons pe_str (pa_cons pe_str (pa_cons pe_str (pa_cons pe_str (pa_cons pe_str pa_nil))))))) (pg_name (i := 12) sc_law.nd rfl (Or.inl rfl))
    (pss_one (ps_for (passes_of rfl) rfl (pi_list (pe_lst (pa_cons pe_int (pa_cons (pe_callB call_len_seq rfl W.n_len PySem.boot_len (pa_cons (pv 2) pa_nil)) (pa_cons pe_int pa_nil))))) (pg_name (i := 13) sc_law.nd rfl (Or.inl rfl))
    (pss_one (ps_if (pt_not (pt_chain op_le op_le pe_int (pe_cl c_expected_share hr (by decide) rfl passL (pa_cons (pe_lst (pa_cons (pv 7) pa_nil)) (pa_cons (pe_lst (pa_cons (pe_tup (pa_cons pe_int (pa_cons (pv 12) (pa_cons (pv 4) pa_nil)))) pa_nil)) (pa_cons (pv 13) pa_nil)))) (pv 13)))
    (pss_one (ps_ret pe_bl))
    pss_nil)))))
    (pss_one (ps_if (PW.pt (pw_or (pt_cmpR op_ne (pe_cl c_expected_share hr (by decide) rfl passL (pa_cons (pe_lst (pa_cons (pv 7) pa_nil)) (pa_cons (pe_lst (pa_cons (pe_tup (pa_cons pe_int (pa_cons pe_str (pa_cons pe_non pa_nil)))) pa_nil)) (pa_cons pe_int pa_nil)))) pe_int (nomark _)) (pw_or1 (pt_cmpR op_ne (pe_cl c_expected_share hr (by decide) rfl passL (pa_cons (pe_lst (pa_cons (pv 7) pa_nil)) (pa_cons (pe_lst pa_nil) (pa_cons pe_int pa_nil)))) pe_int (nomark _)))))
    (pss_one (ps_ret pe_bl))
    pss_nil)))))))))
    (pss_cons (ps_setLc (i := 14) (own := [("k", 15), ("value", 4)]) rfl sc_law.nd rfl rfl (sw_true rfl rfl rfl (by decide +kernel)) (pi_enum rfl W.n_enumerate (pa_cons (pv 2) pa_nil)) (blkOk_by (own := [("k", 15), ("value", 4)]) (N := ["script", "dice", "values", "known", "value", "different", "one", "summary", "share", "last", "passed", "due", "sign", "many", "rows", "k", "both"]) (sc := defScope s_law) (by decide +kernel)) (fun _ _ _ _ _ => (Fw.pg_tupK K 2 rfl rfl (pgs_cons (pg_name (i := 15) sc_law.nd rfl (by first | exact Or.inl rfl | exact Or.inr rfl)) (pgs_cons (pg_name (i := 4) sc_law.nd rfl (by first | exact Or.inl rfl | exact Or.inr rfl)) pgs_nil)) rfl rfl)) (fun _ _ _ _ _ => pts_nil) (fun _ _ _ _ _ => (pe_tup (pa_cons (pv 4) (pa_cons (pv 15) pa_nil)))))
    (pss_cons (ps_set (i := 16) sc_law.nd rfl (Or.inl rfl) (pe_cl c_summarize_rows hr (by decide) rfl passL (pa_cons (pv 14) (pa_cons pe_int pa_nil))))
    (pss_cons (ps_if (PW.pt (pw_or (pt_cmpR op_ne (pe_callB call_len_seq rfl W.n_len PySem.boot_len (pa_cons (pv 16) pa_nil)) pe_int (nomark _)) (pw_or (pt_cmpR (op_neD (hu64 hr)) (pe_me0 c_Summary_shown hr (by decide) passL (pe_ix ix_tup (pv 16) pe_int (fun _ _ => rfl))) (pe_me0 c_Summary_shown hr (by decide) passL (pv 7)) (nomark _)) (pw_or1 (pt_cmpR op_ne (pe_fld (pe_ix ix_tup (pv 16) pe_int (fun _ _ => rfl)) rfl) (pe_callB call_len_seq rfl W.n_len PySem.boot_len (pa_cons (pv 2) pa_nil)) (nomark _))))))
    (pss_one (ps_ret pe_bl))
    pss_nil)
    (pss_one (ps_if (PW.pt (pw_and (pt_cmpR op_gt (pe_callB call_len_seq rfl W.n_len PySem.boot_len (pa_cons (pv 2) pa_nil)) pe_int (nomark _)) (pw_and1 (pt_cmpR op_ne (pe_cl c_expected_share hr (by decide) rfl passL (pa_cons (pe_lst (pa_cons (pv 7) pa_nil)) (pa_cons (pe_lst (pa_cons (pe_tup (pa_cons pe_int (pa_cons pe_str (pa_cons pe_int pa_nil)))) pa_nil)) (pa_cons (pe_callB call_len_seq rfl W.n_len PySem.boot_len (pa_cons (pv 2) pa_nil)) pa_nil)))) (pe_callB (call_min2 rfl) rfl W.n_min (by decide +kernel) (pa_cons (pv 8) (pa_cons (pe_callB call_len_seq rfl W.n_len PySem.boot_len (pa_cons (pv 2) pa_nil)) pa_nil))) (nomark _)))))
    (pss_one (ps_ret pe_bl))
    pss_nil)))))))))))))))
    (pss_one (ps_ret (pe_and (pe_cmpR op_eq (pe_me0 c_Summary_equal_rows hr (by decide) passL (pe_mc c_Summary hr (by decide) rfl passL (pa_cons pe_int (pa_cons pe_int (pa_cons pe_int (pa_cons (pe_tup (pa_cons (pe_tup (pa_cons pe_int (pa_cons pe_int pa_nil))) pa_nil)) pa_nil)))))) pe_int (nomark _)) (pe_one (pe_cmpR op_eq (pe_me c_Summary_below_rows hr (by decide) passL (pe_mc c_Summary hr (by decide) rfl passL (pa_cons pe_int (pa_cons pe_int (pa_cons pe_int (pa_cons (pe_tup pa_nil) pa_nil))))) (pa_cons pe_int pa_nil)) pe_int (nomark _))))))), ?_⟩
  walk_at "g"
  refine ⟨a, ns, 1, rfl, hS, h63, fun p H1 dcs s1 fp ep hds hl => ?_⟩
  refine w_forL (SqL.of ep) (fun i σ Hc => Good p dcs Hc ∧ ∃ v1 v2 v3 v4 v5 v6 v7 v8 v9 v10 v11 v12 v13 v14 v15 v16 : Option V, σ = [some (.ref a), v1, v2, v3, v4, v5, v6, v7, v8, v9, v10, v11, v12, v13, v14, v15, v16])
    ⟨⟨ep, fun d hd => (hds d hd).1⟩, none, none, none, none, none, none, none, none, none, none, none, none, none, none, none, none, rfl⟩ (fun i σ Hc _ h => SqL.of h.1.lst) ?_ ?_
  · rintro i x σ H2 hi ⟨g, v1, v2, v3, v4, v5, v6, v7, v8, v9, v10, v11, v12, v13, v14, v15, v16, rfl⟩
    obtain ⟨d, hd, rfl⟩ := map_get hi
    have hdd := g.dice d (List.mem_of_getElem? hd)
    walk_at "g"
    refine ⟨d, rfl, hdd, fun l us b Ha kd dd hl hlen hom => ?_⟩
    have ga := g.kp hdd kd dd
    have h60 : us.length ≤ 60 := by omega
    clear kd dd g hdd
    walk_at "g"
    refine w_lcLn (SqL.of hl) fun D hD => ⟨fun i H2 => ∃ ks : List (Addr × RV), Same Ha H2 ∧ H2 D = some (.lst (ks.map fun p => V.ref p.1)) ∧ ks.map (·.2) = (us.take i).filter (fun v => !decide (v = .non)) ∧ Prs H2 ks ∧ ks.length ≤ i,
      ⟨[], same_new hD _, upd_same, rfl, fun p hp => (by cases hp), Nat.le_refl _⟩, fun i H2 _ ⟨ks, e, _⟩ => SqL.of (e _ _ hl), ?_, ?_⟩
    · rintro i z H2 hi ⟨ks, e2, eD, hk, hp, hn⟩
      obtain ⟨v, hv, rfl⟩ := map_get hi
      have hvu := List.mem_of_getElem? hv
      have hi2 : i < us.length := (List.getElem?_eq_some_iff.mp hv).1
      walk_at "g"
      refine ⟨rfl, ?_⟩
      walk_at "g"
      refine w_notNV ?_
      walk_at "g"
      refine w_iteN (fun c => ?_) (fun c => ?_)
      · walk_at "g"
        refine ⟨v, rfl, fun T hT => ?_⟩
        have s3 := same_new hT (.tup (rkV v))
        have eT : (upd H2 T (.tup (rkV v))) T = some (.tup (rkV v)) := upd_same
        generalize upd H2 T (.tup (rkV v)) = H3 at s3 eT
        have e3 := s3 _ _ eD
        refine ⟨_, e3, by rw [List.length_map]; exact Nat.lt_of_lt_of_le (by omega : ks.length < 70000) (by decide), ks ++ [(T, v)], same_upd (e2.trans s3) hD, by rw [upd_same, List.map_append]; rfl, ?_, fun p hp2 => ?_, by rw [List.length_append]; exact Nat.succ_le_succ hn⟩
        · rw [List.map_append, hk, List.take_add_one, hv, List.filter_append]
          simp [c]
        · rcases List.mem_append.mp hp2 with hp2 | hp2
          · exact ⟨tup_wr (s3 _ _ (hp p hp2).1) e3, (hp p hp2).2⟩
          · rw [List.mem_singleton.mp hp2]
            exact ⟨tup_wr eT e3, (hom v hvu).2⟩
      · refine ⟨ks, e2, eD, ?_, hp, Nat.le_succ_of_le hn⟩
        rw [hk, List.take_add_one, hv, List.filter_append]
        simp [c]
    · rintro H2 ⟨ks, e2, eD, hk, hp, hn⟩
      rw [List.length_map, List.take_length] at hk
      rw [List.length_map] at hn
      walk_at "g"
      refine ⟨D, ks, b, rfl, SqL.of eD, fun p hp2 => ⟨SqT.of (hp p hp2).1, hom_in hom hk hp2⟩, fun ls L pm hin st hL => ?_⟩
      have hk3 := known_of hk pm st
      have s3 := same_new hL (.lst (ls.map fun p => V.ref p.1))
      have eL : (upd H2 L (.lst (ls.map fun p => V.ref p.1))) L = some (.lst (ls.map fun p => V.ref p.1)) := upd_same
      generalize upd H2 L (.lst (ls.map fun p => V.ref p.1)) = H3 at s3 eL
      have hp3 : Prs H3 ls := fun p hp2 => hp.sm s3 p (hin p hp2)
      have hn3 : ls.length = (known us).length := by rw [← hk3, List.length_map]
      have h60k : (known us).length ≤ 60 := Nat.le_trans (known_len us) h60
      have es := e2.trans s3
      clear hp hin st pm hk eD e2 s3 hn hL hD
      walk_at "g"
      have hl3 := es _ _ hl
      have g3 := ga.sm es
      clear es ga hl
      -- different
      walk_at "g"
      refine w_lcLn (SqL.of eL) fun D hD => ⟨fun i H2 => ∃ ps : List (Addr × Addr × RV), Same H3 H2 ∧ H2 D = some (.lst (ps.map fun p => V.ref p.1)) ∧ ps.map (·.2) = ls.take i ∧ (∀ p ∈ ps, H2 p.1 = some (.tup [.ref p.2.1, .int 1])) ∧ ps.length = i,
        ⟨[], same_new hD _, upd_same, rfl, fun p hp => (by cases hp), rfl⟩, fun i H2 _ ⟨ps, e, _⟩ => SqL.of (e _ _ eL), ?_, ?_⟩
      · rintro i z H2 hi ⟨ps, e2, eD, hk, hp, hn⟩
        obtain ⟨v, hv, rfl⟩ := map_get hi
        have hi2 : i < ls.length := (List.getElem?_eq_some_iff.mp hv).1
        walk_at "g"
        refine ⟨rfl, ?_⟩
        walk_at "g"
        intro T hT
        have s3 := same_new hT (.tup [.ref v.1, .int 1])
        have eT : (upd H2 T (.tup [.ref v.1, .int 1])) T = some (.tup [.ref v.1, .int 1]) := upd_same
        generalize upd H2 T (.tup [.ref v.1, .int 1]) = H5 at s3 eT
        have e3 := s3 _ _ eD
        refine ⟨_, e3, by rw [List.length_map]; exact Nat.lt_of_lt_of_le (by omega : ps.length < 70000) (by decide), ps ++ [(T, v)], same_upd (e2.trans s3) hD, by rw [upd_same, List.map_append]; rfl, ?_, fun p hp2 => ?_, by rw [List.length_append, hn]; rfl⟩
        · rw [List.map_append, hk, List.take_add_one, hv]
          rfl
        · rcases List.mem_append.mp hp2 with hp2 | hp2
          · exact tup_wr (s3 _ _ (hp p hp2)) e3
          · rw [List.mem_singleton.mp hp2]
            exact tup_wr eT e3
      rintro H4 ⟨ps, e4, eD, hk, hp, hn⟩
      rw [List.length_map, List.take_length] at hk
      have hp4 := hp3.sm e4
      have hl4 := e4 _ _ hl3
      have eL4 := e4 _ _ eL
      have g4 := g3.sm e4
      refine ⟨D, ps, rfl, SqL.of eD, fun p hp2 => ⟨SqT.of (hp p hp2), (hp4 p.2 (by rw [← hk]; exact List.mem_map.mpr ⟨p, hp2, rfl⟩)).1⟩, fun kvs Pd nd mem hP => ?_⟩
      have e5 := same_new hP (.dT kvs)
      have eP : (upd H4 Pd (.dT kvs)) Pd = some (.dT kvs) := upd_same
      generalize upd H4 Pd (.dT kvs) = H5 at e5 eP
      have kn : kvs.length = nuq (known us) := by
        rw [← hk3, ← hk]
        have := keys_nuq (vs := (ps.map (·.2)).map (·.2)) nd fun k => by rw [mem, List.map_map, List.map_map]; rfl
        rwa [List.length_map] at this
      have hp5 := hp4.sm e5
      have hl5 := e5 _ _ hl4
      have eL5 := e5 _ _ eL4
      have g5 := g4.sm e5
      refine ⟨Pd, kvs, rfl, eP, ?_⟩
      rw [kn]
      clear eP mem nd hP e5 hp4 hl4 eL4 g4 hk hp hn eD e4 hD hp3 eL hl3 g3 kn
      -- the summary
      walk_at "g"
      refine ⟨l, us, b, rfl, hl5, h60, hom, fun x H6 e6 so => ?_⟩
      have st : St cS us ls l L x H6 := ⟨e6 _ _ hl5, e6 _ _ eL5, hk3, hp5.sm e6, so⟩
      have g6 := g5.sm e6
      clear hl5 eL5 hp5 so g5 e6
      have ok := ok_of us
      walk_at "g"
      refine sum_at st.sum (fun _ _ _ _ => no_shown) ?_
      refine ⟨x, _, rfl, st.sum, fun ps H7 e7 sh => ?_⟩
      have st7 := st.sm e7
      have g7 := g6.sm e7
      walk_at "g"
      refine ⟨l, _, rfl, .inl (SqL.of st7.vals), ?_⟩
      walk_at "g"
      refine ⟨l, _, rfl, .inl (SqL.of st7.vals), ?_⟩
      walk_at "g"
      refine ⟨L, _, rfl, .inl (SqL.of st7.kn), ?_⟩
      walk_at "g"
      refine ⟨L, ls, rfl, st7.kn, by omega, fun pb H8 e8 eb => ?_⟩
      have sh8 := sh.sm e8
      have st8 := st7.sm e8
      have g8 := g7.sm e8
      have hn3' : (ls.map fun p => V.ref p.1).length = (known us).length := by rw [List.length_map, hn3]
      have hu' : (us.map vV).length = us.length := List.length_map ..
      rw [hn3', hu']
      walk_at "g"
      intro T hT
      have e9 := same_new hT (.tup [.int (us.length : Int), .int ((us.length : Int) - ((known us).length : Int)), .int ((nuq (known us) : Nat) : Int), .ref pb])
      have eT : (upd H8 T (.tup [.int (us.length : Int), .int ((us.length : Int) - ((known us).length : Int)), .int ((nuq (known us) : Nat) : Int), .ref pb])) T = some (.tup [.int (us.length : Int), .int ((us.length : Int) - ((known us).length : Int)), .int ((nuq (known us) : Nat) : Int), .ref pb]) := upd_same
      generalize upd H8 T (.tup [.int (us.length : Int), .int ((us.length : Int) - ((known us).length : Int)), .int ((nuq (known us) : Nat) : Int), .ref pb]) = H9 at e9 eT
      have st9 := st8.sm e9
      have g9 := g8.sm e9
      obtain ⟨b9, ks9, h91, h92, h93, h94⟩ := sh8.sm e9
      have sndB : (bndP ls (min 8 ls.length)).map (·.2) = (sumOf us).bs := by rw [bndP_snd, hk3]; rfl
      refine w_neSame (SqT.of h91) (SqT.of eT) (sh_dp rfl rfl rfl h92 h93 h94) (sh_dp rfl rfl rfl (e9 _ _ eb) sndB (fun p hp => st9.prs p (bndP_in (Nat.le_refl _) hp))) (fine_S h93 h94) (by decide) ?_
      clear h91 h92 h93 h94 sndB eT eb sh8 st8 g8 st7 g7 sh e9 e8 e7 hT g6 st
      walk_at "g"
      -- the share
      refine w_ifK (fun y H' => y = .int (eqR (sumOf us)) ∧ H' = H9) (fun c R hR => ?_) (fun c R hR => ?_) ?_
      · walk_at "g"
        exact hR _ _ ⟨by rw [eqR_0 (by omega)], rfl⟩
      · walk_at "g"
        refine ⟨L, _, rfl, .inl (SqL.of st9.kn), ?_⟩
        rw [hn3']
        walk_at "g"
        have c2 : nuq (known us) ≠ 0 := by omega
        have le := nuq_le (known us)
        refine ⟨_, _, _, _, rfl, rgc_up (by omega) (by omega) (by omega), ?_, hR _ _ ⟨by rw [eqR_up c2], rfl⟩⟩
        have := Nat.div_le_self ((known us).length + nuq (known us) - 1) (nuq (known us))
        omega
      rintro y H' ⟨rfl, e⟩
      rw [e]
      clear e
      walk_at "g"
      refine sum_at st9.sum (fun _ _ _ _ => no_equal) ?_
      have dk := ok.dk
      refine ⟨x, _, rfl, st9.sum, ok.d0, by omega, ?_⟩
      walk_at "g"
      refine w_neQ rfl ?_
      walk_at "n"
      -- the values that are asked for
      refine Dq.w_ifV (fun y H' => ∃ bb T, y = .ref T ∧ H' T = some (.lst ((asks bb).map vV)) ∧ Same H9 H') (fun R hR => ?_) ?_
      · have num : ∀ H', Same H9 H' → ∀ T, H' T = none → R (.ref T) (upd H' T (.lst [.int (0 - 1), .int 0, .int 3, .int 7, .int 30])) := fun H' e T hT => hR _ _ ⟨false, T, rfl, upd_same, e.trans (same_new hT _)⟩
        walk_at "g"
        intro Z hZ
        have e10 := same_new hZ (.lst [])
        have eZ : (upd H9 Z (.lst [])) Z = some (.lst []) := upd_same
        generalize upd H9 Z (.lst []) = H10 at e10 eZ
        have st10 := st9.sm e10
        refine w_eqEmptyL st10.kn eZ st10.prs ?_
        walk_at "g"
        refine w_iteD (fun c => ?_) (fun c => ?_)
        · walk_at "g"
          exact num H10 e10
        · obtain ⟨p0, r0, rfl⟩ : ∃ p r, ls = p :: r := by
            cases ls with
            | nil => exact absurd rfl c
            | cons p r => exact ⟨p, r, rfl⟩
          have hp0 := (st10.prs p0 List.mem_cons_self).1
          have kn10 := st10.kn
          rw [List.map_cons] at kn10
          walk_at "g"
          refine w_ixL kn10 (show atI _ ((0 : Nat) : Int) = _ from atI_nat rfl) ?_
          walk_at "g"
          rw [rkV_eq] at hp0
          refine ⟨_, _, _, _, rfl, rfl, SqT.of hp0, rfl, ?_⟩
          walk_at "g"
          refine w_iteD (fun c => ?_) (fun c => ?_)
          · walk_at "g"
            exact num H10 e10
          · walk_at "g"
            intro T hT
            exact hR _ _ ⟨true, T, rfl, by rw [upd_same, lit_e, lit_a, lit_b, lit_bb, lit_z]; rfl, e10.trans (same_new hT _)⟩
      rintro y H10 ⟨bb, T, rfl, eT, e10⟩
      have st10 := st9.sm e10
      have g10 := g9.sm e10
      clear st9 g9 e10
      have al := asks_len bb
      walk_at "g"
      refine w_forL (SqL.of eT) (fun i σ H => Same H10 H ∧ ∃ w4 w6 w10 w11 w12 w13 : Option V, σ = [some (.ref a), some (.ref d), some (.ref l), some (.ref L), w4, some (.int ((nuq (known us) : Nat) : Int)), w6, some (.ref x), some (.int (eqR (sumOf us))), some (.int (lst0 (sumOf us) bb i)), w10, w11, w12, w13, v14, v15, v16])
        ⟨fun _ _ h => h, _, _, _, _, _, _, rfl⟩ (fun i σ H _ h => SqL.of (h.1 _ _ eT)) ?_ ?_
      · rintro i z σ H11 hi ⟨e11, w4, w6, w10, w11, w12, w13, rfl⟩
        obtain ⟨v, hv, rfl⟩ := map_get hi
        have st11 := st10.sm e11
        have vn := asks_ok (List.mem_of_getElem? hv)
        have bb0 := blw_b ok v
        have ll := lst_le ok hv
        obtain ⟨dx, bA, ks, hx, hb, hk, hp⟩ := st11.sum
        walk_at "g"
        refine w_lcTn (SqT.of hb) fun D hD => ⟨fun i H3 => ∃ ys : List V, Same H11 H3 ∧ H3 D = some (.lst ys) ∧ ys.length = M28.cnt ((ks.take i).map (·.2)) v, ⟨[], same_new hD _, upd_same, rfl⟩, fun i H3 _ ⟨ys, e, _⟩ => SqT.of (e _ _ hb), ?_, ?_⟩
        · rintro j z H3 hj ⟨ys, e3, eD, el⟩
          obtain ⟨p2, hp2, rfl⟩ := map_get hj
          have pin := List.mem_of_getElem? hp2
          walk_at "g"
          refine ⟨rfl, ?_⟩
          walk_at "g"
          refine ⟨v, rfl, fun R hR => ?_⟩
          have s4 := same_new hR (.tup (rkV v))
          have eR : (upd H3 R (.tup (rkV v))) R = some (.tup (rkV v)) := upd_same
          generalize upd H3 R (.tup (rkV v)) = H4 at s4 eR
          have e4 := e3.trans s4
          have eD4 := s4 _ _ eD
          refine ⟨p2.1, R, p2.2, v, rfl, rfl, SqT.of (e4 _ _ (hp p2 pin).1), SqT.of eR, ?_⟩
          walk_at "g"
          have ct := cnt_take hp2 v
          refine w_ite (fun c => ?_) (fun c => ?_)
          · rw [if_pos c] at ct
            walk_at "g"
            have := M28.cnt_le ((ks.take j).map (·.2)) v
            have h8 : ks.length ≤ 8 := by
              have := ok.bl
              rw [← hk, List.length_map] at this
              omega
            rw [List.length_map, List.length_take] at this
            exact ⟨ys, eD4, Nat.lt_of_lt_of_le (by omega : ys.length < 2000) (by decide), ys ++ [_], same_upd e4 hD, upd_same, by rw [List.length_append, el, ct]; rfl⟩
          · rw [if_neg (by rw [c]; decide)] at ct
            exact ⟨ys, e4, eD4, by rw [el, ct]; rfl⟩
        rintro H12 ⟨ys, e12, eD, el⟩
        rw [List.length_map, List.take_length, hk] at el
        have st12 := st11.sm e12
        have e1012 := e11.trans e12
        have hx12 := e12 _ _ hx
        have hb12 := e12 _ _ hb
        have hp12 := hp.sm e12
        clear hx hb hp st11
        walk_at "n"
        refine ⟨D, ys, rfl, .inl (SqL.of eD), ?_⟩
        rw [el]
        walk_at "n"
        refine Dq.w_ifV (fun y H' => y = .int (blw (sumOf us) v) ∧ Same H12 H') (fun R hR => ?_) ?_
        · walk_at "g"
          intro T2 hT2
          have s1 := same_new hT2 (.tup [])
          have eT2 : (upd H12 T2 (.tup [])) T2 = some (.tup []) := upd_same
          generalize upd H12 T2 (.tup []) = H13 at s1 eT2
          refine w_eqEmpty (s1 _ _ hb12) eT2 (hp12.sm s1) ?_
          have hx13 := s1 _ _ hx12
          have hb13 := s1 _ _ hb12
          unfold blw at hR
          walk_at "g"
          refine w_iteD (fun c => ?_) (fun c => ?_)
          · walk_at "g"
            have c2 : (sumOf us).bs = [] := by rw [← hk, c]; rfl
            rw [if_pos c2] at hR
            exact hR _ _ ⟨rfl, s1⟩
          · have c2 : ¬ (sumOf us).bs = [] := fun z => c (List.map_eq_nil_iff.mp (hk.trans z))
            rw [if_neg c2, ok.kn] at hR
            walk_at "g"
            refine ⟨L, _, rfl, .inl (SqL.of (s1 _ _ st12.kn)), ?_⟩
            rw [hn3']
            walk_at "g"
            have := M28.cnt_le (sumOf us).bs v
            have h8 := ok.bl
            refine w_mul (Or.inr ⟨by omega, by omega⟩) ?_
            walk_at "g"
            refine ⟨bA, _, rfl, .inr (SqT.of hb13), ?_⟩
            rw [List.length_map, show ks.length = (sumOf us).bs.length by rw [← hk, List.length_map]]
            have : 0 < (sumOf us).bs.length := List.length_pos_iff.mpr c2
            walk_at "g"
            exact hR _ _ ⟨rfl, s1⟩
        rintro y H13 ⟨rfl, e13⟩
        have st13 := st12.sm e13
        have e1013 := e1012.trans e13
        clear hx12 hb12 hp12 st12 eD
        have bl8 : (sumOf us).bs.length ≤ 1000 := by have := ok.bl; omega
        walk_at "g"
        refine sum_at st13.sum (fun _ _ _ _ => no_below) ?_
        walk_at "g"
        refine ⟨x, _, v, rfl, st13.sum, bl8, fun H14 e14 => ?_⟩
        have st14 := st13.sm e14
        walk_at "g"
        refine w_neQ rfl ?_
        walk_at "g"
        refine w_iteD (fun c => absurd c (by omega)) (fun _ => ?_)
        walk_at "g"
        refine sum_at st14.sum (fun _ _ _ _ => no_range) ?_
        walk_at "g"
        refine ⟨x, _, v, .non, rfl, st14.sum, bl8, fun H15 e15 => ?_⟩
        have st15 := st14.sm e15
        walk_at "g"
        refine ⟨L, _, rfl, .inl (SqL.of st15.kn), ?_⟩
        rw [hn3']
        walk_at "g"
        refine w_neQ (rng_up ok vn) ?_
        walk_at "g"
        refine sum_at st15.sum (fun _ _ _ _ => no_range) ?_
        walk_at "g"
        refine ⟨x, _, .non, v, rfl, st15.sum, bl8, fun H16 e16 => ?_⟩
        have st16 := st15.sm e16
        walk_at "g"
        refine w_neQ (rng_to ok vn) ?_
        walk_at "g"
        refine sum_at st16.sum (fun _ _ _ _ => no_range) ?_
        walk_at "g"
        refine ⟨x, _, v, v, rfl, st16.sum, bl8, fun H17 e17 => ?_⟩
        have st17 := st16.sm e17
        have e1017 := (((e1013.trans e14).trans e15).trans e16).trans e17
        clear e14 e15 e16 e17 st13 st14 st15 st16 e1013
        walk_at "g"
        refine w_neQ (rng_self vn) ?_
        walk_at "g"
        intro G hG
        have eG : (upd H17 G (.lst [.str (Str.ofString "="), .str (Str.ofString "<"), .str (Str.ofString "<="), .str (Str.ofString ">"), .str (Str.ofString ">=")])) G = some (.lst (sgs.map fun g => V.str (S g))) := by rw [upd_same, sgs_lit]
        have s18 := same_new hG (.lst [.str (Str.ofString "="), .str (Str.ofString "<"), .str (Str.ofString "<="), .str (Str.ofString ">"), .str (Str.ofString ">=")])
        generalize upd H17 G (.lst [.str (Str.ofString "="), .str (Str.ofString "<"), .str (Str.ofString "<="), .str (Str.ofString ">"), .str (Str.ofString ">=")]) = H18 at s18 eG
        have st18 := st17.sm s18
        have e1018 := e1017.trans s18
        clear st17 e1017 s18
        have n0 := ok.n0
        have kn0 := ok.kn
        have hr60 : (sumOf us).r = us.length := rfl
        refine w_forL (SqL.of eG) (fun j σ H => Same H18 H ∧ ∃ u6 u12 u13 : Option V, σ = [some (.ref a), some (.ref d), some (.ref l), some (.ref L), some (vV v), some (.int ((nuq (known us) : Nat) : Int)), u6, some (.ref x), some (.int (eqR (sumOf us))), some (.int (blw (sumOf us) v)), some (.int (M28.cnt (sumOf us).bs v : Nat)), some (.int (blw (sumOf us) v)), u12, u13, v14, v15, v16])
          ⟨fun _ _ h => h, _, _, _, rfl⟩ (fun i σ H _ h => SqL.of (h.1 _ _ eG)) ?_ ?_
        · rintro j z σ H19 hj ⟨e19, u6, u12, u13, rfl⟩
          obtain ⟨gg, hgg, rfl⟩ := map_get hj
          have st19 := st18.sm e19
          walk_at "g"
          refine ⟨l, _, rfl, .inl (SqL.of st19.vals), ?_⟩
          rw [hu']
          walk_at "g"
          intro M hM
          have s20 := same_new hM (.lst [.int 0, .int (us.length : Int), .int 100])
          have eM : (upd H19 M (.lst [.int 0, .int (us.length : Int), .int 100])) M = some (.lst (([0, (us.length : Int), 100] : List Int).map V.int)) := upd_same
          generalize upd H19 M (.lst [.int 0, .int (us.length : Int), .int 100]) = H20 at s20 eM
          have e1820 := e19.trans s20
          refine w_forL (SqL.of eM) (fun j σ H => Same H20 H ∧ ∃ t6 t13 : Option V, σ = [some (.ref a), some (.ref d), some (.ref l), some (.ref L), some (vV v), some (.int ((nuq (known us) : Nat) : Int)), t6, some (.ref x), some (.int (eqR (sumOf us))), some (.int (blw (sumOf us) v)), some (.int (M28.cnt (sumOf us).bs v : Nat)), some (.int (blw (sumOf us) v)), some (.str (S gg)), t13, v14, v15, v16])
            ⟨fun _ _ h => h, _, _, rfl⟩ (fun i σ H _ h => SqL.of (h.1 _ _ eM)) ?_ ?_
          · rintro k z σ H21 hk2 ⟨e21, t6, t13, rfl⟩
            obtain ⟨m, hm, rfl⟩ := map_get hk2
            have mb : 0 ≤ m ∧ m ≤ 100 := by
              have := List.mem_of_getElem? hm
              simp only [List.mem_cons, List.not_mem_nil, or_false] at this
              omega
            have st21 := st18.sm (e1820.trans e21)
            have sb := share_b ok gg v mb.1
            walk_at "g"
            intro A1 hA1
            have s22 := same_new hA1 (.lst [.ref x])
            have eA1 : (upd H21 A1 (.lst [.ref x])) A1 = some (.lst [.ref x]) := upd_same
            generalize upd H21 A1 (.lst [.ref x]) = H22 at s22 eA1
            walk_at "g"
            intro A2 hA2
            have s23 := same_new hA2 (.tup [.int 0, .str (S gg), vV v])
            have eA2 : (upd H22 A2 (.tup [.int 0, .str (S gg), vV v])) A2 = some (.tup [.int 0, .str (S gg), vV v]) := upd_same
            generalize upd H22 A2 (.tup [.int 0, .str (S gg), vV v]) = H23 at s23 eA2
            walk_at "g"
            intro A3 hA3
            have s24 := same_new hA3 (.lst [.ref A2])
            have eA3 : (upd H23 A3 (.lst [.ref A2])) A3 = some (.lst [.ref A2]) := upd_same
            generalize upd H23 A3 (.lst [.ref A2]) = H24 at s24 eA3
            have e2124 := (s22.trans s23).trans s24
            have st24 := st21.sm e2124
            walk_at "g"
            refine ⟨A1, A3, x, m, _, rfl, (s23.trans s24) _ _ eA1, st24.sum, bl8, ok.d0, by omega, by omega, by omega, mb.1, by omega, .inr ⟨A2, gg, v, eA3, s24 _ _ eA2, fun H25 e25 => ?_⟩⟩
            walk_at "g"
            rw [decide_eq_true sb.1]
            walk_at "g"
            rw [decide_eq_true sb.2]
            walk_at "g"
            refine w_iteF ?_
            walk_at "g"
            exact ⟨(e21.trans e2124).trans e25, _, _, rfl⟩
          · rintro σ H21 ⟨e21, t6, t13, rfl⟩
            exact ⟨e1820.trans e21, _, _, _, rfl⟩
        · rintro σ H19 ⟨e19, u6, u12, u13, rfl⟩
          have st19 := st18.sm e19
          have e1019 := e1018.trans e19
          walk_at "g"
          intro A1 hA1
          have s22 := same_new hA1 (.lst [.ref x])
          have eA1 : (upd H19 A1 (.lst [.ref x])) A1 = some (.lst [.ref x]) := upd_same
          generalize upd H19 A1 (.lst [.ref x]) = H22 at s22 eA1
          walk_at "g"
          intro A2 hA2
          have s23 := same_new hA2 (.tup [.int 0, .str (Str.ofString "="), .non])
          have eA2 : (upd H22 A2 (.tup [.int 0, .str (Str.ofString "="), .non])) A2 = some (.tup [.int 0, .str (S [61]), vV .non]) := by rw [upd_same, show (Str.ofString "=") = S [61] by decide +kernel]; rfl
          generalize upd H22 A2 (.tup [.int 0, .str (Str.ofString "="), .non]) = H23 at s23 eA2
          walk_at "g"
          intro A3 hA3
          have s24 := same_new hA3 (.lst [.ref A2])
          have eA3 : (upd H23 A3 (.lst [.ref A2])) A3 = some (.lst [.ref A2]) := upd_same
          generalize upd H23 A3 (.lst [.ref A2]) = H24 at s24 eA3
          have e1924 := (s22.trans s23).trans s24
          have st24 := st19.sm e1924
          walk_at "g"
          refine ⟨A1, A3, x, 9, _, rfl, (s23.trans s24) _ _ eA1, st24.sum, bl8, ok.d0, by omega, by omega, by omega, by decide, by decide, .inr ⟨A2, [61], .non, eA3, s24 _ _ eA2, fun H25 e25 => ?_⟩⟩
          have st25 := st24.sm e25
          walk_at "g"
          refine w_neQ (by unfold share1; rw [if_pos rfl]) ?_
          walk_at "g"
          intro B1 hB1
          have s26 := same_new hB1 (.lst [.ref x])
          have eB1 : (upd H25 B1 (.lst [.ref x])) B1 = some (.lst [.ref x]) := upd_same
          generalize upd H25 B1 (.lst [.ref x]) = H26 at s26 eB1
          walk_at "g"
          intro B2 hB2
          have s27 := same_new hB2 (.lst [])
          have eB2 : (upd H26 B2 (.lst [])) B2 = some (.lst []) := upd_same
          generalize upd H26 B2 (.lst []) = H27 at s27 eB2
          have st27 := (st25.sm s26).sm s27
          walk_at "g"
          refine ⟨B1, B2, x, 9, _, rfl, s27 _ _ eB1, st27.sum, bl8, ok.d0, by omega, by omega, by omega, by decide, by decide, .inl ⟨eB2, fun H28 e28 => ?_⟩⟩
          walk_at "g"
          refine w_neQ rfl ?_
          walk_at "g"
          have lk : lst0 (sumOf us) bb (i + 1) = blw (sumOf us) v := by
            show blw (sumOf us) ((asks bb).getD i .non) = _
            rw [List.getD_eq_getElem?_getD, hv]
            rfl
          exact ⟨((((e1019.trans e1924).trans e25).trans s26).trans s27).trans e28, some (vV v), u6, some (.int (M28.cnt (sumOf us).bs v : Nat)), some (.int (blw (sumOf us) v)), u12, u13, by rw [lk]⟩
      · rintro σ H11 ⟨e11, w4, w6, w10, w11, w12, w13, rfl⟩
        have st11 := st10.sm e11
        have g11 := g10.sm e11
        clear st10 g10 e11 eT
        walk_at "g"
        refine w_lcEn (SqL.of st11.vals) fun D hD => ⟨fun i H' => ∃ ts : List Addr, ts.length = i ∧ Same H11 H' ∧ H' D = some (.lst (ts.map V.ref)) ∧ Paired (fun t u => H' t = some (.tup [vV u.1, vV u.2])) ts ((prs us).take i), ⟨[], rfl, same_new hD _, upd_same, .nil⟩, fun i H' _ ⟨ts, _, e, _⟩ => SqL.of (e _ _ st11.vals), ?_, ?_⟩
        · rintro i z T2 H' hi ⟨ts, rfl, e', eD, hP⟩ hT2
          obtain ⟨v, hv, rfl⟩ := map_get hi
          have hlt : ts.length < us.length := (List.getElem?_eq_some_iff.mp hv).1
          have s1 := same_new hT2 (.tup [.int (ts.length : Nat), vV v])
          have eT2 : (upd H' T2 (.tup [.int (ts.length : Nat), vV v])) T2 = some (.tup [.int (ts.length : Nat), vV v]) := upd_same
          generalize upd H' T2 (.tup [.int (ts.length : Nat), vV v]) = H12 at s1 eT2
          walk_at "g"
          refine ⟨rfl, ?_⟩
          walk_at "g"
          intro T3 hT3
          have s2 := same_new hT3 (.tup [vV v, .int (ts.length : Nat)])
          have eT3 : (upd H12 T3 (.tup [vV v, .int (ts.length : Nat)])) T3 = some (.tup [vV v, .int (ts.length : Nat)]) := upd_same
          generalize upd H12 T3 (.tup [vV v, .int (ts.length : Nat)]) = H13 at s2 eT3
          have e13 := (e'.trans s1).trans s2
          have eD13 := (s1.trans s2) _ _ eD
          refine ⟨_, eD13, by rw [List.length_map]; exact Nat.lt_of_lt_of_le (by omega : ts.length < 100) (by decide), ts ++ [T3], by simp, same_upd e13 hD, by rw [upd_same, List.map_append]; rfl, ?_⟩
          rw [List.take_add_one, prs_get hv]
          refine Paired.snoc (Paired.mapP hP fun t u h => tup_wr ((s1.trans s2) _ _ h) eD13) (tup_wr eT3 eD13)
        rintro H12 ⟨ts, htl, e12, eD, hP⟩
        rw [List.length_map] at htl
        rw [List.length_map, show us.length = (prs us).length from (prs_len us).symm, List.take_length] at hP
        have st12 := st11.sm e12
        have g12 := g11.sm e12
        clear st11 g11 hD
        walk_at "g"
        refine ⟨D, ts, prs us, b, false, rfl, eD, hP, by rw [prs_len]; exact h60, by rw [prs_fst]; exact hom, by rw [prs_snd]; exact nums_hom _, fun pt xA xB H13 e13 sA sB ep => ?_⟩
        rw [prs_fst] at sA
        rw [prs_snd] at sB
        have st13 := st12.sm e13
        have g13 := g12.sm e13
        walk_at "g"
        refine ⟨pt, _, rfl, .inr (SqT.of ep), ?_⟩
        walk_at "g"
        refine w_neQ rfl ?_
        walk_at "g"
        refine ⟨pt, _, _, _, rfl, rfl, SqT.of ep, (show atI _ ((0 : Nat) : Int) = _ from atI_nat rfl), ?_⟩
        refine sum_at sA (fun _ _ _ _ => no_shown) ?_
        refine ⟨xA, _, rfl, sA, fun pA H14 e14 shA => ?_⟩
        have st14 := st13.sm e14
        walk_at "g"
        refine sum_at st14.sum (fun _ _ _ _ => no_shown) ?_
        refine ⟨x, _, rfl, st14.sum, fun pB H15 e15 shB => ?_⟩
        have e1315 := e14.trans e15
        have st15 := st13.sm e1315
        have g15 := g13.sm e1315
        obtain ⟨bA, ksA, a1, a2, a3, a4⟩ := shA.sm e15
        obtain ⟨bB, ksB, c1, c2, c3, c4⟩ := shB
        refine w_neSame (SqT.of a1) (SqT.of c1) (sh_dp rfl rfl rfl a2 a3 a4) (sh_dp rfl rfl rfl c2 c3 c4) (fine_S a3 a4) (by decide) ?_
        walk_at "g"
        refine ⟨pt, _, _, _, rfl, rfl, SqT.of (e1315 _ _ ep), (show atI _ ((1 : Nat) : Int) = _ from atI_nat rfl), ?_⟩
        obtain ⟨dB, bB2, ksB2, hB, _⟩ := sB.sm e1315
        refine ⟨xB, cS, dB, _, _, rfl, hB, W.s_cl, W.s_different, l_3, ?_⟩
        rw [nums_d]
        walk_at "g"
        refine ⟨l, _, rfl, .inl (SqL.of st15.vals), ?_⟩
        rw [hu']
        walk_at "g"
        refine w_neQ rfl ?_
        walk_at "g"
        refine ⟨l, _, rfl, .inl (SqL.of st15.vals), ?_⟩
        rw [hu']
        walk_at "g"
        refine w_iteD (fun c => ?_) (fun c => ?_)
        · have n0 := ok.n0
          have kn0 := ok.kn
          have hr60 : (sumOf us).r = us.length := rfl
          have bl8 : (sumOf us).bs.length ≤ 1000 := by have := ok.bl; omega
          walk_at "g"
          intro A1 hA1
          have s22 := same_new hA1 (.lst [.ref x])
          have eA1 : (upd H15 A1 (.lst [.ref x])) A1 = some (.lst [.ref x]) := upd_same
          generalize upd H15 A1 (.lst [.ref x]) = H22 at s22 eA1
          walk_at "g"
          intro A2 hA2
          have s23 := same_new hA2 (.tup [.int 0, .str (Str.ofString "="), .int 3])
          have eA2 : (upd H22 A2 (.tup [.int 0, .str (Str.ofString "="), .int 3])) A2 = some (.tup [.int 0, .str (S [61]), vV (.num 3)]) := by rw [upd_same, show (Str.ofString "=") = S [61] by decide +kernel]; rfl
          generalize upd H22 A2 (.tup [.int 0, .str (Str.ofString "="), .int 3]) = H23 at s23 eA2
          walk_at "g"
          intro A3 hA3
          have s24 := same_new hA3 (.lst [.ref A2])
          have eA3 : (upd H23 A3 (.lst [.ref A2])) A3 = some (.lst [.ref A2]) := upd_same
          generalize upd H23 A3 (.lst [.ref A2]) = H24 at s24 eA3
          have e1524 := (s22.trans s23).trans s24
          have st24 := st15.sm e1524
          walk_at "g"
          refine ⟨l, _, rfl, .inl (SqL.of st24.vals), ?_⟩
          rw [hu']
          walk_at "g"
          refine ⟨A1, A3, x, _, _, rfl, (s23.trans s24) _ _ eA1, st24.sum, bl8, ok.d0, by omega, by omega, by omega, by omega, by omega, .inr ⟨A2, [61], .num 3, eA3, s24 _ _ eA2, fun H25 e25 => ?_⟩⟩
          have e1525 := e1524.trans e25
          walk_at "g"
          refine ⟨l, _, rfl, .inl (SqL.of ((st24.sm e25).vals)), ?_⟩
          rw [hu']
          walk_at "g"
          refine ⟨_, _, rfl, ?_⟩
          walk_at "g"
          refine w_neQ (share_own (by omega)) ?_
          walk_at "g"
          exact ⟨g15.sm e1525, _, _, _, _, _, _, _, _, _, _, _, _, _, _, _, _, rfl⟩
        · walk_at "g"
          exact ⟨g15, _, _, _, _, _, _, _, _, _, _, _, _, _, _, _, _, rfl⟩
  · rintro σ H2 ⟨g, v1, v2, v3, v4, v5, v6, v7, v8, v9, v10, v11, v12, v13, v14, v15, v16, rfl⟩
    have q2 : ∀ H', Q (.bl true) H' := q
    walk_at "g"
    intro T1 hT1
    have s1 := same_new hT1 (.tup [.int 1, .int 2])
    have eT1 : (upd H2 T1 (.tup [.int 1, .int 2])) T1 = some (.tup (rkV (.num 2))) := upd_same
    generalize upd H2 T1 (.tup [.int 1, .int 2]) = H3 at s1 eT1
    walk_at "g"
    intro T2 hT2
    have s2 := same_new hT2 (.tup [.ref T1])
    have eT2 : (upd H3 T2 (.tup [.ref T1])) T2 = some (.tup [.ref T1]) := upd_same
    have eT12 := s2 _ _ eT1
    generalize upd H3 T2 (.tup [.ref T1]) = H4 at s2 eT2 eT12
    walk_at "g"
    intro x dx hx hdx ne
    refine ⟨x, dx, T2, _, _, _, _, rfl, upd_same, .inr (by rw [upd_ne (ne_of_none eT2 hx), upd_ne (ne_of_none eT2 hdx)]; exact eT2), fun b H5 keep hx5 hb5 => ⟨rfl, ?_⟩⟩
    have eT15 := keep T1 _ (ne_of_none eT12 hx) (by rw [upd_ne (ne_of_none eT12 hx), upd_ne (ne_of_none eT12 hdx)]; exact eT12)
    have so : SumO cS H5 x ⟨4, 1, 3, [.num 2]⟩ := ⟨dx, b, [(T1, .num 2)], hx5, hb5, rfl, fun p hp => by rw [List.mem_singleton.mp hp]; exact ⟨eT15, trivial⟩⟩
    refine sum_at so (fun _ _ _ _ => no_equal) ?_
    refine ⟨x, _, rfl, so, by decide, by decide, ?_⟩
    walk_at "g"
    rw [decide_eq_true (by decide +kernel)]
    walk_at "g"
    intro T3 hT3
    have eT3 : (upd H5 T3 (.tup [])) T3 = some (.tup []) := upd_same
    generalize upd H5 T3 (.tup []) = H6 at eT3
    walk_at "g"
    intro x2 dx2 hx2 hdx2 ne2
    refine ⟨x2, dx2, T3, _, _, _, _, rfl, upd_same, .inr (by rw [upd_ne (ne_of_none eT3 hx2), upd_ne (ne_of_none eT3 hdx2)]; exact eT3), fun b2 H7 keep2 hx7 hb7 => ⟨rfl, ?_⟩⟩
    have so2 : SumO cS H7 x2 ⟨0, 0, 0, []⟩ := ⟨dx2, b2, [], hx7, hb7, rfl, fun p hp => by cases hp⟩
    refine sum_at so2 (fun _ _ _ _ => no_below) ?_
    walk_at "g"
    refine ⟨x2, _, .num 5, rfl, so2, by decide, fun H8 _ => ?_⟩
    walk_at "g"
    rw [decide_eq_true (by decide +kernel)]
    exact q2 H8
end
end K28
end

section
-- part K28XI0
set_option Elab.async false
set_option linter.all false
set_option maxRecDepth 100000
set_option maxHeartbeats 0
namespace K28
open PySem PySem.Spec PyProof.Rows L2 Fw Dc Gk M28 Fpr M5
def fnD : List He.DefD := [⟨("rank", none), "rank", "rank", defArgs s_rank, defBody s_rank, defScope s_rank, [], []⟩,
  ⟨("summarize", none), "summarize", "summarize", defArgs s_summarize, defBody s_summarize, defScope s_summarize, [], []⟩,
  ⟨("summarize_rows", none), "summarize_rows", "summarize_rows", defArgs s_summarize_rows, defBody s_summarize_rows, defScope s_summarize_rows, [], []⟩,
  ⟨("expected_share", none), "expected_share", "expected_share", defArgs s_expected_share, defBody s_expected_share, defScope s_expected_share, [], []⟩,
  ⟨("asked_rows", none), "asked_rows", "asked_rows", defArgs s_asked_rows, defBody s_asked_rows, defScope s_asked_rows, [], []⟩,
  ⟨("_law_dice", none), "_law_dice", "_law_dice", defArgs s__law_dice, defBody s__law_dice, defScope s__law_dice, [], []⟩,
  ⟨("_law_roll", none), "_law_roll", "_law_roll", defArgs s__law_roll, defBody s__law_roll, defScope s__law_roll, [], []⟩,
  ⟨("_law_rounds", none), "_law_rounds", "_law_rounds", defArgs s__law_rounds, defBody s__law_rounds, defScope s__law_rounds, [], []⟩,
  ⟨("_law_values", none), "_law_values", "_law_values", defArgs s__law_values, defBody s__law_values, defScope s__law_values, [], []⟩,
  ⟨("_law_bounds", none), "_law_bounds", "_law_bounds", defArgs s__law_bounds, defBody s__law_bounds, defScope s__law_bounds, [], []⟩,
  ⟨("law", none), "law", "law", defArgs s_law, defBody s_law, defScope s_law, [], []⟩,
  ⟨("Summary", some "__init__"), "__init__", "Summary.__init__", defArgs s_Summary___init__, defBody s_Summary___init__, defScope s_Summary___init__, [], []⟩,
  ⟨("Summary", some "shown"), "shown", "Summary.shown", defArgs s_Summary_shown, defBody s_Summary_shown, defScope s_Summary_shown, [], []⟩,
  ⟨("Summary", some "equal_rows"), "equal_rows", "Summary.equal_rows", defArgs s_Summary_equal_rows, defBody s_Summary_equal_rows, defScope s_Summary_equal_rows, [], []⟩,
  ⟨("Summary", some "below_rows"), "below_rows", "Summary.below_rows", defArgs s_Summary_below_rows, defBody s_Summary_below_rows, defScope s_Summary_below_rows, [], []⟩,
  ⟨("Summary", some "range_rows"), "range_rows", "Summary.range_rows", defArgs s_Summary_range_rows, defBody s_Summary_range_rows, defScope s_Summary_range_rows, [], []⟩]
def faD : List He.Fa := [.glo "rank", .glo "summarize", .glo "summarize_rows", .glo "expected_share", .glo "asked_rows", .glo "_law_dice", .glo "_law_roll", .glo "_law_rounds", .glo "_law_values", .glo "_law_bounds", .glo "law", .glo "Summary", .free "abs", .free "int", .free "str", .free "len", .free "range", .free "tuple", .free "isinstance", .free "max", .free "min", .free "sorted", .free "set", .free "dict", .free "enumerate", .int "MOST_PARTS" 8, .cls "Summary", .noat "Summary" "rows", .noat "Summary" "nulls", .noat "Summary" "different", .noat "Summary" "bounds", .meth "Summary" "shown", .meth "Summary" "equal_rows", .meth "Summary" "below_rows", .meth "Summary" "range_rows", .mkr "Summary"]
def exD (K : PySem.W.Frag) : Bool := true
abbrev tfD : List He.Defn := []
abbrev R0 : PySem.W.OpenRow := PySem.W.OpenLaw.row PySem.Challenge.rw_tablestack_k28_what_is_known_of_columns
abbrev hk0 : PySem.W.Hook := He.hookX 5 faD fnD [] tfD exD
def ob0 (s : PySem.W.SharedT) : He.AlX := He.obsX 5 faD fnD [] tfD exD (HandSHeadRun.getT s)
theorem ob0_eq (s : PySem.W.SharedT) : ob0 s = hk0.obs s.abs := He.obsX_eq (HandSHeadRun.getT_eq s)
def loose0 : List Str := [("Summary" : Str), ("MOST_PARTS" : Str), ("rank" : Str), ("summarize" : Str), ("summarize_rows" : Str), ("expected_share" : Str), ("asked_rows" : Str), ("_law_dice" : Str), ("_law_roll" : Str), ("_law_rounds" : Str), ("_law_values" : Str), ("_law_bounds" : Str)]
end K28
end

section
-- part K28XI
set_option Elab.async false
set_option linter.all false
set_option maxRecDepth 100000
set_option maxHeartbeats 2000000
namespace K28
open PySem PySem.Spec PyProof.Rows L2 Fw LamX Dc Gk M28 Fpr M5

theorem facts {w : World} {K : PySem.W.Frag} {h : Heap} {mg : Str → Option Value} (X : K.In h) (G : h.Ns mainGlobals mg) (c : He.SaysX faD fnD [] tfD exD w h K) :
    Wz K mg (He.ga K "Summary") := by
  have d := c.t.d
  have glo : ∀ {x : Str}, (He.Fa.glo x).ok K = true → mg x = some (.ref (He.ga K x)) := fun h => He.glo_ok X G h
  have fre : ∀ {x : Str}, (He.Fa.free x).ok K = true → mg x = none := fun h => He.free_ok X G h
  have it : ∀ {x : Str} {n : Int}, (He.Fa.int x n).ok K = true → Cin mg x n := fun h => by
    obtain ⟨t, e⟩ := He.int_ok X G h
    exact ⟨_, e, t, rfl⟩

  exact {
    s_cl := He.cls_ok (d.fact 26 (f := .cls "Summary") rfl)
    s_rows := He.noat_ok (d.fact 27 (f := .noat "Summary" "rows") rfl)
    s_nulls := He.noat_ok (d.fact 28 (f := .noat "Summary" "nulls") rfl)
    s_different := He.noat_ok (d.fact 29 (f := .noat "Summary" "different") rfl)
    s_bounds := He.noat_ok (d.fact 30 (f := .noat "Summary" "bounds") rfl)
    s_g := glo (d.fact 11 (f := .glo "Summary") rfl)
    s_i := by
      obtain ⟨fd, q⟩ := d.def_ 11 (d := ⟨("Summary", some "__init__"), "__init__", "Summary.__init__", defArgs s_Summary___init__, defBody s_Summary___init__, defScope s_Summary___init__, [], []⟩) rfl
      exact ⟨_, fd, q, He.mkr_ok (d.fact 35 (f := .mkr "Summary") rfl)⟩
    s_shown := by
      obtain ⟨fd, q⟩ := d.def_ 12 (d := ⟨("Summary", some "shown"), "shown", "Summary.shown", defArgs s_Summary_shown, defBody s_Summary_shown, defScope s_Summary_shown, [], []⟩) rfl
      exact ⟨_, fd, q, He.meth_ok (d.fact 31 (f := .meth "Summary" "shown") rfl)⟩
    s_equal_rows := by
      obtain ⟨fd, q⟩ := d.def_ 13 (d := ⟨("Summary", some "equal_rows"), "equal_rows", "Summary.equal_rows", defArgs s_Summary_equal_rows, defBody s_Summary_equal_rows, defScope s_Summary_equal_rows, [], []⟩) rfl
      exact ⟨_, fd, q, He.meth_ok (d.fact 32 (f := .meth "Summary" "equal_rows") rfl)⟩
    s_below_rows := by
      obtain ⟨fd, q⟩ := d.def_ 14 (d := ⟨("Summary", some "below_rows"), "below_rows", "Summary.below_rows", defArgs s_Summary_below_rows, defBody s_Summary_below_rows, defScope s_Summary_below_rows, [], []⟩) rfl
      exact ⟨_, fd, q, He.meth_ok (d.fact 33 (f := .meth "Summary" "below_rows") rfl)⟩
    s_range_rows := by
      obtain ⟨fd, q⟩ := d.def_ 15 (d := ⟨("Summary", some "range_rows"), "range_rows", "Summary.range_rows", defArgs s_Summary_range_rows, defBody s_Summary_range_rows, defScope s_Summary_range_rows, [], []⟩) rfl
      exact ⟨_, fd, q, He.meth_ok (d.fact 34 (f := .meth "Summary" "range_rows") rfl)⟩
    n_abs := fre (d.fact 12 (f := .free "abs") rfl)
    n_int := fre (d.fact 13 (f := .free "int") rfl)
    n_str := fre (d.fact 14 (f := .free "str") rfl)
    n_len := fre (d.fact 15 (f := .free "len") rfl)
    n_range := fre (d.fact 16 (f := .free "range") rfl)
    n_tuple := fre (d.fact 17 (f := .free "tuple") rfl)
    n_isinstance := fre (d.fact 18 (f := .free "isinstance") rfl)
    n_max := fre (d.fact 19 (f := .free "max") rfl)
    n_min := fre (d.fact 20 (f := .free "min") rfl)
    n_sorted := fre (d.fact 21 (f := .free "sorted") rfl)
    n_set := fre (d.fact 22 (f := .free "set") rfl)
    n_dict := fre (d.fact 23 (f := .free "dict") rfl)
    n_enumerate := fre (d.fact 24 (f := .free "enumerate") rfl)
    d_rank := by
      obtain ⟨fd, q⟩ := d.def_ 0 (d := ⟨("rank", none), "rank", "rank", defArgs s_rank, defBody s_rank, defScope s_rank, [], []⟩) rfl
      exact ⟨_, fd, q, glo (d.fact 0 (f := .glo "rank") rfl)⟩
    d_summarize := by
      obtain ⟨fd, q⟩ := d.def_ 1 (d := ⟨("summarize", none), "summarize", "summarize", defArgs s_summarize, defBody s_summarize, defScope s_summarize, [], []⟩) rfl
      exact ⟨_, fd, q, glo (d.fact 1 (f := .glo "summarize") rfl)⟩
    d_summarize_rows := by
      obtain ⟨fd, q⟩ := d.def_ 2 (d := ⟨("summarize_rows", none), "summarize_rows", "summarize_rows", defArgs s_summarize_rows, defBody s_summarize_rows, defScope s_summarize_rows, [], []⟩) rfl
      exact ⟨_, fd, q, glo (d.fact 2 (f := .glo "summarize_rows") rfl)⟩
    d_expected_share := by
      obtain ⟨fd, q⟩ := d.def_ 3 (d := ⟨("expected_share", none), "expected_share", "expected_share", defArgs s_expected_share, defBody s_expected_share, defScope s_expected_share, [], []⟩) rfl
      exact ⟨_, fd, q, glo (d.fact 3 (f := .glo "expected_share") rfl)⟩
    d_asked_rows := by
      obtain ⟨fd, q⟩ := d.def_ 4 (d := ⟨("asked_rows", none), "asked_rows", "asked_rows", defArgs s_asked_rows, defBody s_asked_rows, defScope s_asked_rows, [], []⟩) rfl
      exact ⟨_, fd, q, glo (d.fact 4 (f := .glo "asked_rows") rfl)⟩
    d__law_dice := by
      obtain ⟨fd, q⟩ := d.def_ 5 (d := ⟨("_law_dice", none), "_law_dice", "_law_dice", defArgs s__law_dice, defBody s__law_dice, defScope s__law_dice, [], []⟩) rfl
      exact ⟨_, fd, q, glo (d.fact 5 (f := .glo "_law_dice") rfl)⟩
    d__law_roll := by
      obtain ⟨fd, q⟩ := d.def_ 6 (d := ⟨("_law_roll", none), "_law_roll", "_law_roll", defArgs s__law_roll, defBody s__law_roll, defScope s__law_roll, [], []⟩) rfl
      exact ⟨_, fd, q, glo (d.fact 6 (f := .glo "_law_roll") rfl)⟩
    d__law_rounds := by
      obtain ⟨fd, q⟩ := d.def_ 7 (d := ⟨("_law_rounds", none), "_law_rounds", "_law_rounds", defArgs s__law_rounds, defBody s__law_rounds, defScope s__law_rounds, [], []⟩) rfl
      exact ⟨_, fd, q, glo (d.fact 7 (f := .glo "_law_rounds") rfl)⟩
    d__law_values := by
      obtain ⟨fd, q⟩ := d.def_ 8 (d := ⟨("_law_values", none), "_law_values", "_law_values", defArgs s__law_values, defBody s__law_values, defScope s__law_values, [], []⟩) rfl
      exact ⟨_, fd, q, glo (d.fact 8 (f := .glo "_law_values") rfl)⟩
    d__law_bounds := by
      obtain ⟨fd, q⟩ := d.def_ 9 (d := ⟨("_law_bounds", none), "_law_bounds", "_law_bounds", defArgs s__law_bounds, defBody s__law_bounds, defScope s__law_bounds, [], []⟩) rfl
      exact ⟨_, fd, q, glo (d.fact 9 (f := .glo "_law_bounds") rfl)⟩
    c_MOST_PARTS := it (d.fact 25 (f := .int "MOST_PARTS" 8) rfl)
  }
end K28
end

section
-- part K28XJ
set_option Elab.async false
set_option linter.all false
set_option maxRecDepth 100000
set_option maxHeartbeats 0
namespace K28
open PySem PySem.Spec PyProof.Rows L2 Fw Dc Gk M28 Fpr M5
theorem run0 (w : World) : HandSHeadRun.RunEq R0 (PySem.W.view R0.prog [15]) hk0 ob0 2000 loose0 w := by
  intro os
  kernel_rfl
end K28
end

section
-- part K28XK
set_option Elab.async false
set_option linter.all false
set_option maxRecDepth 100000
set_option maxHeartbeats 2000000
namespace K28
open PySem PySem.Spec PyProof.Rows L2 Fw LamX Dc Gk M28 Fpr M5
theorem law_at {w : World} {h : Heap} {K : PySem.W.Frag} {mg : Str → Option Value} {fa : Addr} (X : K.In h) (G : h.Ns mainGlobals mg) (hfa : mg ("law" : Str) = some (.ref fa)) (c : He.SaysX faD fnD [] tfD exD w h K) :
    LawAtS PySem.Challenge.rw_tablestack_k28_what_is_known_of_columns w K (L2.CX (PySem.Challenge.rw_tablestack_k28_what_is_known_of_columns).prog w) 7 63 "script" mg fa h := by
  have W := facts X G c
  have d := c.t.d
  obtain ⟨fd, F⟩ := d.defs (d := ⟨("law", none), "law", "law", defArgs s_law, defBody s_law, defScope s_law, [], []⟩) (by repeat (first | exact List.mem_cons_self | apply List.mem_cons_of_mem))
  have e := hfa.symm.trans (He.glo_ok X G (d.facts (f := .glo "law") (by repeat (first | exact List.mem_cons_self | apply List.mem_cons_of_mem))))
  cases e
  have b := FunD.bindsA (ps := ["script"]) F fun _ _ _ _ _ _ us hl => match us, hl with | [_], _ => rfl
  refine ⟨fd, tfD.map (He.cT K), spLaw K , ?_, ?_, ?_, fun s v => b s [v] rfl, fun H a ns hl _ hH hS => ?_, fun base hK hm hT => ?_⟩
  · intro p hp
    obtain ⟨q, hq, rfl⟩ := List.mem_map.mp hp
    exact c.empty q hq
  · intro p hp
    obtain ⟨q, hq, rfl⟩ := List.mem_map.mp hp
    exact c.out q hq
  · intro p hp
    obtain ⟨q, hq, rfl⟩ := List.mem_map.mp hp
    exact PySem.W.codeHd_of_K X (c.hd q hq)
  · exact ⟨a, ns, rfl, hS, hl, fun _ => rfl⟩

  · skip

    have roll := ok__law_roll (P := (PySem.Challenge.rw_tablestack_k28_what_is_known_of_columns).prog) (w := w) (base := base) W.toWl
    have dice := ok__law_dice (P := (PySem.Challenge.rw_tablestack_k28_what_is_known_of_columns).prog) (w := w) (base := base) W.toWl
    have rounds := ok__law_rounds W.toWl dice
    have rk := ok_rank (P := (PySem.Challenge.rw_tablestack_k28_what_is_known_of_columns).prog) (w := w) (base := base) W.toWs
    have ini := ok_ini (P := (PySem.Challenge.rw_tablestack_k28_what_is_known_of_columns).prog) (w := w) (base := base) W.toWs
    have sh := ok_shown (P := (PySem.Challenge.rw_tablestack_k28_what_is_known_of_columns).prog) (w := w) (base := base) W.toWs
    have eq := ok_eq (P := (PySem.Challenge.rw_tablestack_k28_what_is_known_of_columns).prog) (w := w) (base := base) W.toWs
    have bl := ok_below W.toWs rk
    have rg := ok_range W.toWs bl
    have ask := ok_asked W.toWs eq bl rg
    have shr := ok_share W.toWs ask
    have sm := ok_sum W.toWs rk ini
    have rows := ok_rows W.toWs sm
    have bn := ok_bnds (P := (PySem.Challenge.rw_tablestack_k28_what_is_known_of_columns).prog) (w := w) (base := base) W
    have vl := ok_vals W roll
    exact ok_law W F rounds vl bn rk sm rows shr ini sh eq bl rg
end K28
open PySem PySem.W PySem.Calls PyProof.Rows
theorem PySem.Challenge.cw_tablestack_k28_what_is_known_of_columns_holds : PySem.Challenge.rw_tablestack_k28_what_is_known_of_columns.Holds := by
  w_on; o_law
  refine HandSHeadRun.head_any (r := OpenLaw.row PySem.Challenge.rw_tablestack_k28_what_is_known_of_columns) (q := view (OpenLaw.row PySem.Challenge.rw_tablestack_k28_what_is_known_of_columns).prog [15]) (H := K28.hk0) (ob := K28.ob0) (M := 2000) (loose := K28.loose0) (d := HandSHeadRun.topDef (OpenLaw.row PySem.Challenge.rw_tablestack_k28_what_is_known_of_columns).prog 15) (kwd := []) K28.ob0_eq
    (by kernel_rfl) (fun s => by kernel_rfl) K28.run0 (by kernel_rfl) (by kernel_rfl) (by kernel_rfl) (by rfl) (by first | assumption | decide +kernel) (by decide +kernel) ⟨rfl, rfl, rfl, rfl, rfl, by decide +kernel⟩ ?hw ?hc
  case hw => w_witness2
  case hc =>
    refine LamX.walk_ofTsE (l := PySem.Challenge.rw_tablestack_k28_what_is_known_of_columns) (n := 63) (k := 7) (x := "script") (CX := fun w => L2.CX (PySem.Challenge.rw_tablestack_k28_what_is_known_of_columns).prog w) rfl (by decide) (by kernel_rfl) ⟨rfl, by decide, by decide⟩ ?F (fun _ _ _ _ _ z => by
      obtain ⟨_, _, _, _, _, _, _, _, _, _, _, _, z⟩ := z
      exact z)
    intro w mg fa h Y G hmg0
    obtain ⟨K, KX, c⟩ := Y
    have hmg : mg ("law" : PySem.Str) = some (.ref fa) := by
      have e : (HandSHeadRun.topDef (OpenLaw.row PySem.Challenge.rw_tablestack_k28_what_is_known_of_columns).prog 15).name = ("law" : PySem.Str) := by kernel_rfl
      rw [← e]
      exact hmg0
    exact ⟨K, KX, K28.law_at KX G hmg c⟩
end
