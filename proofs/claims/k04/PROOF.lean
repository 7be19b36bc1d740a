import PyProof.Rows.All
import Wide.All
import OpenK.AllK
import Wide.FinOn
import PyProof.EqAt
import PyProof.EqKinds
import PyProof.TupleCall
import KE.KLam
import HandS.ForMost
import HandS.Wide
import HandS.StrMore
import HandS.Replace
import HandS.FStr
import HandS.Exc
import HandS.ExcOwn
import HandS.TryMany
import HandS.WordsExc
import HandS.Small
import HandS.RaiseMore
import HandS.Deep
import HandS.DeepEq
import HandS.CallRecv
import HandS.Lambda
import HandS.EndBits
import HandS.EndTab
import HandS.HeadWalk
import HandS.Defaults
import HandS.Head0
import HandS.Head1
import HandS.Head2
import HandS.HeadHook1
import HandS.HeadHook2
import HandS.HeadHook3
import HandS.HeadHook4
import HandS.ReplaceLit
import HandS.Star
import HandS.Style
import HandS.IsInst
import HandS.TupAny
import HandS.TupMul
import PyProof.AutoSeq1
import KE.GoesMore
import KE.GoesEnum
import HandS.Zip
import PyProof.ListRange
import HandS.More
import HandS.RaiseFrom
import HandS.MapSum
import PyProof.CallType
import PyProof.RangeIter
import HandS.AnyAll
import HandS.Nested
import HandS.DictComp
import HandS.Walk
import HandS.Steps
import HandS.TupLe
import HandS.CallLocal
import HandS.SetBool
import HandS.Strs
import KE.DataMinKey
import HandS.SortKw
import HandS.Conv
import PySem.Challenge.RW_tablestack_k04_values_and_truths
section
-- part Fw
set_option Elab.async false
set_option linter.all false
set_option maxRecDepth 100000
set_option maxHeartbeats 2000000
/-! Fw: words of our own over the hand layer: a def that may be called by its name, what is kept of a heap, dice. -/
namespace Fw
open PySem PySem.Spec PyProof.Rows L2

/-- a def of the module that may be called by its name x; it may raise -/
structure Cl (P : Program) (w : World) (K : PySem.W.Frag) (mg : Str → Option Value) (base : Heap) (k : Nat) (x : Str) (sp : Sp) : Prop where
  ex : ∃ (f : Addr) (fd : FuncData) (ps : List Str), FnOk P w K mg base (L2.CX P w) k f fd ps sp ∧ mg x = some (.ref f) ∧ PySem.W.keepIn K (.ref f) = true ∧ Binds K fd ps []
abbrev FnP (K : PySem.W.Frag) (mg : Str → Option Value) (x : Str) (st : Stmt) : Prop := ∃ (f : Addr) (fd : FuncData), FunD K x x (defArgs st) (defBody st) (defScope st) [] [] f fd ∧ mg x = some (.ref f)
section
variable {P : Program} {w : World} {K : PySem.W.Frag} {mg : Str → Option Value} {base : Heap} {x : Str} {st : Stmt}
theorem cl_mk {N ps : List Str} {k : Nat} {sp : Sp} (F : FnP K mg x st) (S : FnScope N ps (defScope st))
    (b : ∀ (kV doc pm : Value) (an : Option Addr) (cdv ct : Value) (us : List Value), us.length = ps.length → bindArgs (PySem.W.fnOf x x (defArgs st) (defBody st) (defScope st) .none kV doc pm an cdv ct) ⟨us, []⟩ = pure (ps.zip us))
    (len : ∀ vs H Q E, sp vs H Q E → vs.length = ps.length)
    (hbody : ∀ (f : Addr) (cdv : Value) (A : Around) (outer : List Env) (s : Shared) (H : Hp) (vs : List V) (Q : VK) (E : XK), Room k (A.deeper (envOfC x (defScope st) s.heap.objs.size f cdv)) → sp vs H Q E →
      ∃ t, PSs (cxOf (L2.CX P w) P w K mg base N x (defScope st) f cdv A outer s H E) (defBody st) t ∧ t { nx := fun _ H' => Q .non H', rt := Q } (start N vs) H) : Cl P w K mg base (k + 1) x sp := by
  obtain ⟨f, fd, F, m⟩ := F
  exact ⟨f, fd, ps, F.ok S len (hbody f), m, F.kp, F.bindsN b⟩
theorem Cl.mono {j k : Nat} {sp : Sp} (c : Cl P w K mg base j x sp) (h : j ≤ k) : Cl P w K mg base k x sp := by
  obtain ⟨f, fd, ps, F, m, kp, b⟩ := c.ex
  exact ⟨f, fd, ps, F.mono h, m, kp, b⟩
/-- a promise that says more -/
theorem Cl.imp {k : Nat} {sp sp' : Sp} (c : Cl P w K mg base k x sp) (h : ∀ vs H Q E, sp' vs H Q E → sp vs H Q E) : Cl P w K mg base k x sp' := by
  obtain ⟨f, fd, ps, F, m, kp, b⟩ := c.ex
  exact ⟨f, fd, ps, ⟨fun vs H Q E q => F.len vs H Q E (h _ _ _ _ q), fun A outer s H args us vs Q E hr e0 hb r q => F.run A outer s H args us vs Q E hr e0 hb r (h _ _ _ _ q)⟩, m, kp, b⟩
end
def tCl (sp : Sp) (E : XK) (t : TA) : TE := fun σ H Q => t σ H fun vs H1 => sp vs H1 Q E
section
variable {X : Cx} {k j : Nat} {C : Addr} {x m : Str} {sp : Sp} {E : XK} {p pos apos : Pos} {e o : Expr} {es : List Expr} {ta : TE} {t : TA}
theorem pe_cl (c : Cl X.prog X.w X.K X.mg X.base k x sp) (hr : Room j X.A) (hk : k ≤ j) (hg : Gl X x) (hx : Passes (L2.CX X.prog X.w) X E) (ha : PA X (e :: es) t)
    (hdb : (x == ("__debug__" : Str)) = false := by decide) (he : starEach (e :: es) X.env = (false, eval e X.env) :: starEach es X.env := by rfl) (hpl : (backTo pos (starEach es X.env)).any (·.1) = false := by rfl) :
    PE X (.Call (.Name x p) (e :: es) [] pos) (tCl sp E t) := by
  obtain ⟨f, fd, ps, F, hm, kp, b⟩ := c.ex
  refine ⟨fun pins s σ H Q I h => ?_⟩
  refine (pe_call F (hr.mono hk) hg hm kp b .nil hx ha hdb he hpl).run pins s σ H Q I ?_
  have q : t σ H fun vs H1 => sp vs H1 Q E := h
  show t σ H fun vs H1 => sp (vs ++ []) H1 Q E
  have e0 : (fun (vs : List V) (H1 : Hp) => sp (vs ++ []) H1 Q E) = fun vs H1 => sp vs H1 Q E := by
    funext vs H1
    rw [List.append_nil]
  rw [e0]
  exact q
/-- what leaves a def's own body -/
theorem passD {P : Program} {w : World} {K : PySem.W.Frag} {mg : Str → Option Value} {base : Heap} {N : List Str} {x : Str} {sc : Scope} {f : Addr} {cdv : Value} {A : Around} {outer : List Env} {s : Shared} {H : Hp} {E : XK} :
    Passes (L2.CX P w) (cxOf (L2.CX P w) P w K mg base N x sc f cdv A outer s H E) E := passes_call (takes_of rfl rfl rfl rfl) fun _ _ _ _ h => h
end

/-! ### texts as lists of signs -/
abbrev T (l : List Nat) : V := .str ⟨l.toArray⟩
theorem tl_mk (l : List Nat) : ((⟨l.toArray⟩ : Str).cps.toList) = l := by simp
theorem len_mk (l : List Nat) : (⟨l.toArray⟩ : Str).length = l.length := by simp [Str.length]

/-! ### heaps: all but one object is kept -/
def Kp (d : Addr) (H H' : Hp) : Prop := ∀ b o, b ≠ d → H b = some o → H' b = some o
theorem Kp.refl (d : Addr) (H : Hp) : Kp d H H := fun _ _ _ h => h
theorem Kp.trans {d : Addr} {H H1 H2 : Hp} (a : Kp d H H1) (b : Kp d H1 H2) : Kp d H H2 := fun c o n h => b c o n (a c o n h)
theorem Kp.at_ {d : Addr} {H : Hp} {o : HO} : Kp d H (upd H d o) := fun b u n h => by rw [upd_ne n]; exact h
theorem Kp.of {d : Addr} {H H' : Hp} (h : Same H H') : Kp d H H' := fun b o _ e => h b o e
theorem same_new {H : Hp} {p : Addr} (h : H p = none) (o : HO) : Same H (upd H p o) := fun b u q => by rw [upd_ne (ne_of_none q h)]; exact q
theorem Kp.new {d : Addr} {H : Hp} {p : Addr} {o : HO} (h : H p = none) : Kp d H (upd H p o) := Kp.of (same_new h o)
/-- three ints at d -/
def Dice (H : Hp) (d : Addr) : Prop := ∃ a b c : Int, H d = some (.lst [.int a, .int b, .int c])
theorem Dice.new {H : Hp} {d p : Addr} {o : HO} (h : Dice H d) (hp : H p = none) : Dice (upd H p o) d := by
  obtain ⟨a, b, c, e⟩ := h
  exact ⟨a, b, c, by rw [upd_ne (ne_of_none e hp)]; exact e⟩
/-! ### classes -/
/-- a class that may be made by its name x -/
structure Mc (P : Program) (w : World) (K : PySem.W.Frag) (mg : Str → Option Value) (base : Heap) (k : Nat) (x : Str) (C : Addr) (sp : Sp) : Prop where
  ex : ∃ (f : Addr) (fd : FuncData) (ps : List Str), Mk K C f ∧ FnOk P w K mg base (L2.CX P w) k f fd ps sp ∧ mg x = some (.ref C) ∧ Binds K fd ps []
/-- a method m of the class at C -/
structure Me (P : Program) (w : World) (K : PySem.W.Frag) (mg : Str → Option Value) (base : Heap) (k : Nat) (C : Addr) (m : Str) (sp : Sp) : Prop where
  ex : ∃ (f : Addr) (fd : FuncData) (ps : List Str), Cls K C ∧ Meth K C m f ∧ FnOk P w K mg base (L2.CX P w) k f fd ps sp ∧ Binds K fd ps []
/-- a method's text as it stands -/
abbrev FnM (K : PySem.W.Frag) (C : Addr) (m qual : Str) (st : Stmt) : Prop := ∃ (f : Addr) (fd : FuncData), FunD K m qual (defArgs st) (defBody st) (defScope st) [] [] f fd ∧ Meth K C m f
section
variable {P : Program} {w : World} {K : PySem.W.Frag} {mg : Str → Option Value} {base : Heap} {x m qual : Str} {st : Stmt} {C : Addr}
theorem fn_m {N ps : List Str} {k : Nat} {sp : Sp} {f : Addr} {fd : FuncData} (F : FunD K m qual (defArgs st) (defBody st) (defScope st) [] [] f fd) (S : FnScope N ps (defScope st))
    (len : ∀ vs H Q E, sp vs H Q E → vs.length = ps.length)
    (hbody : ∀ (f : Addr) (cdv : Value) (A : Around) (outer : List Env) (s : Shared) (H : Hp) (vs : List V) (Q : VK) (E : XK), Room k (A.deeper (envOfC qual (defScope st) s.heap.objs.size f cdv)) → sp vs H Q E →
      ∃ t, PSs (cxOf (L2.CX P w) P w K mg base N qual (defScope st) f cdv A outer s H E) (defBody st) t ∧ t { nx := fun _ H' => Q .non H', rt := Q } (start N vs) H) : FnOk P w K mg base (L2.CX P w) (k + 1) f fd ps sp := F.ok S len (hbody f)
theorem mc_mk {N ps : List Str} {k : Nat} {sp : Sp} (F : ∃ (f : Addr) (fd : FuncData), FunD K "__init__" qual (defArgs st) (defBody st) (defScope st) [] [] f fd ∧ Mk K C f) (hm : mg x = some (.ref C)) (S : FnScope N ps (defScope st))
    (b : ∀ (kV doc pm : Value) (an : Option Addr) (cdv ct : Value) (us : List Value), us.length = ps.length → bindArgs (PySem.W.fnOf "__init__" qual (defArgs st) (defBody st) (defScope st) .none kV doc pm an cdv ct) ⟨us, []⟩ = pure (ps.zip us))
    (len : ∀ vs H Q E, sp vs H Q E → vs.length = ps.length)
    (hbody : ∀ (f : Addr) (cdv : Value) (A : Around) (outer : List Env) (s : Shared) (H : Hp) (vs : List V) (Q : VK) (E : XK), Room k (A.deeper (envOfC qual (defScope st) s.heap.objs.size f cdv)) → sp vs H Q E →
      ∃ t, PSs (cxOf (L2.CX P w) P w K mg base N qual (defScope st) f cdv A outer s H E) (defBody st) t ∧ t { nx := fun _ H' => Q .non H', rt := Q } (start N vs) H) : Mc P w K mg base (k + 1) x C sp := by
  obtain ⟨f, fd, F, M⟩ := F
  exact ⟨f, fd, ps, M, fn_m F S len hbody, hm, F.bindsN b⟩
theorem me_mk {N ps : List Str} {k : Nat} {sp : Sp} (F : FnM K C m qual st) (c : Cls K C) (S : FnScope N ps (defScope st))
    (b : ∀ (kV doc pm : Value) (an : Option Addr) (cdv ct : Value) (us : List Value), us.length = ps.length → bindArgs (PySem.W.fnOf m qual (defArgs st) (defBody st) (defScope st) .none kV doc pm an cdv ct) ⟨us, []⟩ = pure (ps.zip us))
    (len : ∀ vs H Q E, sp vs H Q E → vs.length = ps.length)
    (hbody : ∀ (f : Addr) (cdv : Value) (A : Around) (outer : List Env) (s : Shared) (H : Hp) (vs : List V) (Q : VK) (E : XK), Room k (A.deeper (envOfC qual (defScope st) s.heap.objs.size f cdv)) → sp vs H Q E →
      ∃ t, PSs (cxOf (L2.CX P w) P w K mg base N qual (defScope st) f cdv A outer s H E) (defBody st) t ∧ t { nx := fun _ H' => Q .non H', rt := Q } (start N vs) H) : Me P w K mg base (k + 1) C m sp := by
  obtain ⟨f, fd, F, M⟩ := F
  exact ⟨f, fd, ps, c, M, fn_m F S len hbody, F.bindsN b⟩
end
def tMk (C : Addr) (sp : Sp) (E : XK) (t : TA) : TE := fun σ H Q => t σ H fun vs H1 => ∀ x dx, H1 x = none → H1 dx = none → dx ≠ x → sp (.ref x :: vs) (upd (upd H1 dx (.own x)) x (.ins C dx [])) (fun v H2 => v = .non ∧ Q (.ref x) H2) E
def tMe (C : Addr) (m : Str) (sp : Sp) (E : XK) (ta : TE) (t : TA) : TE := fun σ H Q => ta σ H fun x H1 => ∃ a dx fs, x = .ref a ∧ H1 a = some (.ins C dx fs) ∧ fs.lookup m = none ∧ t σ H1 fun vs H2 => sp (x :: vs) H2 Q E
section
variable {X : Cx} {k j : Nat} {C : Addr} {x m : Str} {sp : Sp} {E : XK} {p pos apos : Pos} {e o : Expr} {es : List Expr} {ta : TE} {t : TA}
theorem pe_mc (c : Mc X.prog X.w X.K X.mg X.base k x C sp) (hr : Room j X.A) (hk : k + 1 ≤ j) (hg : Gl X x) (hx : Passes (L2.CX X.prog X.w) X E) (ha : PA X (e :: es) t)
    (hdb : (x == ("__debug__" : Str)) = false := by decide) (he : starEach (e :: es) X.env = (false, eval e X.env) :: starEach es X.env := by rfl) (hpl : (backTo pos (starEach es X.env)).any (·.1) = false := by rfl) :
    PE X (.Call (.Name x p) (e :: es) [] pos) (tMk C sp E t) := by
  obtain ⟨f, fd, ps, M, F, hm, b⟩ := c.ex
  refine ⟨fun pins s σ H Q I h => ?_⟩
  refine (pe_make M F (hr.mono hk) hg hm b .nil hx ha hdb he hpl).run pins s σ H Q I ?_
  have q : t σ H fun vs H1 => ∀ x dx, H1 x = none → H1 dx = none → dx ≠ x → sp (.ref x :: vs) (upd (upd H1 dx (.own x)) x (.ins C dx [])) (fun v H2 => v = .non ∧ Q (.ref x) H2) E := h
  have e0 : (fun (vs : List V) (H1 : Hp) => ∀ x dx, H1 x = none → H1 dx = none → dx ≠ x → sp (.ref x :: (vs ++ [])) (upd (upd H1 dx (.own x)) x (.ins C dx [])) (fun v H2 => v = .non ∧ Q (.ref x) H2) E) =
      fun vs H1 => ∀ x dx, H1 x = none → H1 dx = none → dx ≠ x → sp (.ref x :: vs) (upd (upd H1 dx (.own x)) x (.ins C dx [])) (fun v H2 => v = .non ∧ Q (.ref x) H2) E := by
    funext vs H1
    rw [List.append_nil]
  show t σ H fun vs H1 => ∀ x dx, H1 x = none → H1 dx = none → dx ≠ x → sp (.ref x :: (vs ++ [])) (upd (upd H1 dx (.own x)) x (.ins C dx [])) (fun v H2 => v = .non ∧ Q (.ref x) H2) E
  rw [e0]
  exact q
theorem pe_me {pl : Sem Bool} (c : Me X.prog X.w X.K X.mg X.base k C m sp) (hr : Room j X.A) (hk : k ≤ j) (hx : Passes (L2.CX X.prog X.w) X E) (he : PE X o ta) (ha : PA X (e :: es) t)
    (hst : starEach (e :: es) X.env = (false, eval e X.env) :: starEach es X.env := by rfl) (hpl : (backTo pos (starEach es X.env)).any (·.1) = false := by rfl)
    (ht : eval (.Call (.Attribute o m apos) (e :: es) [] pos) X.env = (do
      let ov ← eval o X.env
      standAt apos.atName
      let (f, first) ← holding [ov] (getMethod ov m pl)
      callWith pos f first (backTo pos (starEach (e :: es) X.env)) (backToKw pos (keywordEach [] X.env))) := by rfl) :
    PE X (.Call (.Attribute o m apos) (e :: es) [] pos) (tMe C m sp E ta t) := by
  obtain ⟨f, fd, ps, hc, hm, F, b⟩ := c.ex
  refine ⟨fun pins s σ H Q I h => ?_⟩
  refine (pe_meth (pl := pl) he hc hm F (hr.mono hk) b .nil hx ha hst hpl ht).run pins s σ H Q I ?_
  have e0 : (fun (x : V) (H1 : Hp) => ∃ a dx fs, x = .ref a ∧ H1 a = some (.ins C dx fs) ∧ fs.lookup m = none ∧ t σ H1 fun vs H2 => sp (x :: (vs ++ [])) H2 Q E) =
      fun x H1 => ∃ a dx fs, x = .ref a ∧ H1 a = some (.ins C dx fs) ∧ fs.lookup m = none ∧ t σ H1 fun vs H2 => sp (x :: vs) H2 Q E := by
    funext x H1
    simp only [List.append_nil]
  show ta σ H fun x H1 => ∃ a dx fs, x = .ref a ∧ H1 a = some (.ins C dx fs) ∧ fs.lookup m = none ∧ t σ H1 fun vs H2 => sp (x :: (vs ++ [])) H2 Q E
  rw [e0]
  exact h
theorem pe_me0 {pl : Sem Bool} (c : Me X.prog X.w X.K X.mg X.base k C m sp) (hr : Room j X.A) (hk : k ≤ j) (hx : Passes (L2.CX X.prog X.w) X E) (he : PE X o ta)
    (ht : eval (.Call (.Attribute o m apos) [] [] pos) X.env = (do
      let ov ← eval o X.env
      standAt apos.atName
      let (f, first) ← holding [ov] (getMethod ov m pl)
      callWith pos f first (backTo pos (starEach [] X.env)) (backToKw pos (keywordEach [] X.env))) := by rfl) :
    PE X (.Call (.Attribute o m apos) [] [] pos) (tMe C m sp E ta tNil) := by
  obtain ⟨f, fd, ps, hc, hm, F, b⟩ := c.ex
  exact pe_meth0 (pl := pl) he hc hm F (hr.mono hk) b .nil hx ht
end
end Fw
end

section
-- part Fs
set_option Elab.async false
set_option linter.all false
set_option maxRecDepth 100000
set_option maxHeartbeats 2000000
/-! Fs: readings, step by step -/
namespace Fw
open PySem PySem.Spec PyProof.Rows L2
section
variable {K : PySem.W.Frag} {σ : L2.St} {H : Hp} {Q : VK} {ta tb te tc : TE} {t u : TS} {D : Ends} {v x y : V} {i : Nat} {r : R2} {tt tu : TT} {QT : Bool → Hp → Prop} {tr : TA} {QA : List V → Hp → Prop} {E : XK} {sp : Sp}
theorem w_seq (h : t { D with nx := u D } σ H) : tSeq t u D σ H := h
theorem w_asg {g : TG} (h : te σ H fun x H1 => g x σ H1 D.nx) : tAsg te g D σ H := h
theorem w_ret (h : te σ H D.rt) : tRet te D σ H := h
theorem w_drop (h : te σ H fun _ H1 => D.nx σ H1) : tDrop te D σ H := h
theorem w_next (h : D.nx σ H) : tNext D σ H := h
theorem w_ifs (h : tt σ H fun b H1 => if b = true then t D σ H1 else u D σ H1) : tIfS tt t u D σ H := h
theorem w_var (h : σ[i]? = some (some v)) (q : Q v H) : tVar i σ H Q := ⟨v, h, q⟩
theorem w_c (q : Q v H) : tC v σ H Q := q
theorem w_op (h : ta σ H fun x H1 => tb σ H1 fun y H2 => r x y H2 Q) : tOp r ta tb σ H Q := h
theorem w_un {r : V → Hp → VK → Prop} (h : ta σ H fun x H1 => r x H1 Q) : tUn r ta σ H Q := h
theorem w_cons (h : ta σ H fun x H1 => tr σ H1 fun xs H2 => QA (x :: xs) H2) : tCons ta tr σ H QA := h
theorem w_nil (q : QA [] H) : tNil σ H QA := q
theorem w_cl (h : tr σ H fun vs H1 => sp vs H1 Q E) : tCl sp E tr σ H Q := h
theorem w_cb {r : List V → Hp → VK → Prop} (h : tr σ H fun vs H1 => r vs H1 Q) : tCB r tr σ H Q := h
theorem w_gname {Q : L2.St → Hp → Prop} (h : Q (σ.set i (some v)) H) : gName i v σ H Q := h
theorem w_gsub {Q : L2.St → Hp → Prop} {s : TSet} (h : ta σ H fun o H1 => tb σ H1 fun i H2 => s o i v H2 fun H3 => Q σ H3) : gSub ta tb s v σ H Q := h
theorem w_test (h : te σ H fun x H1 => ∃ k, x = .bl k ∧ QT k H1) : tTest te σ H QT := h
theorem w_B (h : te σ H fun x H1 => ∃ k, x = .bl k ∧ QT k H1) : tB te σ H QT := h
theorem w_bl {b : Bool} {P : Bool → Prop} (h : P b) : ∃ k, V.bl b = V.bl k ∧ P k := ⟨b, rfl, h⟩
theorem w_and (h : tt σ H fun b H1 => if b = true then tu σ H1 QT else QT false H1) : tAnd tt tu σ H QT := h
theorem w_or (h : tt σ H fun b H1 => if b = true then QT true H1 else tu σ H1 QT) : tOr tt tu σ H QT := h
theorem w_not (h : tt σ H fun b H1 => QT (!b) H1) : tNot tt σ H QT := h
theorem w_if (h : tt σ H fun b H1 => if b = true then ta σ H1 Q else tb σ H1 Q) : tIf tt ta tb σ H Q := h
theorem w_I0 {g : Int → Int → V} {i j : Int} (q : Q (g i j) H) : rI0 g (.int i) (.int j) H Q := ⟨i, j, rfl, rfl, q⟩
theorem w_I {C : Int → Int → Prop} {g : Int → Int → V} {i j : Int} (c : C i j) (q : Q (g i j) H) : rI C g (.int i) (.int j) H Q := ⟨i, j, rfl, rfl, c, q⟩
theorem w_eq (s : scal x y = true) (q : Q (.bl (decide (x = y))) H) : rEq x y H Q := ⟨s, q⟩
theorem w_ne (s : scal x y = true) (q : Q (.bl (!decide (x = y))) H) : rNe x y H Q := ⟨s, q⟩
theorem w_ixL {p : Addr} {xs : List V} {i : Int} (h : H p = some (.lst xs)) (a : atI xs i = some v) (q : Q v H) : rIxL K (.ref p) (.int i) H Q := ⟨p, xs, i, v, rfl, rfl, .inl (.inl h), a, q⟩
theorem w_setL {p : Addr} {xs : List V} {k : Int} {j : Nat} {Q : Hp → Prop} (h : H p = some (.lst xs)) (a : ixN xs.length k = some j) (q : Q (upd H p (.lst (xs.set j v)))) : rSetL (.ref p) (.int k) v H Q := ⟨p, xs, k, j, rfl, rfl, h, a, q⟩
theorem w_lst (h : tr σ H fun xs H1 => xs.length ≤ sizeLine ∧ ∀ p, H1 p = none → Q (.ref p) (upd H1 p (.lst xs))) : tLst tr σ H Q := h
theorem w_tup (h : tr σ H fun xs H1 => xs.length ≤ sizeLine ∧ ∀ p, H1 p = none → Q (.ref p) (upd H1 p (.tup xs))) : tTup tr σ H Q := h
theorem w_iteD {p : Prop} [Decidable p] {A B : Prop} (h1 : p → A) (h2 : ¬ p → B) : if decide p = true then A else B := by
  by_cases c : p
  · rw [if_pos (decide_eq_true c)]
    exact h1 c
  · rw [if_neg (by simp [c])]
    exact h2 c
theorem w_ite {b : Bool} {A B : Prop} (h1 : b = true → A) (h2 : b = false → B) : if b = true then A else B := by
  cases b with
  | true => rw [if_pos rfl]; exact h1 rfl
  | false => rw [if_neg Bool.false_ne_true]; exact h2 rfl
theorem w_iteT {A B : Prop} (h : A) : if true = true then A else B := by rw [if_pos rfl]; exact h
theorem w_iteF {A B : Prop} (h : B) : if false = true then A else B := by rw [if_neg Bool.false_ne_true]; exact h
theorem w_fld {f : Str} (h : ta σ H fun x H1 => ∃ a C dx fs v, x = .ref a ∧ H1 a = some (.ins C dx fs) ∧ Cls K C ∧ NoAttr K C f ∧ fs.lookup f = some v ∧ Q v H1) : tFld K ta f σ H Q := h
theorem w_mk {C : Addr} (h : tr σ H fun vs H1 => ∀ x dx, H1 x = none → H1 dx = none → dx ≠ x → sp (.ref x :: vs) (upd (upd H1 dx (.own x)) x (.ins C dx [])) (fun v H2 => v = .non ∧ Q (.ref x) H2) E) : tMk C sp E tr σ H Q := h
theorem w_me {C : Addr} {m : Str} (h : ta σ H fun x H1 => ∃ a dx fs, x = .ref a ∧ H1 a = some (.ins C dx fs) ∧ fs.lookup m = none ∧ tr σ H1 fun vs H2 => sp (x :: vs) H2 Q E) : tMe C m sp E ta tr σ H Q := h
theorem w_sfld {tv : TE} {f : Str} (h : tv σ H fun y H1 => ta σ H1 fun x H2 => ∃ a C dx fs, x = .ref a ∧ H2 a = some (.ins C dx fs) ∧ Cls K C ∧ NoAttr K C f ∧ fs.length < 1000 ∧ D.nx σ (upd H2 a (.ins C dx (putF f y fs)))) : sFld K ta tv f D σ H := h
theorem w_bm {T : String} {r : V → List V → Hp → VK → Prop} (h : ta σ H fun x H1 => tyV K T x H1 ∧ tr σ H1 fun xs H2 => r x xs H2 Q) : tBM K T r ta tr σ H Q := h
theorem w_bm0 {T : String} {r : V → List V → Hp → VK → Prop} (h : ta σ H fun x H1 => tyV K T x H1 ∧ r x [] H1 Q) : tBM0 K T r ta σ H Q := h
theorem w_sl {r : V → Option Int → Option Int → Hp → VK → Prop} {tl th : TO} (h : te σ H fun x H1 => tl σ H1 fun l H2 => th σ H2 fun u H3 => r x l u H3 Q) : tSl r te tl th σ H Q := h
theorem w_part {Q : Option Int → Hp → Prop} (h : te σ H fun x H1 => ∃ i, x = .int i ∧ Q (some i) H1) : tPart te σ H Q := h
theorem w_nopart {Q : Option Int → Hp → Prop} (h : Q none H) : tNoPart σ H Q := h
theorem w_partI {n : Int} {P : Int → Prop} (h : P n) : ∃ i, V.int n = V.int i ∧ P i := ⟨n, rfl, h⟩
theorem w_aug {ti : TIp} (h : σ[i]? = some (some x)) (q : te σ H fun y H1 => ti x y H1 fun z H2 => D.nx (σ.set i (some z)) H2) : tAug i te ti D σ H := ⟨x, h, q⟩
theorem w_ipI {f : Int → Int → Int} {i j : Int} (q : Q (.int (f i j)) H) : ipI f (.int i) (.int j) H Q := ⟨i, j, rfl, rfl, q⟩
end
theorem hu64 {k : Nat} {A : Around} (r : Room k A) : A.units + 64 < cLine := by have := r.un; omega
theorem hu1 {k : Nat} {A : Around} (r : Room k A) : A.units < cLine := by have := r.un; omega
section
variable {K : PySem.W.Frag} {σ : L2.St} {H : Hp} {Q : VK} {ta tb tc : TE} {r r' : R2} {v x y : V}
theorem w_chain (h : ta σ H fun x H1 => tb σ H1 fun y H2 => r x y H2 fun z H3 => ∃ k, z = .bl k ∧ (if k = true then tc σ H3 fun w' H4 => r' y w' H4 Q else Q (.bl false) H3)) : tChain r r' ta tb tc σ H Q := h
theorem w_x1i {c : Int} {P : Int → Prop} (h : P c) : ∃ i, [V.int c] = [V.int i] ∧ P i := ⟨c, rfl, h⟩
theorem w_x1b {c : Bool} {P : Bool → Prop} (h : P c) : ∃ i, [V.bl c] = [V.bl i] ∧ P i := ⟨c, rfl, h⟩
theorem w_x1s {c : Str} {P : Str → Prop} (h : P c) : ∃ i, [V.str c] = [V.str i] ∧ P i := ⟨c, rfl, h⟩
theorem w_int1i {c : Int} {P : Int → Prop} {R : Prop} (h : P c) : (∃ i, [V.int c] = [V.int i] ∧ P i) ∨ R := .inl ⟨c, rfl, h⟩
theorem w_int1b {c : Bool} {P : Bool → Prop} {R : Prop} (h : P c) : R ∨ ∃ i, [V.bl c] = [V.bl i] ∧ P i := .inr ⟨c, rfl, h⟩
theorem w_mod {i j : Int} (c : 0 < j) (q : Q (.int (i % j)) H) : rI (fun _ j => 0 < j) (fun i j => V.int (i % j)) (.int i) (.int j) H Q := ⟨i, j, rfl, rfl, c, q⟩
theorem w_mul {i j : Int} (c : CMul i j) (q : Q (.int (i * j)) H) : rI CMul (fun i j => V.int (i * j)) (.int i) (.int j) H Q := ⟨i, j, rfl, rfl, c, q⟩
theorem w_fdivW {i j : Int} (c : 0 < j) (c2 : j < 2 ^ 60) (q : Q (.int (i / j)) H) : rI CDivW (fun i j => V.int (i / j)) (.int i) (.int j) H Q :=
  ⟨i, j, rfl, rfl, wide_div (b := 60) c (by omega) (by decide) (by decide), q⟩
theorem w_pow {i j : Int} (c : CPow i j) (q : Q (.int (i ^ j.toNat)) H) : rI CPow (fun i j => V.int (i ^ j.toNat)) (.int i) (.int j) H Q := ⟨i, j, rfl, rfl, c, q⟩
end
section
variable {K : PySem.W.Frag} {σ : L2.St} {H : Hp} {Q : VK} {v x y : V}
theorem w_setLu {p : Addr} {xs : List V} {k : Int} {j : Nat} {Q : Hp → Prop} (a : ixN xs.length k = some j) (q : Q (upd H p (.lst (xs.set j v)))) : rSetL (.ref p) (.int k) v (upd H p (.lst xs)) Q := ⟨p, xs, k, j, rfl, rfl, upd_same, a, by rw [upd_upd]; exact q⟩
theorem w_new {n : Nat} {B : Prop} (hz : Nat.ble n 1000 = true) (h : B) : n ≤ sizeLine ∧ B := ⟨Nat.le_trans (Nat.le_of_ble_eq_true hz) (by decide), h⟩
theorem mod_b {a m : Int} (h : 0 < m) : 0 ≤ a % m ∧ a % m < m := ⟨Int.emod_nonneg a (by omega), Int.emod_lt_of_pos a h⟩
end
section
variable {K : PySem.W.Frag} {σ : L2.St} {H : Hp} {Q : VK} {tl te : TE} {ta : TA} {j : Nat} {vs : List Nat} {tt : TT} {g : TG} {wi : TI}
theorem w_lc (h : wi σ H fun J H1 => ∀ D, H1 D = none → ∃ W : Nat → Nat → Hp → Prop, (∃ m, W 0 m (upd H1 D (.lst []))) ∧ ∀ i m H, W i m H →
  (J.stop i H ∧ Q (.ref D) H) ∨ (J.go i H ∧ ∃ Nx : Hp → Prop, (∀ H', Nx H' → ∃ m', m' < m ∧ W (i + 1) m' H') ∧ ∀ x H', J.yld i H x H' → g x (wipe σ vs) H' fun σ2 H2 => wipe σ2 vs = wipe σ vs ∧ tt σ2 H2 fun b H3 =>
    if b = true then te σ2 H3 fun y H4 => ∃ acc, H4 D = some (.lst acc) ∧ acc.length < sizeLine ∧ Nx (upd H4 D (.lst (acc ++ [y]))) else Nx H3)) : tLc wi g tt te vs σ H Q := h
theorem w_iL {R : It → Hp → Prop} (h : tl σ H fun x H1 => ∃ a, x = .ref a ∧ (∃ xs, SqL K H1 a xs) ∧ R (Itl K a) H1) : iList K tl σ H R := h
theorem w_iT {R : It → Hp → Prop} (h : tl σ H fun x H1 => ∃ a, x = .ref a ∧ (∃ xs, SqT K H1 a xs) ∧ R (Itt K a) H1) : iTup K tl σ H R := h
theorem w_iR1 {R : It → Hp → Prop} (h : ta σ H fun vs H1 => ∃ j : Int, vs = [.int j] ∧ -(2 ^ 62) ≤ j ∧ j < 2 ^ 62 ∧ R (Itr 0 j.toNat) H1) : iRng1 ta σ H R := h
theorem w_iR2 {R : It → Hp → Prop} (h : ta σ H fun vs H1 => ∃ i j : Int, vs = [.int i, .int j] ∧ (-(2 ^ 62) ≤ i ∧ i < 2 ^ 62 ∧ -(2 ^ 62) ≤ j ∧ j < 2 ^ 62) ∧ R (Itr i (j - i).toNat) H1) : iRng2 ta σ H R := h
theorem w_yes {Q : Bool → Hp → Prop} (h : Q true H) : tYes σ H Q := h
/-- a comprehension over a list: the turn's word Pv -/
theorem w_lcL {p : Addr} {xs : List V} (hS : SqL K H p xs) (h : ∀ D, H D = none → ∃ Pv : Nat → Hp → Prop, Pv 0 (upd H D (.lst [])) ∧ (∀ i H2, i ≤ xs.length → Pv i H2 → SqL K H2 p xs) ∧
      (∀ i x H2, xs[i]? = some x → Pv i H2 → g x (wipe σ vs) H2 fun σ2 H2 => wipe σ2 vs = wipe σ vs ∧ tt σ2 H2 fun b H3 =>
        if b = true then te σ2 H3 fun y H4 => ∃ acc, H4 D = some (.lst acc) ∧ acc.length < sizeLine ∧ Pv (i + 1) (upd H4 D (.lst (acc ++ [y]))) else Pv (i + 1) H3) ∧ (∀ H2, Pv xs.length H2 → Q (.ref D) H2)) :
    ∃ a, V.ref p = .ref a ∧ (∃ xs, SqL K H a xs) ∧ ∀ D, H D = none → ∃ W : Nat → Nat → Hp → Prop, (∃ m, W 0 m (upd H D (.lst []))) ∧ ∀ i m H, W i m H →
      ((Itl K a).stop i H ∧ Q (.ref D) H) ∨ ((Itl K a).go i H ∧ ∃ Nx : Hp → Prop, (∀ H', Nx H' → ∃ m', m' < m ∧ W (i + 1) m' H') ∧ ∀ x H', (Itl K a).yld i H x H' → g x (wipe σ vs) H' fun σ2 H2 => wipe σ2 vs = wipe σ vs ∧ tt σ2 H2 fun b H3 =>
        if b = true then te σ2 H3 fun y H4 => ∃ acc, H4 D = some (.lst acc) ∧ acc.length < sizeLine ∧ Nx (upd H4 D (.lst (acc ++ [y]))) else Nx H3) :=
  ⟨p, rfl, ⟨xs, hS⟩, fun D hD => by
    obtain ⟨Pv, h0, hl, hs, hd⟩ := h D hD
    exact lc_list Pv h0 hl hs hd⟩
/-- .. over range(n) -/
theorem w_lcR {n : Int} (hn : 0 ≤ n ∧ n < 2 ^ 62) (h : ∀ D, H D = none → ∃ Pv : Nat → Hp → Prop, Pv 0 (upd H D (.lst [])) ∧
      (∀ (i : Nat) H2, (i : Int) < n → Pv i H2 → g (.int (0 + (i : Int))) (wipe σ vs) H2 fun σ2 H2 => wipe σ2 vs = wipe σ vs ∧ tt σ2 H2 fun b H3 =>
        if b = true then te σ2 H3 fun y H4 => ∃ acc, H4 D = some (.lst acc) ∧ acc.length < sizeLine ∧ Pv (i + 1) (upd H4 D (.lst (acc ++ [y]))) else Pv (i + 1) H3) ∧ (∀ H2, Pv n.toNat H2 → Q (.ref D) H2)) :
    ∃ j : Int, [V.int n] = [.int j] ∧ -(2 ^ 62) ≤ j ∧ j < 2 ^ 62 ∧ ∀ D, H D = none → ∃ W : Nat → Nat → Hp → Prop, (∃ m, W 0 m (upd H D (.lst []))) ∧ ∀ i m H, W i m H →
      ((Itr 0 j.toNat).stop i H ∧ Q (.ref D) H) ∨ ((Itr 0 j.toNat).go i H ∧ ∃ Nx : Hp → Prop, (∀ H', Nx H' → ∃ m', m' < m ∧ W (i + 1) m' H') ∧ ∀ x H', (Itr 0 j.toNat).yld i H x H' → g x (wipe σ vs) H' fun σ2 H2 => wipe σ2 vs = wipe σ vs ∧ tt σ2 H2 fun b H3 =>
        if b = true then te σ2 H3 fun y H4 => ∃ acc, H4 D = some (.lst acc) ∧ acc.length < sizeLine ∧ Nx (upd H4 D (.lst (acc ++ [y]))) else Nx H3) :=
  ⟨n, rfl, by omega, hn.2, fun D hD => by
    obtain ⟨Pv, h0, hs, hd⟩ := h D hD
    exact lc_range Pv h0 (fun i H hi p => hs i H (by omega) p) hd⟩
theorem w_for {wi : TI} {g : TG} {tb : TS} {D : Ends} (h : wi σ H fun J H1 => ∃ W : Nat → Nat → L2.St → Hp → Prop, (∃ m, W 0 m σ H1) ∧ ∀ i m σ H, W i m σ H →
  (J.stop i H ∧ D.nx σ H) ∨ (J.go i H ∧ ∃ N : L2.St → Hp → Prop, (∀ σ' H', N σ' H' → ∃ m', m' < m ∧ W (i + 1) m' σ' H') ∧ ∀ x H', J.yld i H x H' → g x σ H' fun σ2 H2 => tb { D with nx := N, ct := N, bk := D.nx } σ2 H2)) : tFor wi g tb D σ H := h
theorem w_forL {g : TG} {tb : TS} {D : Ends} {p : Addr} {xs : List V} (hS : SqL K H p xs) (Pv : Nat → L2.St → Hp → Prop) (h0 : Pv 0 σ H) (hl : ∀ i σ H, i ≤ xs.length → Pv i σ H → SqL K H p xs)
    (hs : ∀ i x σ H, xs[i]? = some x → Pv i σ H → g x σ H fun σ2 H2 => tb { D with nx := Pv (i + 1), ct := Pv (i + 1), bk := D.nx } σ2 H2) (hd : ∀ σ H, Pv xs.length σ H → D.nx σ H) :
    ∃ a, V.ref p = .ref a ∧ (∃ xs, SqL K H a xs) ∧ ∃ W : Nat → Nat → L2.St → Hp → Prop, (∃ m, W 0 m σ H) ∧ ∀ i m σ H, W i m σ H →
      ((Itl K a).stop i H ∧ D.nx σ H) ∨ ((Itl K a).go i H ∧ ∃ N : L2.St → Hp → Prop, (∀ σ' H', N σ' H' → ∃ m', m' < m ∧ W (i + 1) m' σ' H') ∧ ∀ x H', (Itl K a).yld i H x H' → g x σ H' fun σ2 H2 => tb { D with nx := N, ct := N, bk := D.nx } σ2 H2) :=
  ⟨p, rfl, ⟨xs, hS⟩, for_list Pv h0 hl hs hd⟩
theorem w_forT {g : TG} {tb : TS} {D : Ends} {p : Addr} {xs : List V} (hS : SqT K H p xs) (Pv : Nat → L2.St → Hp → Prop) (h0 : Pv 0 σ H) (hl : ∀ i σ H, i ≤ xs.length → Pv i σ H → SqT K H p xs)
    (hs : ∀ i x σ H, xs[i]? = some x → Pv i σ H → g x σ H fun σ2 H2 => tb { D with nx := Pv (i + 1), ct := Pv (i + 1), bk := D.nx } σ2 H2) (hd : ∀ σ H, Pv xs.length σ H → D.nx σ H) :
    ∃ a, V.ref p = .ref a ∧ (∃ xs, SqT K H a xs) ∧ ∃ W : Nat → Nat → L2.St → Hp → Prop, (∃ m, W 0 m σ H) ∧ ∀ i m σ H, W i m σ H →
      ((Itt K a).stop i H ∧ D.nx σ H) ∨ ((Itt K a).go i H ∧ ∃ N : L2.St → Hp → Prop, (∀ σ' H', N σ' H' → ∃ m', m' < m ∧ W (i + 1) m' σ' H') ∧ ∀ x H', (Itt K a).yld i H x H' → g x σ H' fun σ2 H2 => tb { D with nx := N, ct := N, bk := D.nx } σ2 H2) :=
  ⟨p, rfl, ⟨xs, hS⟩, for_tup Pv h0 hl hs hd⟩
theorem w_forR {g : TG} {tb : TS} {D : Ends} {n : Int} (hn : 0 ≤ n ∧ n < 2 ^ 62) (Pv : Nat → L2.St → Hp → Prop) (h0 : Pv 0 σ H)
    (hs : ∀ (i : Nat) σ H, (i : Int) < n → Pv i σ H → g (.int (0 + (i : Int))) σ H fun σ2 H2 => tb { D with nx := Pv (i + 1), ct := Pv (i + 1), bk := D.nx } σ2 H2) (hd : ∀ σ H, Pv n.toNat σ H → D.nx σ H) :
    ∃ j : Int, [V.int n] = [.int j] ∧ -(2 ^ 62) ≤ j ∧ j < 2 ^ 62 ∧ ∃ W : Nat → Nat → L2.St → Hp → Prop, (∃ m, W 0 m σ H) ∧ ∀ i m σ H, W i m σ H →
      ((Itr 0 j.toNat).stop i H ∧ D.nx σ H) ∨ ((Itr 0 j.toNat).go i H ∧ ∃ N : L2.St → Hp → Prop, (∀ σ' H', N σ' H' → ∃ m', m' < m ∧ W (i + 1) m' σ' H') ∧ ∀ x H', (Itr 0 j.toNat).yld i H x H' → g x σ H' fun σ2 H2 => tb { D with nx := N, ct := N, bk := D.nx } σ2 H2) :=
  ⟨n, rfl, by omega, hn.2, for_range Pv h0 (fun i σ H hi p => hs i σ H (by omega) p) hd⟩
/-- while: a word with a measure; the test is read in the word -/
theorem w_while {c : TT} {tb : TS} {D : Ends} (W : Nat → L2.St → Hp → Prop) (m : Nat) (h0 : W m σ H)
    (hs : ∀ m σ H, W m σ H → c σ H fun b H1 => if b = true then ∃ N : L2.St → Hp → Prop, (∀ σ' H', N σ' H' → ∃ m', m' < m ∧ W m' σ' H') ∧ tb { D with nx := N, ct := N, bk := D.nx } σ H1 else D.nx σ H1) : tWhile c tb D σ H :=
  ⟨W, ⟨m, h0⟩, hs⟩
theorem w_gtup {n : Nat} {t : TGs} {a : Addr} {xs : List V} {Q : L2.St → Hp → Prop} (h : H a = some (.tup xs)) (hn : xs.length = n) (q : t xs σ H Q) : gTup K n t (.ref a) σ H Q := ⟨a, xs, rfl, SqT.of h, hn, q⟩
theorem w_gcons {t : TG} {u : TGs} {v : V} {r : List V} {Q : L2.St → Hp → Prop} (h : t v σ H fun σ' H' => u r σ' H' Q) : gCons t u (v :: r) σ H Q := ⟨v, r, rfl, h⟩
theorem w_gnil {Q : L2.St → Hp → Prop} (h : Q σ H) : gNil [] σ H Q := ⟨rfl, h⟩
theorem w_app {l : Addr} {xs : List V} {y : V} {Q : VK} (h : H l = some (.lst xs)) (hz : xs.length < sizeLine) (q : Q .non (upd H l (.lst (xs ++ [y])))) : rAppend (.ref l) [y] H Q := ⟨l, xs, y, rfl, rfl, h, hz, q⟩
end
end Fw
end

section
-- part Fd
set_option Elab.async false
set_option linter.all false
set_option maxRecDepth 100000
set_option maxHeartbeats 2000000
/-! Fd: data -/
namespace Fw
open PySem PySem.Spec PyProof.Rows L2
section
variable {K : PySem.W.Frag} {H H' : Hp}
theorem dp_ints : ∀ ns : List Int, DpAll K H (ns.map V.int) (ns.map PyData.int)
  | [] => .nil
  | n :: r => .cons (.int n) (dp_ints r)
theorem lay_ints : ∀ ns : List Int, PyData.canLayAll0 (ns.map PyData.int) = true
  | [] => rfl
  | _ :: r => lay_ints r
theorem dep_ints (ns : List Int) : PyData.depth (.list (ns.map PyData.int)) ≤ 64 := by
  have h : ∀ ns : List Int, PyData.depthAll (ns.map PyData.int) ≤ 1 := by
    intro ns
    induction ns with
    | nil => simp [PyData.depthAll]
    | cons n r ih => simp only [List.map_cons, PyData.depthAll, PyData.depth]; omega
  have := h ns
  simp only [PyData.depth]
  omega
theorem shaped_ints (ns : List Int) : SeqAt.shaped (.list (ns.map PyData.int)) = true := by
  unfold SeqAt.shaped
  rw [Bool.and_eq_true]
  exact ⟨lay_ints ns, decide_eq_true (dep_ints ns)⟩
theorem eqv_nil (ns : List Int) : PyData.eqv (.list (ns.map PyData.int)) (.list []) = decide (ns = []) := by
  cases ns <;> rfl
theorem cut_ints (ns : List Int) (lo hi : Option Int) : ∃ ms : List Int, cutV (ns.map V.int) lo hi = ms.map V.int ∧ ms.length ≤ ns.length := by
  refine ⟨(ns.drop (HT.sIx (ns.map V.int).length 0 lo)).take (HT.sIx (ns.map V.int).length (ns.map V.int).length hi - HT.sIx (ns.map V.int).length 0 lo), ?_, ?_⟩
  · unfold cutV
    rw [List.map_take, List.map_drop]
  · rw [List.length_take, List.length_drop]
    omega
end
end Fw
end

section
-- part Fx
set_option Elab.async false
set_option linter.all false
set_option maxRecDepth 100000
set_option maxHeartbeats 2000000
/-! Fx: texts as lists of signs -/
namespace Fw
open PySem PySem.Spec PyProof.Rows L2 SX
open Builtin.Str PySem.StrLaws
abbrev S (l : List Nat) : Str := SX.S l
theorem fromIx {n p : Nat} : fromIndex n (p : Int) = p := by
  unfold fromIndex
  rw [if_neg (by omega)]
  omega
theorem at_pre (l b : List Nat) (i : Nat) : At (S l) (S b) (S l).length i ↔ (i + b.length ≤ l.length ∧ (l.drop i).take b.length = b) := by
  unfold At
  rw [S_len, S_len, subAt_eq, S_len]
  simp [SX.S]
theorem starts3 (l b : List Nat) (p : Nat) : Txt.startswith3 (S l) (S b) (p : Int) = decide ((l.drop p).take b.length = b ∧ p + b.length ≤ l.length) := by
  unfold Txt.startswith3
  rw [fromIx, S_len, S_len, subAt_eq, S_len]
  have e : (S l).cps.toList = l := by simp [SX.S]
  have e2 : (S b).cps.toList = b := by simp [SX.S]
  rw [e, e2]
  by_cases h : p + b.length ≤ l.length
  · by_cases h2 : (l.drop p).take b.length = b
    · simp [h, h2]
    · simp [h, h2]
  · simp [h]
/-- the place of the first c from p on -/
theorem find3_one (l : List Nat) (c p : Nat) : Txt.find3 (S l) (S [c]) (p : Int) = (match (l.drop p).findIdx? (· == c) with | some k => ((p + k : Nat) : Int) | none => -1) := by
  unfold Txt.find3
  rw [fromIx]
  have one : ∀ i, At (S l) (S [c]) (S l).length i ↔ l[i]? = some c := by
    intro i
    rw [at_pre]
    constructor
    · rintro ⟨h1, h2⟩
      simp only [List.length_singleton] at h1 h2
      have hi : i < l.length := by omega
      rw [List.getElem?_eq_getElem hi]
      have e3 : List.take 1 (List.drop i l) = [l[i]] := by rw [List.drop_eq_getElem_cons hi]; rfl
      rw [e3] at h2
      exact congrArg some (List.cons.inj h2).1
    · intro h
      obtain ⟨hi, e⟩ := List.getElem?_eq_some_iff.mp h
      refine ⟨by simp; omega, ?_⟩
      rw [List.drop_eq_getElem_cons hi]
      simp [e]
  rcases occ_head_from (S l) (S [c]) p 1 (by decide) with ⟨h0, hn⟩ | ⟨i, r, h0, hi, ha, hn⟩
  · rw [h0]
    have : (l.drop p).findIdx? (· == c) = none := by
      rw [List.findIdx?_eq_none_iff]
      intro x hx
      obtain ⟨k, hk, e⟩ := List.getElem_of_mem hx
      rw [List.getElem_drop] at e
      cases q : x == c with
      | false => rfl
      | true =>
        have hl : p + k < l.length := by rw [List.length_drop] at hk; omega
        exact absurd ((one (p + k)).mpr (by rw [List.getElem?_eq_getElem hl, e, eq_of_beq q])) (hn (p + k) (by omega))
    rw [this]
  · rw [h0]
    have hk : (l.drop p).findIdx? (· == c) = some (i - p) := by
      rw [List.findIdx?_eq_some_iff_getElem]
      obtain ⟨hl, e⟩ := List.getElem?_eq_some_iff.mp ((one i).mp ha)
      have e2 : (l.drop p)[i - p]? = some c := by
        rw [List.getElem?_drop]
        have : p + (i - p) = i := by omega
        rw [this]
        exact (one i).mp ha
      obtain ⟨h3, e3⟩ := List.getElem?_eq_some_iff.mp e2
      refine ⟨h3, by simp [e3], fun j hj => ?_⟩
      have hj2 : p + j < i := by omega
      have := hn (p + j) (by omega) hj2
      rw [one] at this
      rw [List.getElem_drop]
      intro q
      apply this
      rw [List.getElem?_eq_getElem (by omega)]
      simp at q
      rw [q]
    rw [hk]
    show ((i : Nat) : Int) = ((p + (i - p) : Nat) : Int)
    have : p + (i - p) = i := by omega
    rw [this]
theorem cutS_nat (l : List Nat) {i j : Nat} (hi : i ≤ l.length) (hj : j ≤ l.length) : cutS (S l) (some (i : Int)) (some (j : Int)) = S ((l.drop i).take (j - i)) := by
  unfold cutS
  rw [HT.sIx_nat, HT.sIx_nat, S_len, Nat.min_eq_left hi, Nat.min_eq_left hj]
theorem cutS_any (l : List Nat) {i j : Nat} (hi : i ≤ l.length) : cutS (S l) (some (i : Int)) (some (j : Int)) = S ((l.drop i).take (j - i)) := by
  unfold cutS
  rw [HT.sIx_nat, HT.sIx_nat, S_len, Nat.min_eq_left hi]
  have : ((l.drop i).take (min j l.length - i)) = (l.drop i).take (j - i) := by
    by_cases h : j ≤ l.length
    · rw [Nat.min_eq_left h]
    · rw [Nat.min_eq_right (by omega), List.take_of_length_le (by rw [List.length_drop]; omega), List.take_of_length_le (by rw [List.length_drop]; omega)]
  show (⟨_⟩ : Str) = SX.S _
  rw [show (S l).cps.toList = l by simp [SX.S], this]
theorem cutS_from (l : List Nat) {i : Nat} (hi : i ≤ l.length) : cutS (S l) (some (i : Int)) none = S (l.drop i) := by
  unfold cutS
  rw [HT.sIx_nat, HT.sIx_none, S_len, Nat.min_eq_left hi]
  show (⟨_⟩ : Str) = SX.S _
  rw [show (S l).cps.toList = l by simp [SX.S], List.take_of_length_le (by rw [List.length_drop]; omega)]
theorem atI_nat2 {α : Type} {l : List α} {i : Nat} {c : α} (h : l[i]? = some c) : atI l (i : Int) = some c := atI_nat h
section
variable {H : Hp} {Q : VK} {K : PySem.W.Frag}
theorem w_ixS {l : List Nat} {i c : Nat} (hz : l.length ≤ sizeLine) (h : l[i]? = some c) (q : Q (.str (S [c])) H) : rIxS (.str (S l)) (.int (i : Int)) H Q :=
  ⟨S l, (i : Int), c, rfl, rfl, by rw [S_len]; exact hz, by rw [show (S l).cps.toList = l by simp [SX.S]]; exact atI_nat h, q⟩
theorem S_list (l : List Nat) : (S l).cps.toList = l := by simp [SX.S]
theorem w_inS {l : List Nat} {c : Nat} {P : Nat → Str → Prop} (q : P c (S l)) : ∃ (d : Nat) (z : Str), V.str (S [c]) = .str ⟨#[d]⟩ ∧ V.str (S l) = .str z ∧ P d z := ⟨c, S l, rfl, rfl, q⟩
theorem w_lenS {l : List Nat} {P : Str → Prop} (hz : l.length ≤ sizeLine) (q : P (S l)) : ∃ z, [V.str (S l)] = [V.str z] ∧ z.length ≤ sizeLine ∧ P z := ⟨S l, rfl, by rw [S_len]; exact hz, q⟩
theorem w_find3 {a b : Str} {p : Int} {P : Str → Str → Int → Prop} (q : P a b p) : ∃ (x y : Str) (i : Int), V.str a = .str x ∧ [V.str b, V.int p] = [.str y, .int i] ∧ P x y i := ⟨a, b, p, rfl, rfl, q⟩
theorem w_2s {a b : Str} {P : Str → Str → Prop} (q : P a b) : ∃ (x y : Str), V.str a = .str x ∧ [V.str b] = [.str y] ∧ P x y := ⟨a, b, rfl, rfl, q⟩
theorem w_slS {l : List Nat} {i j : Nat} (hz : l.length ≤ sizeLine) (hi : i ≤ l.length) (q : Q (.str (S ((l.drop i).take (j - i)))) H) : rSlS (.str (S l)) (some (i : Int)) (some (j : Int)) H Q :=
  ⟨S l, rfl, by rw [S_len]; exact hz, by rw [cutS_any l hi]; exact q⟩
theorem w_slS1 {l : List Nat} {i : Nat} (hz : l.length ≤ sizeLine) (hi : i ≤ l.length) (q : Q (.str (S (l.drop i))) H) : rSlS (.str (S l)) (some (i : Int)) none H Q :=
  ⟨S l, rfl, by rw [S_len]; exact hz, by rw [cutS_from l hi]; exact q⟩
theorem w_addS {a b : List Nat} {P : Str → Str → Prop} (hz : a.length + b.length ≤ sizeLine) (q : P (S a) (S b)) : ∃ i j, V.str (S a) = .str i ∧ V.str (S b) = .str j ∧ i.length + j.length ≤ sizeLine ∧ P i j :=
  ⟨S a, S b, rfl, rfl, by rw [S_len, S_len]; exact hz, q⟩
theorem tyS {z : Str} : tyV K "str" (.str z) H := rfl
theorem tyL {p : Addr} {xs : List V} (h : H p = some (.lst xs)) : tyV K "list" (.ref p) H := Or.inl ⟨rfl, xs, SqL.of h⟩
end
section
variable {K : PySem.W.Frag} {σ : L2.St} {H : Hp} {Q : VK} {tl te : TE}
theorem w_iStr {R : It → Hp → Prop} (h : te σ H fun v H1 => ∃ x, v = .str x ∧ R (Its x) H1) : iStr te σ H R := h
theorem for_str {x : Str} {g : TG} {tb : TS} {D : Ends} (Pv : Nat → L2.St → Hp → Prop) (h0 : Pv 0 σ H)
    (hs : ∀ i c σ H, x.cps.toList[i]? = some c → Pv i σ H → g (.str (S [c])) σ H fun σ2 H2 => tb { D with nx := Pv (i + 1), ct := Pv (i + 1), bk := D.nx } σ2 H2) (hd : ∀ σ H, Pv x.cps.toList.length σ H → D.nx σ H) :
    ∃ W : Nat → Nat → L2.St → Hp → Prop, (∃ m, W 0 m σ H) ∧ ∀ i m σ H, W i m σ H →
      ((Its x).stop i H ∧ D.nx σ H) ∨ ((Its x).go i H ∧ ∃ N : L2.St → Hp → Prop, (∀ σ' H', N σ' H' → ∃ m', m' < m ∧ W (i + 1) m' σ' H') ∧ ∀ v H', (Its x).yld i H v H' → g v σ H' fun σ2 H2 => tb { D with nx := N, ct := N, bk := D.nx } σ2 H2) := by
  have el : x.cps.toList.length = x.cps.size := by simp
  refine ⟨fun i m σ H => m = x.cps.size - i ∧ i ≤ x.cps.size ∧ Pv i σ H, ⟨_, rfl, Nat.zero_le _, h0⟩, ?_⟩
  rintro i m σ H ⟨rfl, hi, p⟩
  by_cases hlt : i < x.cps.size
  · refine .inr ⟨hlt, Pv (i + 1), fun σ' H' p' => ⟨x.cps.size - (i + 1), by omega, rfl, hlt, p'⟩, fun v H' y => ?_⟩
    obtain ⟨e, c, hc, rfl⟩ := y
    subst e
    exact hs i c σ _ (by simpa using hc) p
  · have e : i = x.cps.size := by omega
    subst e
    exact .inl ⟨Nat.le_refl _, hd σ H (by rw [el]; exact p)⟩
theorem w_forS {l : List Nat} {g : TG} {tb : TS} {D : Ends} (Pv : Nat → L2.St → Hp → Prop) (h0 : Pv 0 σ H)
    (hs : ∀ i c σ H, l[i]? = some c → Pv i σ H → g (.str (S [c])) σ H fun σ2 H2 => tb { D with nx := Pv (i + 1), ct := Pv (i + 1), bk := D.nx } σ2 H2) (hd : ∀ σ H, Pv l.length σ H → D.nx σ H) :
    ∃ x, V.str (S l) = .str x ∧ ∃ W : Nat → Nat → L2.St → Hp → Prop, (∃ m, W 0 m σ H) ∧ ∀ i m σ H, W i m σ H →
      ((Its x).stop i H ∧ D.nx σ H) ∨ ((Its x).go i H ∧ ∃ N : L2.St → Hp → Prop, (∀ σ' H', N σ' H' → ∃ m', m' < m ∧ W (i + 1) m' σ' H') ∧ ∀ v H', (Its x).yld i H v H' → g v σ H' fun σ2 H2 => tb { D with nx := N, ct := N, bk := D.nx } σ2 H2) :=
  ⟨S l, rfl, for_str Pv h0 (fun i c σ H hi p => hs i c σ H (by simpa [SX.S] using hi) p) (fun σ H p => hd σ H (by simpa [SX.S] using p))⟩
theorem find_one (l : List Nat) (c : Nat) : Txt.find (S l) (S [c]) = (match l.findIdx? (· == c) with | some k => (k : Int) | none => -1) := by
  have h := find3_one l c 0
  have e : Txt.find3 (S l) (S [c]) ((0 : Nat) : Int) = Txt.find (S l) (S [c]) := by
    unfold Txt.find3 Txt.find
    rw [fromIx]
    rfl
  rw [← e, h, List.drop_zero]
  cases l.findIdx? (· == c) with
  | none => rfl
  | some k =>
    show ((0 + k : Nat) : Int) = (k : Int)
    rw [Nat.zero_add]
theorem w_1s {a : Str} {P : Str → Prop} (q : P a) : ∃ (x : Str), V.str a = .str x ∧ ([] : List V) = [] ∧ P x := ⟨a, rfl, rfl, q⟩
end
section
variable {K : PySem.W.Frag} {σ : L2.St} {H : Hp} {Q : VK} {i : Nat}
theorem str_len_app (a b : Str) : (a ++ b).length = a.length + b.length := by
  rw [TL.len_tl, TL.len_tl, TL.len_tl, TL.tl_append, List.length_append]
theorem num_short {n : Nat} (h : n < 10 ^ 7) : (Str.ofString (toString ((n : Nat) : Int))).length ≤ 7 := by
  rw [TL.len_tl, TL.tl_num]
  exact TL.numL_len (by decide) h
theorem w_fmt {n : Nat} {Q : VK} (h : n < 10 ^ 7) (hv : σ[i]? = some (some (.int (n : Int)))) (q : Q (.str (toString ((n : Nat) : Int))) H) : tFmt (tVar i) σ H Q := by
  refine ⟨_, hv, .inr ⟨_, rfl, ?_, q⟩⟩
  by_cases h0 : n = 0
  · subst h0
    decide
  · rw [Int.natAbs_natCast]
    have := (Nat.log2_lt h0 (k := 24)).mpr (Nat.lt_of_lt_of_le h (by decide))
    omega
/-- f'a{n}' and f'a{n}b' -/
theorem w_msg2 {a : Str} {n : Nat} {R : Str → Hp → Prop} (ha : a.length ≤ 1000) (h : n < 10 ^ 7) (hv : σ[i]? = some (some (.int (n : Int)))) (q : ∀ z, R z H) : tJs [tC (.str a), tFmt (tVar i)] Str.empty σ H R := by
  have e0 : (Str.empty ++ a).length = a.length := by rw [str_len_app]; exact Nat.zero_add _
  have l := num_short h
  refine ⟨a, rfl, by rw [e0]; exact Nat.le_trans ha (by decide), w_fmt h hv ⟨_, rfl, ?_, q _⟩⟩
  rw [str_len_app, e0]
  exact Nat.le_trans (Nat.add_le_add ha l) (by decide)
theorem w_msg3 {a b : Str} {n : Nat} {R : Str → Hp → Prop} (ha : a.length ≤ 1000) (hb : b.length ≤ 1000) (h : n < 10 ^ 7) (hv : σ[i]? = some (some (.int (n : Int)))) (q : ∀ z, R z H) : tJs [tC (.str a), tFmt (tVar i), tC (.str b)] Str.empty σ H R := by
  have e0 : (Str.empty ++ a).length = a.length := by rw [str_len_app]; exact Nat.zero_add _
  have l := num_short h
  refine ⟨a, rfl, by rw [e0]; exact Nat.le_trans ha (by decide), w_fmt h hv ⟨_, rfl, ?_, ⟨b, rfl, ?_, q _⟩⟩⟩
  · rw [str_len_app, e0]
    exact Nat.le_trans (Nat.add_le_add ha l) (by decide)
  · rw [str_len_app, str_len_app, e0]
    exact Nat.le_trans (Nat.add_le_add (Nat.add_le_add ha l) hb) (by decide)
/-- in a tuple of texts -/
theorem inV_txt (a : List Nat) : ∀ ls : List (List Nat), inV (.str (S a)) (ls.map fun l => V.str (S l)) = decide (a ∈ ls)
  | [] => by simp [inV]
  | l :: r => by
    have ih := inV_txt a r
    unfold inV at ih ⊢
    rw [List.map_cons, List.any_cons, ih]
    show ((S l == S a) || decide (a ∈ r)) = _
    rw [SX.S_beq]
    by_cases h : l = a
    · subst h; simp
    · have : (l == a) = false := by simp [h]
      rw [this, Bool.false_or]
      have h' : ¬ a = l := fun e => h e.symm
      simp [h']
theorem flat_txt : ∀ ls : List (List Nat), (ls.map fun l => V.str (S l)).all flatV = true
  | [] => rfl
  | _ :: r => flat_txt r
theorem w_inT {a : List Nat} {p : Addr} {ls : List (List Nat)} (h : SqT K H p (ls.map fun l => V.str (S l))) (q : Q (.bl (decide (a ∈ ls))) H) : rIn K false (.str (S a)) (.ref p) H Q :=
  ⟨p, _, rfl, .inr h, rfl, flat_txt ls, by rw [inV_txt]; exact q⟩
theorem str_eq {a b : List Nat} : (decide (V.str (S a) = V.str (S b))) = decide (a = b) := by
  by_cases h : a = b
  · subst h; simp
  · rw [decide_eq_false h, decide_eq_false]
    intro e
    exact h (SX.S_inj (V.str.inj e))
theorem w_eqS {a b : List Nat} (q : Q (.bl (decide (a = b))) H) : rEq (.str (S a)) (.str (S b)) H Q := ⟨rfl, by rw [str_eq]; exact q⟩
theorem w_neS {a b : List Nat} (q : Q (.bl (!decide (a = b))) H) : rNe (.str (S a)) (.str (S b)) H Q := ⟨rfl, by rw [str_eq]; exact q⟩
theorem int_eq {a b : Int} : (decide (V.int a = V.int b)) = decide (a = b) := by simp
theorem w_eqI {a b : Int} (q : Q (.bl (decide (a = b))) H) : rEq (.int a) (.int b) H Q := ⟨rfl, by rw [int_eq]; exact q⟩
theorem w_iteN {p A B : Prop} [Decidable p] (h1 : ¬ p → A) (h2 : p → B) : if (!decide p) = true then A else B := by
  by_cases c : p
  · rw [decide_eq_true c]; exact h2 c
  · rw [decide_eq_false c]; exact h1 c
end
section
variable {X : Cx}
/-- a text times a number -/
theorem op_mulS : OpR X (binaryOp .Mult) (fun x y H Q => ∃ (a : Str) (n : Int), x = .str a ∧ y = .int n ∧ a.length ≤ 4096 ∧ n ≤ 4096 ∧ -(2 ^ 63 : Int) ≤ n ∧ Q (.str (Txt.mul a n)) H) := by
  intro pins s σ H x y v u Q I rx ry h
  obtain ⟨a, n, rfl, rfl, h1, h2, h3, q⟩ := h
  obtain ⟨t, rfl⟩ := rx
  obtain ⟨t', rfl⟩ := ry
  exact PySem.SB.mul (PyProof.Rows.mulOk_of 4096 4096 h1 (by omega) h3 (by decide) (by decide)) fun t'' k => ⟨.str (Txt.mul a n), H, I.tok k, ⟨t'', rfl⟩, q⟩
/-- 'c' op e, where e wants a token that is out -/
theorem pe_opStr {op : Operator} {r : R2} {x : Str} {j : Nat} {p pos : Pos} {f : Expr} {tf : TE} (ho : OpR X (binaryOp op) r) (hb : PET X f tf) : PE X (.BinOp (.Constant (.str x) j p) op f pos) (tOp r (tC (.str x)) tf) := by
  refine ⟨fun pins s σ H Q I h => ?_⟩
  refine wpAny_BinOp (Calls.Constant_str ?_)
  exact thn (hb pins { s with toks := s.toks + 1 } σ H _ (by show 1 ≤ s.toks + 1; omega) (I.tok _) h) fun u s2 ⟨y, H2, I2, r2, q2⟩ => ho pins s2 σ H2 (.str x) y _ u Q I2 ⟨_, rfl⟩ r2 q2
theorem w_repl {σ : L2.St} {H : Hp} {Q : VK} {to : TE} {y z : Str} (h : to σ H fun v H1 => ∃ x, v = .str x ∧ x.length + (x.length + 1) * z.length ≤ 16777216 ∧ Q (.str (Txt.replace x y z)) H1) : CwR.tReplC to y z σ H Q := h
end
theorem vS_cat (a b : List Nat) : V.str (SX.S a ++ SX.S b) = V.str (SX.S (a ++ b)) := congrArg V.str (SX.S_cat a b)
/-- ' doubled -/
theorem repl_dbl (l : List Nat) : Txt.replace (S l) (S [39]) (S [39, 39]) = S (StrLaws.dbl 39 l) := by
  rw [PyProof.Rows.replace_dbl (S l) (S [39]) (S [39, 39]) 39 rfl rfl, S_list]
theorem dbl_len (c : Nat) : ∀ l : List Nat, (StrLaws.dbl c l).length ≤ 2 * l.length
  | [] => by simp [StrLaws.dbl]
  | k :: r => by
    have := dbl_len c r
    rw [StrLaws.dbl]
    split
    · simp only [List.length_cons]; omega
    · simp only [List.length_cons]; omega
end Fw
end

section
-- part Hkl
set_option Elab.async false
set_option linter.all false
set_option maxRecDepth 100000
/-! Hkl: a Hook that looks at the objects of a list of addresses as it is given -/
namespace HkL
open PySem PySem.Spec PyProof.Rows L2 He
def obsL (L : List Addr) (fa : List Fa) (fn : List DefD) (ts : List Tab) (tf : List Defn) (ex : PySem.W.Frag → Bool) (g : Addr → Option Obj) : AlX :=
  (obsT fa fn ts (frT g L), ex (frT g L) && tabsB g tf (frT g L))
variable {L : List Addr} {fa : List Fa} {fn : List DefD} {ts : List Tab} {tf : List Defn} {ex : PySem.W.Frag → Bool} {w : World} {h : Heap}
theorem tabs_at {K : PySem.W.Frag} (b : tabsB h.get? tf K = true) {p : Defn} (hp : p ∈ tf) : PySem.W.codeHdIn K (cT K p).1 (cT K p).2 = true ∧ ∃ o, h.get? (cT K p).2 = some o ∧ emptyTab o = true := by
  obtain ⟨c1, c2⟩ := Bool.and_eq_true_iff.mp (List.all_eq_true.mp b p hp)
  refine ⟨c1, ?_⟩
  generalize h.get? (cT K p).2 = z at c2
  cases z with
  | some o => exact ⟨o, rfl, c2⟩
  | none => cases c2
theorem saysL_of (e : obsL L fa fn ts tf ex h.get? = valX fn ts w) : SaysX fa fn ts tf ex w h (frT h.get? L) := by
  have b := Bool.and_eq_true_iff.mp (congrArg Prod.snd e)
  refine { t := congrArg Prod.fst e, more := b.1, hd := fun p hp => (tabs_at b.2 hp).1, out := fun p hp => ?_, empty := fun p hp => ?_ }
  · obtain ⟨o, q, z⟩ := (tabs_at b.2 hp).2
    exact frT_none q z
  · obtain ⟨o, q, z⟩ := (tabs_at b.2 hp).2
    rw [q, emptyTab_eq z]
def hookL (L : List Addr) (fa : List Fa) (fn : List DefD) (ts : List Tab) (tf : List Defn) (ex : PySem.W.Frag → Bool) : PySem.W.Hook where
  α := AlX
  obs s := obsL L fa fn ts tf ex s.heap.get?
  val w := valX fn ts w
  says w h := ∃ K : PySem.W.Frag, K.In h ∧ SaysX fa fn ts tf ex w h K
  of _ _ e := ⟨_, frT_in, saysL_of e⟩
  keeps _ _ _ := fun ⟨K, hK, c⟩ k => ⟨K, PySem.W.Frag.In.keeps hK k, c.t, c.more, c.hd, c.out, fun p hp => k _ _ (c.empty p hp)⟩
theorem obsL_eq {g : Addr → Option Obj} {s : Shared} (q : ∀ a, g a = s.heap.get? a) : obsL L fa fn ts tf ex g = (hookL L fa fn ts tf ex).obs s := by
  cases (funext q : g = s.heap.get?)
  rfl
/-- addresses from a on, so many -/
def ups (a n : Nat) : List Addr := (List.range n).map (a + ·)
end HkL
end

section
-- part t0
set_option Elab.async false
set_option linter.all false
set_option maxRecDepth 100000
set_option maxHeartbeats 2000000
namespace K04
open PySem PySem.Spec PyProof.Rows L2 Fw
def top (i : Nat) : Stmt := PySem.Challenge.pw_tablestack_k04_values_and_truths.main.body.getD i (.Pass ⟨0, 0, 0, 0⟩)
abbrev s__law_dice : Stmt := top 72
abbrev s__law_roll : Stmt := top 73
abbrev s__law_rounds : Stmt := top 74
abbrev s_sign_number : Stmt := top 30
abbrev s_check_text : Stmt := top 31
abbrev s_run_end : Stmt := top 49
abbrev s_gap_end : Stmt := top 47
abbrev s_Token___init__ : Stmt := inClass (top 45) 0
abbrev s_word_token : Stmt := top 50
abbrev s_number_token : Stmt := top 51
abbrev s_quoted_token : Stmt := top 52
abbrev s_token_at : Stmt := top 48
abbrev s_tokenize : Stmt := top 46
abbrev s_kind_of : Stmt := top 10
abbrev s_in_range : Stmt := top 11
abbrev s_rank : Stmt := top 12
abbrev s_row_rank : Stmt := top 13
abbrev s_same_kind : Stmt := top 14
abbrev s_compare : Stmt := top 15
abbrev s_arithmetic : Stmt := top 16
abbrev s_concat : Stmt := top 17
abbrev s_both : Stmt := top 18
abbrev s_either : Stmt := top 19
abbrev s_negated : Stmt := top 20
abbrev s_like : Stmt := top 21
abbrev s_closed : Stmt := top 22
abbrev s_stepped : Stmt := top 23
abbrev s_value_text : Stmt := top 24
abbrev s_quoted : Stmt := top 25
abbrev s_sum_of : Stmt := top 26
abbrev s_least_of : Stmt := top 27
abbrev s__law_told : Stmt := top 75
abbrev s__law_rank : Stmt := top 76
abbrev s__law_and : Stmt := top 77
abbrev s__law_not : Stmt := top 78
abbrev s__law_number : Stmt := top 79
abbrev s__law_cmp : Stmt := top 80
abbrev s__law_like : Stmt := top 81
abbrev s__law_value_drawn : Stmt := top 82
abbrev s__law_sort : Stmt := top 83
abbrev s_law : Stmt := top 84
abbrev s_Reader___init__ : Stmt := inClass (top 55) 0
abbrev s_Reader_word_at : Stmt := inClass (top 55) 1
abbrev s_Reader_ahead : Stmt := inClass (top 55) 2
abbrev s_Reader_taken : Stmt := inClass (top 55) 3
abbrev s_Reader_take : Stmt := inClass (top 55) 4
abbrev s_Reader_finish : Stmt := inClass (top 55) 5
abbrev s_Reader_enter : Stmt := inClass (top 55) 6
abbrev s_Reader_leave : Stmt := inClass (top 55) 7
abbrev s_QueryReader_expression : Stmt := inClass (top 66) 0
abbrev s_QueryReader_condition : Stmt := inClass (top 66) 1
abbrev s_QueryReader_comparison : Stmt := inClass (top 66) 2
abbrev s_QueryReader_amount : Stmt := inClass (top 66) 4
abbrev s_QueryReader_operand : Stmt := inClass (top 66) 5
abbrev s_QueryReader_minus : Stmt := inClass (top 66) 6
abbrev s_QueryReader_literal : Stmt := inClass (top 66) 11
abbrev s_closing_places : Stmt := top 56
abbrev s_wrapped_places : Stmt := top 57
abbrev s_parse_expression : Stmt := top 69
abbrev s_checked : Stmt := top 70
end K04
end

section
-- part l0
set_option Elab.async false
set_option linter.all false
set_option maxRecDepth 100000
set_option maxHeartbeats 2000000
namespace K04
open PySem PySem.Spec PyProof.Rows L2 Fw
theorem abs_rel {x : V} {u : Value} (h : absV u = some x) : RelV x u := by
  cases u <;> first
    | (cases h; rfl)
    | (cases h; exact ⟨_, rfl⟩)
    | cases h
theorem vals_of : ∀ {us : List Value} {xs : List V}, us.map absV = xs.map some → Vals xs us
  | [], [], _ => .nil
  | [], _ :: _, h => by cases h
  | _ :: _, [], h => by cases h
  | u :: us, x :: xs, h => by
    obtain ⟨h1, h2⟩ := List.cons.inj h
    exact .cons (abs_rel h1) (vals_of h2)
def tupB (K : PySem.W.Frag) (a : Addr) (xs : List V) : Bool := match K.lookup a with
  | some ⟨.type c, _, .seq its _, _⟩ => decide (c = "tuple") && (decide (its.size ≤ 100) && decide (its.toList.map absV = xs.map some))
  | _ => false
theorem tupB_ok {K : PySem.W.Frag} {a : Addr} {xs : List V} (h : tupB K a xs = true) (H : Hp) : SqT K H a xs := by
  unfold tupB at h
  cases q : K.lookup a with
  | none =>
    rw [q] at h
    cases h
  | some o =>
    obtain ⟨oc, od, dt, osl⟩ := o
    rw [q] at h
    cases oc with
    | type c =>
      cases dt with
      | seq its n =>
        have h' : (decide (c = "tuple") && (decide (its.size ≤ 100) && decide (its.toList.map absV = xs.map some))) = true := h
        obtain ⟨h1, h2⟩ := He.ba h'
        obtain ⟨h3, h4⟩ := He.ba h2
        exact .inr ⟨_, its, n, q, congrArg Value.type (of_decide_eq_true h1), rfl, Nat.le_trans (of_decide_eq_true h3) (by decide), vals_of (of_decide_eq_true h4)⟩
      | _ => cases h
    | _ => cases dt <;> cases h
def kStr (K : PySem.W.Frag) (d : Addr) (z : Str) (n : Str) : Bool := match PySem.W.nsIn K d z with
  | some (some (.str m _)) => decide (m = n)
  | _ => false
theorem kStr_ok {K : PySem.W.Frag} {d : Addr} {z n : Str} (h : kStr K d z n = true) : ∃ t, PySem.W.nsIn K d z = some (some (.str n t)) := by
  unfold kStr at h
  split at h
  · rename_i m t e
    exact ⟨t, by rw [e, of_decide_eq_true h]⟩
  · cases h
def tsV (ls : List (List Nat)) : List V := ls.map fun l => V.str (S l)
def tL0 : List (List Nat) := [[60, 62], [60, 61], [62, 61], [124, 124]]
def tS0 : List (List Nat) := [[40], [41], [44], [46], [59], [61], [60], [62], [43], [45], [42], [47]]
def tK0 : List (List Nat) := [[97, 108, 108], [97, 110, 97, 108, 121, 122, 101], [97, 110, 100], [97, 115], [97, 115, 99], [98, 101, 103, 105, 110], [98, 101, 116, 119, 101, 101, 110], [98, 121], [99, 97, 115, 101], [99, 104, 101, 99, 107], [99, 111, 109, 109, 105, 116], [99, 114, 101, 97, 116, 101], [100, 101, 102, 97, 117, 108, 116], [100, 101, 108, 101, 116, 101], [100, 101, 115, 99], [100, 105, 115, 116, 105, 110, 99, 116], [100, 114, 111, 112], [101, 108, 115, 101], [101, 110, 100], [101, 120, 99, 101, 112, 116], [101, 120, 105, 115, 116, 115], [101, 120, 112, 108, 97, 105, 110], [102, 111, 114, 101, 105, 103, 110], [102, 114, 111, 109], [103, 114, 111, 117, 112], [104, 97, 118, 105, 110, 103], [105, 110], [105, 110, 100, 101, 120], [105, 110, 115, 101, 114, 116], [105, 110, 116], [105, 110, 116, 101, 114, 115, 101, 99, 116], [105, 110, 116, 111], [105, 115], [106, 111, 105, 110], [107, 101, 121], [108, 101, 102, 116], [108, 105, 107, 101], [108, 105, 109, 105, 116], [109, 111, 100], [110, 111, 116], [110, 117, 108, 108], [111, 102, 102, 115, 101, 116], [111, 110], [111, 114], [111, 114, 100, 101, 114], [112, 114, 105, 109, 97, 114, 121], [114, 101, 102, 101, 114, 101, 110, 99, 101, 115], [114, 101, 108, 101, 97, 115, 101], [114, 111, 108, 108, 98, 97, 99, 107], [115, 97, 118, 101, 112, 111, 105, 110, 116], [115, 101, 108, 101, 99, 116], [115, 101, 116], [116, 97, 98, 108, 101], [116, 101, 120, 116], [116, 104, 101, 110], [116, 111], [117, 110, 105, 111, 110], [117, 110, 105, 113, 117, 101], [117, 112, 100, 97, 116, 101], [118, 97, 108, 117, 101, 115], [118, 105, 101, 119], [119, 104, 101, 110], [119, 104, 101, 114, 101]]
def tC0 : List (List Nat) := [[61], [60, 62], [60], [60, 61], [62], [62, 61]]
def exTu (K : PySem.W.Frag) : Bool := tupB K (He.ga K "LONG_SIGNS") (tsV tL0) && (tupB K (He.ga K "SHORT_SIGNS") (tsV tS0) && (tupB K (He.ga K "KEYWORDS") (tsV tK0) && tupB K (He.ga K "COMPARISONS") (tsV tC0)))
def exDi (K : PySem.W.Frag) : Bool := He.eqO (PySem.W.nsIn K (He.ga K "LOGIC") (Str.ofString "end of text")) (some none) && (He.eqO (PySem.W.nsIn K (He.ga K "ARITHMETIC") (Str.ofString "end of text")) (some none) && (kStr K (He.ga K "LITERALS") (Str.ofString "int") "int" && kStr K (He.ga K "LITERALS") (Str.ofString "quoted") "text"))
def exNe (K : PySem.W.Frag) : Bool := decide (He.ga K "Token" ≠ He.ga K "QueryReader")
end K04
end

section
-- part K04XI0
set_option Elab.async false
set_option linter.all false
set_option maxRecDepth 100000
set_option maxHeartbeats 0
namespace K04
open PySem PySem.Spec PyProof.Rows L2 Fw
def fnD : List He.DefD := [⟨("_law_dice", none), "_law_dice", "_law_dice", defArgs s__law_dice, defBody s__law_dice, defScope s__law_dice, [], []⟩,
  ⟨("_law_roll", none), "_law_roll", "_law_roll", defArgs s__law_roll, defBody s__law_roll, defScope s__law_roll, [], []⟩,
  ⟨("_law_rounds", none), "_law_rounds", "_law_rounds", defArgs s__law_rounds, defBody s__law_rounds, defScope s__law_rounds, [], []⟩,
  ⟨("sign_number", none), "sign_number", "sign_number", defArgs s_sign_number, defBody s_sign_number, defScope s_sign_number, [], []⟩,
  ⟨("check_text", none), "check_text", "check_text", defArgs s_check_text, defBody s_check_text, defScope s_check_text, [], []⟩,
  ⟨("run_end", none), "run_end", "run_end", defArgs s_run_end, defBody s_run_end, defScope s_run_end, [], []⟩,
  ⟨("gap_end", none), "gap_end", "gap_end", defArgs s_gap_end, defBody s_gap_end, defScope s_gap_end, [], []⟩,
  ⟨("word_token", none), "word_token", "word_token", defArgs s_word_token, defBody s_word_token, defScope s_word_token, [], []⟩,
  ⟨("number_token", none), "number_token", "number_token", defArgs s_number_token, defBody s_number_token, defScope s_number_token, [], []⟩,
  ⟨("quoted_token", none), "quoted_token", "quoted_token", defArgs s_quoted_token, defBody s_quoted_token, defScope s_quoted_token, [], []⟩,
  ⟨("token_at", none), "token_at", "token_at", defArgs s_token_at, defBody s_token_at, defScope s_token_at, [], []⟩,
  ⟨("tokenize", none), "tokenize", "tokenize", defArgs s_tokenize, defBody s_tokenize, defScope s_tokenize, [], []⟩,
  ⟨("kind_of", none), "kind_of", "kind_of", defArgs s_kind_of, defBody s_kind_of, defScope s_kind_of, [], []⟩,
  ⟨("in_range", none), "in_range", "in_range", defArgs s_in_range, defBody s_in_range, defScope s_in_range, [], []⟩,
  ⟨("rank", none), "rank", "rank", defArgs s_rank, defBody s_rank, defScope s_rank, [], []⟩,
  ⟨("row_rank", none), "row_rank", "row_rank", defArgs s_row_rank, defBody s_row_rank, defScope s_row_rank, [], []⟩,
  ⟨("same_kind", none), "same_kind", "same_kind", defArgs s_same_kind, defBody s_same_kind, defScope s_same_kind, [], []⟩,
  ⟨("compare", none), "compare", "compare", defArgs s_compare, defBody s_compare, defScope s_compare, [], []⟩,
  ⟨("arithmetic", none), "arithmetic", "arithmetic", defArgs s_arithmetic, defBody s_arithmetic, defScope s_arithmetic, [], []⟩,
  ⟨("concat", none), "concat", "concat", defArgs s_concat, defBody s_concat, defScope s_concat, [], []⟩,
  ⟨("both", none), "both", "both", defArgs s_both, defBody s_both, defScope s_both, [], []⟩,
  ⟨("either", none), "either", "either", defArgs s_either, defBody s_either, defScope s_either, [], []⟩,
  ⟨("negated", none), "negated", "negated", defArgs s_negated, defBody s_negated, defScope s_negated, [], []⟩,
  ⟨("like", none), "like", "like", defArgs s_like, defBody s_like, defScope s_like, [], []⟩,
  ⟨("closed", none), "closed", "closed", defArgs s_closed, defBody s_closed, defScope s_closed, [], []⟩,
  ⟨("stepped", none), "stepped", "stepped", defArgs s_stepped, defBody s_stepped, defScope s_stepped, [], []⟩,
  ⟨("value_text", none), "value_text", "value_text", defArgs s_value_text, defBody s_value_text, defScope s_value_text, [], []⟩,
  ⟨("quoted", none), "quoted", "quoted", defArgs s_quoted, defBody s_quoted, defScope s_quoted, [], []⟩,
  ⟨("sum_of", none), "sum_of", "sum_of", defArgs s_sum_of, defBody s_sum_of, defScope s_sum_of, [], []⟩,
  ⟨("least_of", none), "least_of", "least_of", defArgs s_least_of, defBody s_least_of, defScope s_least_of, [], []⟩,
  ⟨("_law_rank", none), "_law_rank", "_law_rank", defArgs s__law_rank, defBody s__law_rank, defScope s__law_rank, [], []⟩,
  ⟨("_law_and", none), "_law_and", "_law_and", defArgs s__law_and, defBody s__law_and, defScope s__law_and, [], []⟩,
  ⟨("_law_not", none), "_law_not", "_law_not", defArgs s__law_not, defBody s__law_not, defScope s__law_not, [], []⟩,
  ⟨("_law_number", none), "_law_number", "_law_number", defArgs s__law_number, defBody s__law_number, defScope s__law_number, [], []⟩,
  ⟨("_law_cmp", none), "_law_cmp", "_law_cmp", defArgs s__law_cmp, defBody s__law_cmp, defScope s__law_cmp, [], []⟩,
  ⟨("_law_like", none), "_law_like", "_law_like", defArgs s__law_like, defBody s__law_like, defScope s__law_like, [], []⟩,
  ⟨("_law_value_drawn", none), "_law_value_drawn", "_law_value_drawn", defArgs s__law_value_drawn, defBody s__law_value_drawn, defScope s__law_value_drawn, [], []⟩,
  ⟨("_law_sort", none), "_law_sort", "_law_sort", defArgs s__law_sort, defBody s__law_sort, defScope s__law_sort, [], []⟩,
  ⟨("closing_places", none), "closing_places", "closing_places", defArgs s_closing_places, defBody s_closing_places, defScope s_closing_places, [], []⟩,
  ⟨("wrapped_places", none), "wrapped_places", "wrapped_places", defArgs s_wrapped_places, defBody s_wrapped_places, defScope s_wrapped_places, [], []⟩,
  ⟨("parse_expression", none), "parse_expression", "parse_expression", defArgs s_parse_expression, defBody s_parse_expression, defScope s_parse_expression, [], []⟩,
  ⟨("checked", none), "checked", "checked", defArgs s_checked, defBody s_checked, defScope s_checked, [], []⟩,
  ⟨("_law_told", none), "_law_told", "_law_told", defArgs s__law_told, defBody s__law_told, defScope s__law_told, [], []⟩,
  ⟨("law", none), "law", "law", defArgs s_law, defBody s_law, defScope s_law, [], []⟩,
  ⟨("Token", some "__init__"), "__init__", "Token.__init__", defArgs s_Token___init__, defBody s_Token___init__, defScope s_Token___init__, [], []⟩,
  ⟨("QueryReader", some "__init__"), "__init__", "Reader.__init__", defArgs s_Reader___init__, defBody s_Reader___init__, defScope s_Reader___init__, [], []⟩,
  ⟨("QueryReader", some "word_at"), "word_at", "Reader.word_at", defArgs s_Reader_word_at, defBody s_Reader_word_at, defScope s_Reader_word_at, [], []⟩,
  ⟨("QueryReader", some "ahead"), "ahead", "Reader.ahead", defArgs s_Reader_ahead, defBody s_Reader_ahead, defScope s_Reader_ahead, [.int 0], []⟩,
  ⟨("QueryReader", some "taken"), "taken", "Reader.taken", defArgs s_Reader_taken, defBody s_Reader_taken, defScope s_Reader_taken, [], []⟩,
  ⟨("QueryReader", some "take"), "take", "Reader.take", defArgs s_Reader_take, defBody s_Reader_take, defScope s_Reader_take, [], []⟩,
  ⟨("QueryReader", some "finish"), "finish", "Reader.finish", defArgs s_Reader_finish, defBody s_Reader_finish, defScope s_Reader_finish, [], []⟩,
  ⟨("QueryReader", some "enter"), "enter", "Reader.enter", defArgs s_Reader_enter, defBody s_Reader_enter, defScope s_Reader_enter, [], []⟩,
  ⟨("QueryReader", some "leave"), "leave", "Reader.leave", defArgs s_Reader_leave, defBody s_Reader_leave, defScope s_Reader_leave, [], []⟩,
  ⟨("QueryReader", some "expression"), "expression", "QueryReader.expression", defArgs s_QueryReader_expression, defBody s_QueryReader_expression, defScope s_QueryReader_expression, [], []⟩,
  ⟨("QueryReader", some "condition"), "condition", "QueryReader.condition", defArgs s_QueryReader_condition, defBody s_QueryReader_condition, defScope s_QueryReader_condition, [], []⟩,
  ⟨("QueryReader", some "comparison"), "comparison", "QueryReader.comparison", defArgs s_QueryReader_comparison, defBody s_QueryReader_comparison, defScope s_QueryReader_comparison, [], []⟩,
  ⟨("QueryReader", some "amount"), "amount", "QueryReader.amount", defArgs s_QueryReader_amount, defBody s_QueryReader_amount, defScope s_QueryReader_amount, [], []⟩,
  ⟨("QueryReader", some "operand"), "operand", "QueryReader.operand", defArgs s_QueryReader_operand, defBody s_QueryReader_operand, defScope s_QueryReader_operand, [], []⟩,
  ⟨("QueryReader", some "minus"), "minus", "QueryReader.minus", defArgs s_QueryReader_minus, defBody s_QueryReader_minus, defScope s_QueryReader_minus, [], []⟩,
  ⟨("QueryReader", some "literal"), "literal", "QueryReader.literal", defArgs s_QueryReader_literal, defBody s_QueryReader_literal, defScope s_QueryReader_literal, [], []⟩]
def faD : List He.Fa := [.glo "_law_dice", .glo "_law_roll", .glo "_law_rounds", .glo "sign_number", .glo "check_text", .glo "run_end", .glo "gap_end", .glo "word_token", .glo "number_token", .glo "quoted_token", .glo "token_at", .glo "tokenize", .glo "kind_of", .glo "in_range", .glo "rank", .glo "row_rank", .glo "same_kind", .glo "compare", .glo "arithmetic", .glo "concat", .glo "both", .glo "either", .glo "negated", .glo "like", .glo "closed", .glo "stepped", .glo "value_text", .glo "quoted", .glo "sum_of", .glo "least_of", .glo "_law_rank", .glo "_law_and", .glo "_law_not", .glo "_law_number", .glo "_law_cmp", .glo "_law_like", .glo "_law_value_drawn", .glo "_law_sort", .glo "closing_places", .glo "wrapped_places", .glo "parse_expression", .glo "checked", .glo "_law_told", .glo "law", .glo "Token", .glo "QueryReader", .glo "TextError", .glo "KindFault", .glo "LONG_SIGNS", .glo "SHORT_SIGNS", .glo "KEYWORDS", .glo "COMPARISONS", .glo "LOGIC", .glo "ARITHMETIC", .glo "LITERALS", .free "abs", .free "int", .free "str", .free "len", .free "range", .free "isinstance", .free "tuple", .free "sorted", .free "max", .free "min", .free "sum", .free "any", .free "list", .free "enumerate", .str "ALPHABET" (S [10, 32, 33, 34, 35, 36, 38, 39, 40, 41, 42, 43, 44, 45, 46, 47, 48, 49, 50, 51, 52, 53, 54, 55, 56, 57, 58, 59, 60, 61, 62, 63, 64, 65, 66, 67, 68, 69, 70, 71, 72, 73, 74, 75, 76, 77, 78, 79, 80, 81, 82, 83, 84, 85, 86, 87, 88, 89, 90, 91, 92, 93, 94, 95, 96, 97, 98, 99, 100, 101, 102, 103, 104, 105, 106, 107, 108, 109, 110, 111, 112, 113, 114, 115, 116, 117, 118, 119, 120, 121, 122, 123, 124, 125, 126]), .str "GAPS" (S [32, 10]), .str "COMMENT" (S [45, 45]), .str "LETTERS" (S [97, 98, 99, 100, 101, 102, 103, 104, 105, 106, 107, 108, 109, 110, 111, 112, 113, 114, 115, 116, 117, 118, 119, 120, 121, 122, 65, 66, 67, 68, 69, 70, 71, 72, 73, 74, 75, 76, 77, 78, 79, 80, 81, 82, 83, 84, 85, 86, 87, 88, 89, 90, 95]), .str "DIGITS" (S [48, 49, 50, 51, 52, 53, 54, 55, 56, 57]), .str "QUOTE" (S [39]), .str "INT_KEYWORD" (S [105, 110, 116]), .str "INT_KIND" (S [107, 105, 110, 100, 32, 105, 110, 116]), .str "END" (S [101, 110, 100, 32, 111, 102, 32, 116, 101, 120, 116]), .str "ANY_SIGN" (S [95]), .str "ANY_TEXT" (S [42]), .int "MOST_DIGITS" 19, .int "HIGHEST" 9223372036854775807, .int "MOST_OPEN" 60, .int "MOST_NESTED" 100, .int "LOOSEST_ARITHMETIC" 5, .cls "Token", .noat "Token" "word", .noat "Token" "value", .noat "Token" "place", .mkr "Token", .cls "QueryReader", .noat "QueryReader" "tokens", .noat "QueryReader" "place", .noat "QueryReader" "opened", .noat "QueryReader" "closers", .noat "QueryReader" "wrapped", .meth "QueryReader" "word_at", .meth "QueryReader" "ahead", .meth "QueryReader" "taken", .meth "QueryReader" "take", .meth "QueryReader" "finish", .meth "QueryReader" "enter", .meth "QueryReader" "leave", .meth "QueryReader" "expression", .meth "QueryReader" "condition", .meth "QueryReader" "comparison", .meth "QueryReader" "amount", .meth "QueryReader" "operand", .meth "QueryReader" "minus", .meth "QueryReader" "literal", .mkr "QueryReader", .exc "TextError", .exc "KindFault", .exm "KindFault" "KindFault" true]
def exD (K : PySem.W.Frag) : Bool := exTu K && (exDi K && (exNe K && (decide ((He.cT K ("law", none)).2 ≠ (He.cT K ("sum_of", none)).2))))
abbrev tfD : List He.Defn := [("law", none), ("sum_of", none)]
abbrev R0 : PySem.W.OpenRow := PySem.W.OpenLaw.row PySem.Challenge.rw_tablestack_k04_values_and_truths
def L0 : List Addr := 3 :: HkL.ups 11 663
abbrev hk0 : PySem.W.Hook := HkL.hookL L0 faD fnD [((fun K => He.ga K "LOGIC"), [("or" : Str) , ("and" : Str)]), ((fun K => He.ga K "ARITHMETIC"), [("+" : Str) , ("-" : Str) , ("||" : Str) , ("*" : Str) , ("/" : Str) , ("mod" : Str)]), ((fun K => He.ga K "LITERALS"), [("int" : Str) , ("quoted" : Str)])] tfD exD
def ob0 (s : PySem.W.SharedT) : He.AlX := HkL.obsL L0 faD fnD [((fun K => He.ga K "LOGIC"), [("or" : Str) , ("and" : Str)]), ((fun K => He.ga K "ARITHMETIC"), [("+" : Str) , ("-" : Str) , ("||" : Str) , ("*" : Str) , ("/" : Str) , ("mod" : Str)]), ((fun K => He.ga K "LITERALS"), [("int" : Str) , ("quoted" : Str)])] tfD exD (HandSHeadRun.getT s)
theorem ob0_eq (s : PySem.W.SharedT) : ob0 s = hk0.obs s.abs := HkL.obsL_eq (HandSHeadRun.getT_eq s)
def loose0 : List Str := [("_wall" : Str), ("TableError" : Str), ("TextError" : Str), ("KindFault" : Str), ("HIGHEST" : Str), ("AGGREGATES" : Str), ("ANY_SIGN" : Str), ("ANY_TEXT" : Str), ("kind_of" : Str), ("in_range" : Str), ("rank" : Str), ("row_rank" : Str), ("same_kind" : Str), ("compare" : Str), ("arithmetic" : Str), ("concat" : Str), ("both" : Str), ("either" : Str), ("negated" : Str), ("like" : Str), ("closed" : Str), ("stepped" : Str), ("value_text" : Str), ("quoted" : Str), ("sum_of" : Str), ("least_of" : Str), ("ALPHABET" : Str), ("sign_number" : Str), ("check_text" : Str), ("LETTERS" : Str), ("DIGITS" : Str), ("MOST_DIGITS" : Str), ("GAPS" : Str), ("COMMENT" : Str), ("QUOTE" : Str), ("LONG_SIGNS" : Str), ("SHORT_SIGNS" : Str), ("KEYWORDS" : Str), ("INT_KEYWORD" : Str), ("INT_KIND" : Str), ("END" : Str), ("Token" : Str), ("tokenize" : Str), ("gap_end" : Str), ("token_at" : Str), ("run_end" : Str), ("word_token" : Str), ("number_token" : Str), ("quoted_token" : Str), ("MOST_OPEN" : Str), ("Reader" : Str), ("closing_places" : Str), ("wrapped_places" : Str), ("LOGIC" : Str), ("TIGHTEST_LOGIC" : Str), ("ARITHMETIC" : Str), ("LOOSEST_ARITHMETIC" : Str), ("COMPARISONS" : Str), ("LITERALS" : Str), ("GOING_ON" : Str), ("QueryReader" : Str), ("MOST_NESTED" : Str), ("parse_expression" : Str), ("checked" : Str), ("_law_dice" : Str), ("_law_roll" : Str), ("_law_rounds" : Str), ("_law_told" : Str), ("_law_rank" : Str), ("_law_and" : Str), ("_law_not" : Str), ("_law_number" : Str), ("_law_cmp" : Str), ("_law_like" : Str), ("_law_value_drawn" : Str), ("_law_sort" : Str)]
end K04
end

section
-- part K04XJ
set_option Elab.async false
set_option linter.all false
set_option maxRecDepth 100000
set_option maxHeartbeats 0
namespace K04
open PySem PySem.Spec PyProof.Rows L2 Fw
def atR (b : Bool) (g : String → Bool) : String → Bool := fun s => match decEq s "special-get-raises" with
    | Decidable.isTrue _ => b
    | Decidable.isFalse _ => g s
/-- what a world answers at one name -/
theorem at_row (f : String → Bool) : ∃ (b : Bool) (g : String → Bool), f = atR b g := ⟨f "special-get-raises", f, funext fun s => by
  unfold atR
  cases h : decEq s "special-get-raises" with
  | isTrue e => exact congrArg f e
  | isFalse _ => rfl⟩
theorem joinP {α γ1 γ3 γ4 β : Type} {o : Option α} {A : α → Bool} {B : α → β} {C : α → (γ1 × γ3) × γ4} {a : Bool} {b : β} {c : (γ1 × γ3) × γ4} (h1 : o.map (fun s => (A s, B s, (C s).1.2, (C s).2)) = some (a, b, c.1.2, c.2)) (h2 : o.map (fun s => (C s).1.1) = some c.1.1) :
    o.map (fun s => (A s, B s, C s)) = some (a, b, c) := by
  cases o with
  | none => cases h1
  | some s =>
    have e1 := Option.some.inj h1
    have e2 : (C s).1.1 = c.1.1 := Option.some.inj h2
    have f1 : A s = a := congrArg Prod.fst e1
    have f2 : B s = b := congrArg (fun z => z.2.1) e1
    have f3 : (C s).1.2 = c.1.2 := congrArg (fun z => z.2.2.1) e1
    have f4 : (C s).2 = c.2 := congrArg (fun z => z.2.2.2) e1
    have g : C s = c := Prod.ext (Prod.ext e2 f3) f4
    show some (A s, B s, C s) = some (a, b, c)
    rw [f1, f2, g]
abbrev q0 : Program := PySem.W.view R0.prog [84]
theorem run_t1 (w : World) (g : String → Bool) (h : w.params.followText = atR true g) (os : OsState) :
    (HandSHeadRun.endF (HandSHeadRun.stepQ (HandSHeadRun.denQ HandSHeadRun.tabQ) R0.prog w) 8000 R0.prog w os).map (fun s => (HandSHeadRun.looksF R0.prog (PySem.W.boot_heap w.params) s.abs, HandSHeadRun.seenQ q0 loose0 (importedModules R0.prog.main.body) (fun s => PySem.W.xlAt q0 [] s && PySem.W.recOk R0.toRowW.records s) s.abs, (ob0 s).1.2, (ob0 s).2)) = some ((true, PySem.W.openGood q0 loose0, (hk0.val w : He.AlX).1.2, (hk0.val w : He.AlX).2)) := by
  rcases w with ⟨dr, P⟩
  rcases P with ⟨a1, a2, a3, a4, a5, ft, a7, a8, a9, a10, a11, a12, a13, a14, a15, a16, a17, a18, a19, a20, a21, a22, a23, a24, a25⟩
  change ft = _ at h
  subst h
  kernel_rfl
theorem run_t2 (w : World) (g : String → Bool) (h : w.params.followText = atR true g) (os : OsState) :
    (HandSHeadRun.endF (HandSHeadRun.stepQ (HandSHeadRun.denQ HandSHeadRun.tabQ) R0.prog w) 8000 R0.prog w os).map (fun s => (ob0 s).1.1) = some ((hk0.val w : He.AlX).1.1) := by
  rcases w with ⟨dr, P⟩
  rcases P with ⟨a1, a2, a3, a4, a5, ft, a7, a8, a9, a10, a11, a12, a13, a14, a15, a16, a17, a18, a19, a20, a21, a22, a23, a24, a25⟩
  change ft = _ at h
  subst h
  kernel_rfl
theorem run_f1 (w : World) (g : String → Bool) (h : w.params.followText = atR false g) (os : OsState) :
    (HandSHeadRun.endF (HandSHeadRun.stepQ (HandSHeadRun.denQ HandSHeadRun.tabQ) R0.prog w) 8000 R0.prog w os).map (fun s => (HandSHeadRun.looksF R0.prog (PySem.W.boot_heap w.params) s.abs, HandSHeadRun.seenQ q0 loose0 (importedModules R0.prog.main.body) (fun s => PySem.W.xlAt q0 [] s && PySem.W.recOk R0.toRowW.records s) s.abs, (ob0 s).1.2, (ob0 s).2)) = some ((true, PySem.W.openGood q0 loose0, (hk0.val w : He.AlX).1.2, (hk0.val w : He.AlX).2)) := by
  rcases w with ⟨dr, P⟩
  rcases P with ⟨a1, a2, a3, a4, a5, ft, a7, a8, a9, a10, a11, a12, a13, a14, a15, a16, a17, a18, a19, a20, a21, a22, a23, a24, a25⟩
  change ft = _ at h
  subst h
  kernel_rfl
theorem run_f2 (w : World) (g : String → Bool) (h : w.params.followText = atR false g) (os : OsState) :
    (HandSHeadRun.endF (HandSHeadRun.stepQ (HandSHeadRun.denQ HandSHeadRun.tabQ) R0.prog w) 8000 R0.prog w os).map (fun s => (ob0 s).1.1) = some ((hk0.val w : He.AlX).1.1) := by
  rcases w with ⟨dr, P⟩
  rcases P with ⟨a1, a2, a3, a4, a5, ft, a7, a8, a9, a10, a11, a12, a13, a14, a15, a16, a17, a18, a19, a20, a21, a22, a23, a24, a25⟩
  change ft = _ at h
  subst h
  kernel_rfl
theorem run0 (w : World) : HandSHeadRun.RunEq R0 (PySem.W.view R0.prog [84]) hk0 ob0 8000 loose0 w := by
  obtain ⟨b, g, h⟩ := at_row w.params.followText
  intro os
  cases b with
  | true => exact joinP (run_t1 w g h os) (run_t2 w g h os)
  | false => exact joinP (run_f1 w g h os) (run_f2 w g h os)
end K04
end

section
-- part K01M
set_option Elab.async false
set_option linter.all false
set_option maxRecDepth 100000
set_option maxHeartbeats 2000000
/-! K01M: what a text's tokens are; core Lean -/
namespace Lx
open PySem PySem.Spec PyProof.Rows L2 Fw
/-- how many of the first signs are of a class -/
def run (p : Nat → Bool) (r : List Nat) : Nat := (r.takeWhile p).length
theorem run_nil (p : Nat → Bool) : run p [] = 0 := rfl
theorem run_cons (p : Nat → Bool) (c : Nat) (r : List Nat) : run p (c :: r) = if p c = true then 1 + run p r else 0 := by
  unfold run
  rw [List.takeWhile_cons]
  cases p c with
  | true => simp; omega
  | false => rfl
theorem run_le (p : Nat → Bool) (r : List Nat) : run p r ≤ r.length := by
  induction r with
  | nil => exact Nat.le_refl _
  | cons c r ih =>
    rw [run_cons]
    split
    · rw [List.length_cons]; omega
    · omega
theorem drop_get {l : List Nat} {q : Nat} (h : q < l.length) : l.drop q = l[q] :: l.drop (q + 1) := List.drop_eq_getElem_cons h
/-- signs between tokens; the flag: within a comment -/
def gap : Bool → List Nat → Nat
  | _, [] => 0
  | true, c :: r => if c = 10 then 1 + gap false r else 1 + gap true r
  | false, c :: r => if c = 32 ∨ c = 10 then 1 + gap false r else if c = 45 ∧ r.head? = some 45 then 1 + gap true r else 0
theorem gap_le : ∀ (b : Bool) (r : List Nat), gap b r ≤ r.length
  | b, [] => by simp [gap]
  | true, c :: r => by
    have h1 := gap_le false r
    have h2 := gap_le true r
    rw [gap, List.length_cons]
    split <;> omega
  | false, c :: r => by
    have h1 := gap_le false r
    have h2 := gap_le true r
    rw [gap, List.length_cons]
    split
    · omega
    · split <;> omega
/-- a comment up to its line's end -/
theorem gap_comment : ∀ (r : List Nat), gap true r = (match r.findIdx? (· == 10) with | some k => k + gap false (r.drop k) | none => r.length)
  | [] => rfl
  | c :: r => by
    rw [gap, List.findIdx?_cons]
    by_cases h : c = 10
    · subst h
      simp [gap]
    · have e : (c == 10) = false := by simp [h]
      rw [if_neg h, gap_comment r, e]
      cases r.findIdx? (· == 10) with
      | none =>
        show 1 + r.length = r.length + 1
        omega
      | some k =>
        show 1 + (k + gap false (r.drop k)) = (k + 1) + gap false ((c :: r).drop (k + 1))
        rw [List.drop_succ_cons]
        omega
/-- a text in quotes behind its first quote: its signs, and how many signs it takes -/
def quot : List Nat → Option (List Nat × Nat)
  | [] => none
  | [c] => if c = 39 then some ([], 1) else none
  | c :: d :: r => if c = 39 then (if d = 39 then (quot r).map (fun sn => (39 :: sn.1, sn.2 + 2)) else some ([], 1)) else (quot (d :: r)).map fun sn => (c :: sn.1, sn.2 + 1)
def small : List Nat := [97, 98, 99, 100, 101, 102, 103, 104, 105, 106, 107, 108, 109, 110, 111, 112, 113, 114, 115, 116, 117, 118, 119, 120, 121, 122]
def letters : List Nat := [97, 98, 99, 100, 101, 102, 103, 104, 105, 106, 107, 108, 109, 110, 111, 112, 113, 114, 115, 116, 117, 118, 119, 120, 121, 122, 65, 66, 67, 68, 69, 70, 71, 72, 73, 74, 75, 76, 77, 78, 79, 80, 81, 82, 83, 84, 85, 86, 87, 88, 89, 90, 95]
def digits : List Nat := [48, 49, 50, 51, 52, 53, 54, 55, 56, 57]
def alphabet : List Nat := [10, 32, 33, 34, 35, 36, 38, 39, 40, 41, 42, 43, 44, 45, 46, 47, 48, 49, 50, 51, 52, 53, 54, 55, 56, 57, 58, 59, 60, 61, 62, 63, 64, 65, 66, 67, 68, 69, 70, 71, 72, 73, 74, 75, 76, 77, 78, 79, 80, 81, 82, 83, 84, 85, 86, 87, 88, 89, 90, 91, 92, 93, 94, 95, 96, 97, 98, 99, 100, 101, 102, 103, 104, 105, 106, 107, 108, 109, 110, 111, 112, 113, 114, 115, 116, 117, 118, 119, 120, 121, 122, 123, 124, 125, 126]
def KW : List (List Nat) := [[97, 108, 108], [97, 110, 97, 108, 121, 122, 101], [97, 110, 100], [97, 115], [97, 115, 99], [98, 101, 103, 105, 110], [98, 101, 116, 119, 101, 101, 110], [98, 121], [99, 97, 115, 101], [99, 104, 101, 99, 107], [99, 111, 109, 109, 105, 116], [99, 114, 101, 97, 116, 101], [100, 101, 102, 97, 117, 108, 116], [100, 101, 108, 101, 116, 101], [100, 101, 115, 99], [100, 105, 115, 116, 105, 110, 99, 116], [100, 114, 111, 112], [101, 108, 115, 101], [101, 110, 100], [101, 120, 99, 101, 112, 116], [101, 120, 105, 115, 116, 115], [101, 120, 112, 108, 97, 105, 110], [102, 111, 114, 101, 105, 103, 110], [102, 114, 111, 109], [103, 114, 111, 117, 112], [104, 97, 118, 105, 110, 103], [105, 110], [105, 110, 100, 101, 120], [105, 110, 115, 101, 114, 116], [105, 110, 116], [105, 110, 116, 101, 114, 115, 101, 99, 116], [105, 110, 116, 111], [105, 115], [106, 111, 105, 110], [107, 101, 121], [108, 101, 102, 116], [108, 105, 107, 101], [108, 105, 109, 105, 116], [109, 111, 100], [110, 111, 116], [110, 117, 108, 108], [111, 102, 102, 115, 101, 116], [111, 110], [111, 114], [111, 114, 100, 101, 114], [112, 114, 105, 109, 97, 114, 121], [114, 101, 102, 101, 114, 101, 110, 99, 101, 115], [114, 101, 108, 101, 97, 115, 101], [114, 111, 108, 108, 98, 97, 99, 107], [115, 97, 118, 101, 112, 111, 105, 110, 116], [115, 101, 108, 101, 99, 116], [115, 101, 116], [116, 97, 98, 108, 101], [116, 101, 120, 116], [116, 104, 101, 110], [116, 111], [117, 110, 105, 111, 110], [117, 110, 105, 113, 117, 101], [117, 112, 100, 97, 116, 101], [118, 97, 108, 117, 101, 115], [118, 105, 101, 119], [119, 104, 101, 110], [119, 104, 101, 114, 101]]
def LONG : List (List Nat) := [[60, 62], [60, 61], [62, 61], [124, 124]]
def SHORT : List (List Nat) := [[40], [41], [44], [46], [59], [61], [60], [62], [43], [45], [42], [47]]
def sInt : List Nat := [105, 110, 116]
def sKind : List Nat := [107, 105, 110, 100, 32, 105, 110, 116]
def sName : List Nat := [110, 97, 109, 101]
def sQuoted : List Nat := [113, 117, 111, 116, 101, 100]
def sEnd : List Nat := [101, 110, 100, 32, 111, 102, 32, 116, 101, 120, 116]
def isLet (c : Nat) : Bool := decide (c ∈ letters)
def isDig (c : Nat) : Bool := decide (c ∈ digits)
def isWd (c : Nat) : Bool := decide (c ∈ letters ++ digits)
/-- a name's class -/
def wordOf (nm : List Nat) : List Nat := if nm = sInt then sKind else if nm ∈ KW then nm else sName
/-- the token that a text begins with: its class, its value, how many signs it takes; none: no token -/
def tokAt : List Nat → Option (List Nat × V × Nat)
  | [] => none
  | c :: r =>
    if isLet c = true then some (wordOf (((c :: r).take (run isWd (c :: r))).map lo1), .str (S (((c :: r).take (run isWd (c :: r))).map lo1)), run isWd (c :: r))
    else if isDig c = true then
      if 19 < run isDig (c :: r) then none
      else if 9223372036854775807 < NumText.digitsVal ((c :: r).take (run isDig (c :: r))) then none
      else some (sInt, .int (NumText.digitsVal ((c :: r).take (run isDig (c :: r))) : Nat), run isDig (c :: r))
    else if c = 39 then
      match quot r with
      | none => none
      | some (s, n) => if ∀ x ∈ s, x ∈ alphabet then some (sQuoted, .str (S s), n + 1) else none
    else if (c :: r).take 2 ∈ LONG then some ((c :: r).take 2, .str (S ((c :: r).take 2)), 2)
    else if [c] ∈ SHORT then some ([c], .str (S [c]), 1)
    else none
/-- the tokens from a place on; none: the text is refused -/
def lex : Nat → Nat → List Nat → Option (List (List Nat × V × Nat))
  | 0, _, _ => none
  | f + 1, p, r =>
    if r.drop (gap false r) = [] then some [(sEnd, .non, p + gap false r)]
    else match tokAt (r.drop (gap false r)) with
      | none => none
      | some (w, v, n) => (lex f (p + gap false r + n) (r.drop (gap false r + n))).map ((w, v, p + gap false r) :: ·)
theorem quot_cons {c : Nat} (h : ¬ c = 39) (r : List Nat) : quot (c :: r) = (quot r).map fun sn => (c :: sn.1, sn.2 + 1) := by
  cases r with
  | nil =>
    show quot [c] = none
    rw [quot, if_neg h]
  | cons d r => rw [quot, if_neg h]
theorem quot_find : ∀ r : List Nat, quot r = (match r.findIdx? (· == 39) with
  | none => none
  | some k => if (r.drop (k + 1)).head? = some 39 then (quot (r.drop (k + 2))).map (fun sn => (r.take k ++ 39 :: sn.1, k + 2 + sn.2)) else some (r.take k, k + 1))
  | [] => rfl
  | c :: r => by
    rw [List.findIdx?_cons]
    by_cases h : c = 39
    · subst h
      cases r with
      | nil => rfl
      | cons d r =>
        rw [quot, if_pos rfl]
        show _ = if some d = some 39 then Option.map _ (quot r) else _
        by_cases hd : d = 39
        · subst hd
          rw [if_pos rfl, if_pos rfl]
          congr 1
          funext sn
          show (39 :: sn.1, sn.2 + 2) = ([] ++ 39 :: sn.1, 0 + 2 + sn.2)
          rw [Nat.zero_add, Nat.add_comm]
          rfl
        · rw [if_neg hd, if_neg (fun e => hd (Option.some.inj e))]
          rfl
    · have e1 : (c == 39) = false := by simp [h]
      rw [quot_cons h, quot_find r, e1]
      cases r.findIdx? (· == 39) with
      | none => rfl
      | some k =>
        show (if (r.drop (k + 1)).head? = some 39 then _ else _ : Option (List Nat × Nat)).map _ = if ((c :: r).drop (k + 1 + 1)).head? = some 39 then _ else _
        rw [List.drop_succ_cons]
        by_cases h2 : (r.drop (k + 1)).head? = some 39
        · rw [if_pos h2, if_pos h2, Option.map_map]
          show Option.map _ (quot (r.drop (k + 2))) = Option.map _ (quot ((c :: r).drop (k + 1 + 2)))
          rw [show (c :: r).drop (k + 1 + 2) = r.drop (k + 2) from rfl]
          congr 1
          funext sn
          show (c :: (r.take k ++ 39 :: sn.1), k + 2 + sn.2 + 1) = ((c :: r).take (k + 1) ++ 39 :: sn.1, k + 1 + 2 + sn.2)
          rw [List.take_succ_cons, List.cons_append]
          congr 1
          omega
        · rw [if_neg h2, if_neg h2]
          rfl
theorem quot_len : ∀ (r s : List Nat) (n : Nat), quot r = some (s, n) → 0 < n ∧ n ≤ r.length
  | [], s, n, h => by cases h
  | [c], s, n, h => by
    rw [quot] at h
    split at h
    · cases h; exact ⟨by decide, by simp⟩
    · cases h
  | c :: d :: r, s, n, h => by
    rw [quot] at h
    split at h
    · split at h
      · obtain ⟨⟨s', n'⟩, h1, h2⟩ := Option.map_eq_some_iff.mp h
        have := quot_len r s' n' h1
        cases h2
        simp only [List.length_cons]
        omega
      · cases h
        exact ⟨by decide, by simp⟩
    · obtain ⟨⟨s', n'⟩, h1, h2⟩ := Option.map_eq_some_iff.mp h
      have := quot_len (d :: r) s' n' h1
      cases h2
      simp only [List.length_cons] at this ⊢
      omega
theorem let_wd {c : Nat} (h : isLet c = true) : isWd c = true := by
  have h2 : c ∈ letters := of_decide_eq_true h
  exact decide_eq_true (List.mem_append_left _ h2)
theorem long_two {x : List Nat} (h : x ∈ LONG) : x.length = 2 := by
  have h2 : LONG.all (fun x => x.length == 2) = true := by decide +kernel
  simpa using List.all_eq_true.mp h2 x h
theorem tokAt_len {r w : List Nat} {v : V} {n : Nat} (h : tokAt r = some (w, v, n)) : 0 < n ∧ n ≤ r.length := by
  cases r with
  | nil => cases h
  | cons c r =>
    unfold tokAt at h
    dsimp only at h
    split at h
    · rename_i c1
      cases h
      refine ⟨?_, run_le _ _⟩
      rw [run_cons, if_pos (let_wd c1)]
      omega
    · split at h
      · rename_i c1 c2
        split at h
        · cases h
        · split at h
          · cases h
          · cases h
            refine ⟨?_, run_le _ _⟩
            rw [run_cons, if_pos c2]
            omega
      · split at h
        · split at h
          · cases h
          · rename_i s n' hq
            split at h
            · cases h
              have := quot_len r _ _ hq
              rw [List.length_cons]
              omega
            · cases h
        · split at h
          · rename_i c4
            cases h
            have e := long_two c4
            rw [List.length_take] at e
            omega
          · split at h
            · cases h
              rw [List.length_cons]
              omega
            · cases h
theorem lex_done {f p : Nat} {r : List Nat} (h : r.drop (gap false r) = []) : lex (f + 1) p r = some [(sEnd, .non, p + gap false r)] := by rw [lex, if_pos h]
theorem lex_bad {f p : Nat} {r : List Nat} (h : r.drop (gap false r) ≠ []) (e : tokAt (r.drop (gap false r)) = none) : lex (f + 1) p r = none := by rw [lex, if_neg h, e]
theorem lex_step {f p n : Nat} {r w : List Nat} {v : V} (h : r.drop (gap false r) ≠ []) (e : tokAt (r.drop (gap false r)) = some (w, v, n)) :
    lex (f + 1) p r = (lex f (p + gap false r + n) (r.drop (gap false r + n))).map ((w, v, p + gap false r) :: ·) := by rw [lex, if_neg h, e]
end Lx
end

section
-- part K05M
set_option Elab.async false
set_option linter.all false
set_option maxRecDepth 100000
set_option maxHeartbeats 2000000
/-! K05M: rows as bytes; core Lean -/
namespace M5
open PySem PySem.Spec PyProof.Rows L2 Fw
abbrev HI : Int := 9223372036854775807
inductive RV where
  | non
  | txt (l : List Nat)
  | num (n : Int)
deriving DecidableEq
def alphabet : List Nat := [10, 32, 33, 34, 35, 36, 38, 39, 40, 41, 42, 43, 44, 45, 46, 47, 48, 49, 50, 51, 52, 53, 54, 55, 56, 57, 58, 59, 60, 61, 62, 63, 64, 65, 66, 67, 68, 69, 70, 71, 72, 73, 74, 75, 76, 77, 78, 79, 80, 81, 82, 83, 84, 85, 86, 87, 88, 89, 90, 91, 92, 93, 94, 95, 96, 97, 98, 99, 100, 101, 102, 103, 104, 105, 106, 107, 108, 109, 110, 111, 112, 113, 114, 115, 116, 117, 118, 119, 120, 121, 122, 123, 124, 125, 126]
def sgn (c : Nat) : Nat := alphabet.findIdx (· == c)
theorem al_len : alphabet.length = 95 := by decide +kernel
theorem sgn_ok {c : Nat} (h : c ∈ alphabet) : sgn c < 95 ∧ alphabet[sgn c]? = some c := by
  have h2 : alphabet.all (fun c => decide (sgn c < 95 ∧ alphabet[sgn c]? = some c)) = true := by decide +kernel
  exact of_decide_eq_true (List.all_eq_true.mp h2 c h)
theorem sgn_at {i : Nat} (h : i < 95) : ∃ c ∈ alphabet, alphabet[i]? = some c ∧ sgn c = i := by
  have h2 : ∀ i < 95, (match alphabet[i]? with | some c => decide (c ∈ alphabet ∧ sgn c = i) | none => false) = true := by decide +kernel
  have h3 := h2 i h
  cases e : alphabet[i]? with
  | none => rw [e] at h3; cases h3
  | some c => rw [e] at h3; exact ⟨c, (of_decide_eq_true h3).1, rfl, (of_decide_eq_true h3).2⟩
theorem sgn_lt {c d : Nat} (hc : c ∈ alphabet) (hd : d ∈ alphabet) : sgn c < sgn d ↔ c < d := by
  have h2 : alphabet.all (fun c => alphabet.all fun d => decide (sgn c < sgn d ↔ c < d)) = true := by decide +kernel
  exact of_decide_eq_true (List.all_eq_true.mp (List.all_eq_true.mp h2 c hc) d hd)
theorem sgn_inj {c d : Nat} (hc : c ∈ alphabet) (hd : d ∈ alphabet) (h : sgn c = sgn d) : c = d := by
  have h1 := sgn_lt hc hd
  have h2 := sgn_lt hd hc
  omega
/-! bytes -/
def Byt (d : List Int) : Prop := ∀ b ∈ d, 0 ≤ b ∧ b < 256
def fixedL (n : Int) : Nat → List Int
  | 0 => []
  | k + 1 => fixedL (n / 256) k ++ [n % 256]
def fromL (d : List Int) : Int := d.foldl (fun a b => a * 256 + b) 0
theorem fromL_snoc (d : List Int) (b : Int) : fromL (d ++ [b]) = fromL d * 256 + b := by simp [fromL]
theorem fixed_len (n : Int) (k : Nat) : (fixedL n k).length = k := by
  induction k generalizing n with
  | zero => rfl
  | succ k ih => rw [fixedL, List.length_append, ih]; rfl
theorem fixed_byt (n : Int) (k : Nat) : Byt (fixedL n k) := by
  induction k generalizing n with
  | zero => intro b hb; cases hb
  | succ k ih =>
    intro b hb
    rcases List.mem_append.mp hb with hb | hb
    · exact ih _ b hb
    · rw [List.mem_singleton.mp hb]; omega
theorem from_fixed (k : Nat) : ∀ n : Int, 0 ≤ n → n < 256 ^ k → fromL (fixedL n k) = n := by
  induction k with
  | zero => intro n h0 h1; simp at h1; have : n = 0 := by omega
            subst this; rfl
  | succ k ih =>
    intro n h0 h1
    rw [fixedL, fromL_snoc, ih (n / 256) (by omega) (by rw [Int.pow_succ] at h1; omega)]
    omega
theorem fixed_from : ∀ d : List Int, Byt d → fixedL (fromL d) d.length = d := by
  intro d
  rw [← List.reverse_reverse d]
  generalize d.reverse = e
  induction e with
  | nil => intro _; rfl
  | cons b e ih =>
    intro h
    rw [List.reverse_cons] at h ⊢
    have hb := h b (by simp)
    have h2 : Byt e.reverse := fun c hc => h c (List.mem_append_left _ hc)
    rw [fromL_snoc, List.length_append, List.length_singleton, fixedL]
    have e1 : (fromL e.reverse * 256 + b) / 256 = fromL e.reverse := by omega
    have e2 : (fromL e.reverse * 256 + b) % 256 = b := by omega
    rw [e1, e2, ih h2]
theorem from_bound : ∀ d : List Int, Byt d → 0 ≤ fromL d ∧ fromL d < 256 ^ d.length := by
  intro d
  rw [← List.reverse_reverse d]
  generalize d.reverse = e
  induction e with
  | nil => intro _; exact ⟨by decide, by decide⟩
  | cons b e ih =>
    intro h
    rw [List.reverse_cons] at h ⊢
    have hb := h b (by simp)
    have h2 : Byt e.reverse := fun c hc => h c (List.mem_append_left _ hc)
    obtain ⟨i1, i2⟩ := ih h2
    rw [fromL_snoc, List.length_append, List.length_singleton, Int.pow_succ]
    omega
/-! two lists that part at a place -/
def Div (a b : List Int) (lt : Bool) : Prop := ∃ p x y a' b', a = p ++ x :: a' ∧ b = p ++ y :: b' ∧ x ≠ y ∧ lt = decide (x < y)
theorem Div.app {a b : List Int} {lt : Bool} (h : Div a b lt) (u v : List Int) : Div (a ++ u) (b ++ v) lt := by
  obtain ⟨p, x, y, a', b', rfl, rfl, n, l⟩ := h
  exact ⟨p, x, y, a' ++ u, b' ++ v, by simp, by simp, n, l⟩
theorem Div.pre {a b : List Int} {lt : Bool} (h : Div a b lt) (u : List Int) : Div (u ++ a) (u ++ b) lt := by
  obtain ⟨p, x, y, a', b', rfl, rfl, n, l⟩ := h
  exact ⟨u ++ p, x, y, a', b', by simp, by simp, n, l⟩
theorem Div.ne {a b : List Int} {lt : Bool} (h : Div a b lt) : a ≠ b := by
  obtain ⟨p, x, y, a', b', rfl, rfl, n, l⟩ := h
  intro e
  exact n (List.cons.inj (List.append_cancel_left e)).1
theorem Div.nopre {a b : List Int} {lt : Bool} (h : Div a b lt) : b.take a.length ≠ a := by
  obtain ⟨p, x, y, a', b', rfl, rfl, n, l⟩ := h
  intro e
  rw [List.take_append, List.take_of_length_le (by simp)] at e
  have e2 := List.append_cancel_left e
  have : (p ++ x :: a').length - p.length = a'.length + 1 := by simp
  rw [this, List.take_succ_cons] at e2
  exact n (List.cons.inj e2).1.symm
theorem lex_app (p a b : List Int) : HT.lexLt (p ++ a) (p ++ b) = HT.lexLt a b := by
  induction p with
  | nil => rfl
  | cons x p ih =>
    rw [List.cons_append, List.cons_append]
    simp [HT.lexLt, ih]
theorem Div.lex {a b : List Int} {lt : Bool} (h : Div a b lt) : HT.lexLt a b = lt := by
  obtain ⟨p, x, y, a', b', rfl, rfl, n, l⟩ := h
  rw [lex_app, l]
  simp [HT.lexLt, n]
theorem lex_same (a : List Int) : HT.lexLt a a = false := by
  induction a with
  | nil => rfl
  | cons x a ih => simp [HT.lexLt, ih]
theorem fixed_div (k : Nat) : ∀ n m : Int, 0 ≤ n → n < 256 ^ k → 0 ≤ m → m < 256 ^ k → n ≠ m → Div (fixedL n k) (fixedL m k) (decide (n < m)) := by
  induction k with
  | zero => intro n m h0 h1 h2 h3 hn; simp at h1 h3; omega
  | succ k ih =>
    intro n m h0 h1 h2 h3 hn
    rw [Int.pow_succ] at h1 h3
    rw [fixedL, fixedL]
    by_cases c : n / 256 = m / 256
    · refine ⟨fixedL (n / 256) k, n % 256, m % 256, [], [], rfl, by rw [c], by omega, ?_⟩
      rw [decide_eq_decide]
      omega
    · have := ih (n / 256) (m / 256) (by omega) (by omega) (by omega) (by omega) c
      have e : decide (n < m) = decide (n / 256 < m / 256) := by rw [decide_eq_decide]; omega
      rw [e]
      exact this.app _ _
/-! keys -/
def okV : RV → Prop
  | .non => True
  | .txt l => ∀ c ∈ l, c ∈ alphabet
  | .num n => -HI ≤ n ∧ n ≤ HI
def sg (l : List Nat) : List Int := l.map fun c => ((sgn c + 2 : Nat) : Int)
def keyV : RV → List Int
  | .non => [1]
  | .txt l => 3 :: (sg l ++ [1])
  | .num n => 2 :: fixedL (n + HI) 8
def keyR (r : List RV) : List Int := r.flatMap keyV
/-- as ranks compare -/
def vlt : RV → RV → Bool
  | .non, .non => false
  | .non, _ => true
  | .num _, .non => false
  | .num n, .num m => decide (n < m)
  | .num _, .txt _ => true
  | .txt _, .non => false
  | .txt _, .num _ => false
  | .txt l, .txt m => decide (l < m)
theorem sg_div : ∀ l m : List Nat, (∀ c ∈ l, c ∈ alphabet) → (∀ c ∈ m, c ∈ alphabet) → l ≠ m → Div (sg l ++ [1]) (sg m ++ [1]) (decide (l < m))
  | [], [], _, _, h => absurd rfl h
  | [], d :: m, _, _, _ => ⟨[], 1, ((sgn d + 2 : Nat) : Int), [], sg m ++ [1], rfl, rfl, by omega, by
      have e1 : decide ((1 : Int) < ((sgn d + 2 : Nat) : Int)) = true := decide_eq_true (by omega)
      have e2 : decide (([] : List Nat) < d :: m) = true := by simp
      rw [e1, e2]⟩
  | c :: l, [], _, _, _ => ⟨[], ((sgn c + 2 : Nat) : Int), 1, sg l ++ [1], [], rfl, rfl, by omega, by
      have e1 : decide (((sgn c + 2 : Nat) : Int) < 1) = false := decide_eq_false (by omega)
      have e2 : decide (c :: l < ([] : List Nat)) = false := by simp
      rw [e1, e2]⟩
  | c :: l, d :: m, hl, hm, h => by
    have hc := hl c List.mem_cons_self
    have hd := hm d List.mem_cons_self
    by_cases e : c = d
    · subst e
      have ih := sg_div l m (fun x hx => hl x (List.mem_cons_of_mem _ hx)) (fun x hx => hm x (List.mem_cons_of_mem _ hx)) (fun q => h (by rw [q]))
      have e2 : decide (c :: l < c :: m) = decide (l < m) := by
        rw [decide_eq_decide, List.cons_lt_cons_iff]
        constructor
        · rintro (z | z)
          · omega
          · exact z.2
        · exact fun z => .inr ⟨rfl, z⟩
      rw [e2]
      exact ih.pre [((sgn c + 2 : Nat) : Int)]
    · refine ⟨[], ((sgn c + 2 : Nat) : Int), ((sgn d + 2 : Nat) : Int), sg l ++ [1], sg m ++ [1], rfl, rfl, fun q => e (sgn_inj hc hd (by omega)), ?_⟩
      rw [decide_eq_decide, List.cons_lt_cons_iff]
      have := sgn_lt hc hd
      constructor
      · rintro (z | z)
        · have := this.mpr z; omega
        · exact absurd z.1 e
      · intro z
        exact .inl (this.mp (by omega))
theorem key_div : ∀ v w : RV, okV v → okV w → v ≠ w → Div (keyV v) (keyV w) (vlt v w)
  | .non, .non, _, _, h => absurd rfl h
  | .non, .txt l, _, _, _ => ⟨[], 1, 3, [], _, rfl, rfl, by decide, rfl⟩
  | .non, .num n, _, _, _ => ⟨[], 1, 2, [], _, rfl, rfl, by decide, rfl⟩
  | .txt l, .non, _, _, _ => ⟨[], 3, 1, _, [], rfl, rfl, by decide, rfl⟩
  | .num n, .non, _, _, _ => ⟨[], 2, 1, _, [], rfl, rfl, by decide, rfl⟩
  | .txt l, .num n, _, _, _ => ⟨[], 3, 2, _, _, rfl, rfl, by decide, rfl⟩
  | .num n, .txt l, _, _, _ => ⟨[], 2, 3, _, _, rfl, rfl, by decide, rfl⟩
  | .txt l, .txt m, hl, hm, h => (sg_div l m hl hm (fun e => h (by rw [e]))).pre [3]
  | .num n, .num m, hn, hm, h => by
    have hn' : -HI ≤ n ∧ n ≤ HI := hn
    have hm' : -HI ≤ m ∧ m ≤ HI := hm
    have hne : n + HI ≠ m + HI := fun e => h (by rw [show n = m by omega])
    have := fixed_div 8 (n + HI) (m + HI) (by omega) (Int.lt_of_le_of_lt (by omega : n + HI ≤ 2 * HI) (by decide)) (by omega) (Int.lt_of_le_of_lt (by omega : m + HI ≤ 2 * HI) (by decide)) hne
    have e : decide (n + HI < m + HI) = decide (n < m) := by rw [decide_eq_decide]; omega
    rw [e] at this
    exact this.pre [2]
/-- rows of as many values -/
def rlt : List RV → List RV → Bool
  | v :: r, w :: s => if v = w then rlt r s else vlt v w
  | [], _ :: _ => true
  | _, [] => false
theorem row_div : ∀ r s : List RV, r.length = s.length → (∀ v ∈ r, okV v) → (∀ v ∈ s, okV v) → r ≠ s → Div (keyR r) (keyR s) (rlt r s)
  | [], [], _, _, _, h => absurd rfl h
  | v :: r, w :: s, hl, hr, hs, h => by
    show Div (keyV v ++ keyR r) (keyV w ++ keyR s) _
    by_cases e : v = w
    · subst e
      rw [rlt, if_pos rfl]
      exact (row_div r s (by simpa using hl) (fun x hx => hr x (List.mem_cons_of_mem _ hx)) (fun x hx => hs x (List.mem_cons_of_mem _ hx)) (fun q => h (by rw [q]))).pre _
    · rw [rlt, if_neg e]
      exact (key_div v w (hr v List.mem_cons_self) (hs w List.mem_cons_self) e).app _ _
theorem rlt_same (r : List RV) : rlt r r = false := by
  induction r with
  | nil => rfl
  | cons v r ih => rw [rlt, if_pos rfl, ih]
theorem row_lex {r s : List RV} (hl : r.length = s.length) (hr : ∀ v ∈ r, okV v) (hs : ∀ v ∈ s, okV v) : HT.lexLt (keyR r) (keyR s) = rlt r s := by
  by_cases e : r = s
  · subst e
    rw [lex_same, rlt_same]
  · exact (row_div r s hl hr hs e).lex
end M5
end

section
-- part K05N
set_option Elab.async false
set_option linter.all false
set_option maxRecDepth 100000
set_option maxHeartbeats 2000000
/-! K05N: reading back; core Lean -/
namespace M5
open PySem PySem.Spec PyProof.Rows L2 Fw
/-- one sign's number read; none: no such sign -/
def chr (b : Int) : Option Nat := if 0 ≤ b ∧ b < 95 then alphabet[b.toNat]? else none
theorem chr_sgn {c : Nat} (h : c ∈ alphabet) : chr (sgn c : Int) = some c := by
  have h2 := sgn_ok h
  rw [chr, if_pos (by omega)]
  exact h2.2
theorem chr_ok {b : Int} {c : Nat} (h : chr b = some c) : c ∈ alphabet ∧ (sgn c : Int) = b := by
  rw [chr] at h
  split at h
  · rename_i h1
    obtain ⟨d, hd, e, s⟩ := sgn_at (i := b.toNat) (by omega)
    rw [e] at h
    cases h
    exact ⟨hd, by omega⟩
  · cases h
theorem chr_none {b : Int} (h : chr b = none) : ¬ (0 ≤ b ∧ b < 95) := fun h1 => by
  rw [chr, if_pos h1] at h
  obtain ⟨d, hd, e, s⟩ := sgn_at (i := b.toNat) (by omega)
  rw [e] at h
  cases h
/-- a text's signs up to the byte 1, and how many bytes it takes with it -/
def tfk : List Int → Option (List Nat × Nat)
  | [] => none
  | b :: r => if b = 1 then some ([], 1) else match chr (b - 2) with
    | none => none
    | some c => (tfk r).map fun q => (c :: q.1, q.2 + 1)
/-- a value from a key's bytes, and how many it takes -/
def vfk : List Int → Option (RV × Nat)
  | [] => none
  | b :: r =>
    if b = 1 then some (.non, 1)
    else if b = 2 then (if r.length < 8 then none else if HI < fromL (r.take 8) - HI then none else some (.num (fromL (r.take 8) - HI), 9))
    else if b = 3 then (tfk r).map fun q => (.txt q.1, q.2 + 1)
    else none
theorem tfk_len : ∀ {d : List Int} {l : List Nat} {k : Nat}, tfk d = some (l, k) → 0 < k ∧ k ≤ d.length
  | [], l, k, h => by cases h
  | b :: r, l, k, h => by
    rw [tfk] at h
    split at h
    · cases h; simp
    · split at h
      · cases h
      · obtain ⟨⟨l', k'⟩, h1, h2⟩ := Option.map_eq_some_iff.mp h
        cases h2
        have := tfk_len h1
        simp only [List.length_cons]
        omega
theorem vfk_len {d : List Int} {v : RV} {k : Nat} (h : vfk d = some (v, k)) : 0 < k ∧ k ≤ d.length := by
  cases d with
  | nil => cases h
  | cons b r =>
    rw [vfk] at h
    split at h
    · cases h; simp
    · split at h
      · split at h
        · cases h
        · split at h
          · cases h
          · cases h; simp only [List.length_cons]; omega
      · split at h
        · obtain ⟨⟨l', k'⟩, h1, h2⟩ := Option.map_eq_some_iff.mp h
          cases h2
          have := tfk_len h1
          simp only [List.length_cons]
          omega
        · cases h
theorem tfk_sg : ∀ (l : List Nat) (r : List Int), (∀ c ∈ l, c ∈ alphabet) → tfk (sg l ++ 1 :: r) = some (l, l.length + 1)
  | [], r, _ => by
    show tfk (1 :: r) = _
    rw [tfk, if_pos rfl]
    rfl
  | c :: l, r, h => by
    have ih := tfk_sg l r fun x hx => h x (List.mem_cons_of_mem _ hx)
    show tfk (((sgn c + 2 : Nat) : Int) :: (sg l ++ 1 :: r)) = _
    have e : ((sgn c + 2 : Nat) : Int) - 2 = (sgn c : Int) := by omega
    rw [tfk, if_neg (by omega), e, chr_sgn (h c List.mem_cons_self), ih]
    rfl
theorem vfk_key (v : RV) (r : List Int) (h : okV v) : vfk (keyV v ++ r) = some (v, (keyV v).length) := by
  cases v with
  | non =>
    show vfk (1 :: r) = _
    rw [vfk, if_pos rfl]
    rfl
  | txt l =>
    show vfk (3 :: (sg l ++ [1] ++ r)) = _
    rw [vfk, if_neg (by decide), if_neg (by decide), if_pos rfl, List.append_assoc]
    show Option.map _ (tfk (sg l ++ 1 :: r)) = _
    rw [tfk_sg l r h]
    show some (RV.txt l, l.length + 1 + 1) = some (RV.txt l, (3 :: (sg l ++ [1])).length)
    simp [sg]
  | num n =>
    have hn : -HI ≤ n ∧ n ≤ HI := h
    have e8 : ((fixedL (n + HI) 8) ++ r).take 8 = fixedL (n + HI) 8 := by
      rw [List.take_append, List.take_of_length_le (by rw [fixed_len]; exact Nat.le_refl _), fixed_len]
      simp
    have ef := from_fixed 8 (n + HI) (by omega) (Int.lt_of_le_of_lt (by omega : n + HI ≤ 2 * HI) (by decide))
    show vfk (2 :: (fixedL (n + HI) 8 ++ r)) = _
    rw [vfk, if_neg (by decide), if_pos rfl, if_neg (by rw [List.length_append, fixed_len]; omega), e8, ef, if_neg (by omega)]
    have e9 : n + HI - HI = n := by omega
    rw [e9]
    show some (RV.num n, 9) = some (RV.num n, (2 :: fixedL (n + HI) 8).length)
    rw [List.length_cons, fixed_len]
theorem tfk_back : ∀ {d : List Int} {l : List Nat} {k : Nat}, tfk d = some (l, k) → (∀ c ∈ l, c ∈ alphabet) ∧ sg l ++ [1] = d.take k ∧ l.length ≤ k
  | [], l, k, h => by cases h
  | b :: r, l, k, h => by
    rw [tfk] at h
    split at h
    · rename_i e
      cases h
      subst e
      exact ⟨fun c hc => absurd hc List.not_mem_nil, rfl, Nat.zero_le _⟩
    · split at h
      · cases h
      · rename_i c hc
        obtain ⟨⟨l', k'⟩, h1, h2⟩ := Option.map_eq_some_iff.mp h
        cases h2
        obtain ⟨i1, i2, i3⟩ := tfk_back h1
        obtain ⟨c1, c2⟩ := chr_ok hc
        refine ⟨fun x hx => ?_, ?_, ?_⟩
        · rcases List.mem_cons.mp hx with rfl | hx
          · exact c1
          · exact i1 x hx
        · rw [List.take_succ_cons, ← i2]
          show ((sgn c + 2 : Nat) : Int) :: (sg l' ++ [1]) = _
          rw [show ((sgn c + 2 : Nat) : Int) = b by omega]
        · show l'.length + 1 ≤ k' + 1
          omega
theorem vfk_back {d : List Int} {v : RV} {k : Nat} (hb : Byt d) (h : vfk d = some (v, k)) : okV v ∧ keyV v = d.take k := by
  cases d with
  | nil => cases h
  | cons b r =>
    rw [vfk] at h
    split at h
    · rename_i e
      cases h
      subst e
      exact ⟨trivial, rfl⟩
    · split at h
      · rename_i e
        subst e
        split at h
        · cases h
        · rename_i hl
          split at h
          · cases h
          · rename_i hh
            cases h
            have h8 : (r.take 8).length = 8 := by rw [List.length_take]; omega
            have hb8 : Byt (r.take 8) := fun c hc => hb c (List.mem_cons_of_mem _ (List.mem_of_mem_take hc))
            have bd := from_bound _ hb8
            have ff := fixed_from _ hb8
            rw [h8] at ff
            refine ⟨⟨by omega, by omega⟩, ?_⟩
            show 2 :: fixedL (fromL (r.take 8) - HI + HI) 8 = _
            rw [show fromL (r.take 8) - HI + HI = fromL (r.take 8) by omega, ff]
            rfl
      · split at h
        · rename_i e
          subst e
          obtain ⟨⟨l', k'⟩, h1, h2⟩ := Option.map_eq_some_iff.mp h
          cases h2
          obtain ⟨i1, i2, _⟩ := tfk_back h1
          exact ⟨i1, by rw [List.take_succ_cons, ← i2]; rfl⟩
        · cases h
/-- all values of a key; the fuel: more than its bytes -/
def vsk : Nat → List Int → Option (List RV)
  | 0, _ => none
  | f + 1, d => if d = [] then some [] else match vfk d with
    | none => none
    | some (v, k) => (vsk f (d.drop k)).map (v :: ·)
theorem vsk_key : ∀ (r : List RV) (f : Nat), (∀ v ∈ r, okV v) → r.length < f → vsk f (keyR r) = some r
  | [], f + 1, _, _ => by rw [vsk]; rfl
  | v :: r, f + 1, h, hf => by
    have hv := vfk_key v (keyR r) (h v List.mem_cons_self)
    have ne : keyR (v :: r) ≠ [] := by cases v <;> simp [keyR, keyV]
    have e : keyR (v :: r) = keyV v ++ keyR r := rfl
    rw [vsk, if_neg ne, e, hv]
    show Option.map _ (vsk f ((keyV v ++ keyR r).drop (keyV v).length)) = _
    rw [List.drop_append, List.drop_of_length_le (Nat.le_refl _), Nat.sub_self, List.drop_zero, List.nil_append, vsk_key r f (fun x hx => h x (List.mem_cons_of_mem _ hx)) (by simpa using hf)]
    rfl
theorem byt_drop {d : List Int} (h : Byt d) (k : Nat) : Byt (d.drop k) := fun b hb => h b (List.mem_of_mem_drop hb)
theorem vsk_back : ∀ {f : Nat} {d : List Int} {r : List RV}, Byt d → vsk f d = some r → (∀ v ∈ r, okV v) ∧ keyR r = d ∧ r.length ≤ d.length
  | 0, d, r, _, h => by cases h
  | f + 1, d, r, hb, h => by
    rw [vsk] at h
    split at h
    · rename_i e
      cases h
      subst e
      exact ⟨fun v hv => absurd hv List.not_mem_nil, rfl, Nat.le_refl _⟩
    · split at h
      · cases h
      · rename_i v k hv
        obtain ⟨r', h1, h2⟩ := Option.map_eq_some_iff.mp h
        subst h2
        obtain ⟨i1, i2, i3⟩ := vsk_back (byt_drop hb k) h1
        obtain ⟨o1, o2⟩ := vfk_back hb hv
        have kl := vfk_len hv
        refine ⟨fun x hx => ?_, ?_, ?_⟩
        · rcases List.mem_cons.mp hx with rfl | hx
          · exact o1
          · exact i1 x hx
        · show keyV v ++ keyR r' = d
          rw [o2, i2, List.take_append_drop]
        · rw [List.length_drop] at i3
          rw [List.length_cons]
          omega
/-! natural numbers -/
def nat7 (n : Nat) : List Int := if n < 128 then [(n : Int)] else ((n % 128 + 128 : Nat) : Int) :: nat7 (n / 128)
termination_by n
theorem nat7_lt {n : Nat} (h : n < 128) : nat7 n = [(n : Int)] := by rw [nat7, if_pos h]
theorem nat7_ge {n : Nat} (h : ¬ n < 128) : nat7 n = ((n % 128 + 128 : Nat) : Int) :: nat7 (n / 128) := by rw [nat7, if_neg h]
/-- a number read: the flag: nothing is read yet -/
def nf : Bool → List Int → Option (Nat × Nat)
  | _, [] => none
  | f, b :: r => if b < 128 then (if b = 0 ∧ f = false then none else some ((b % 128).toNat, 1)) else (nf false r).map fun q => ((b % 128).toNat + 128 * q.1, q.2 + 1)
theorem nf_len : ∀ {f : Bool} {d : List Int} {m k : Nat}, nf f d = some (m, k) → 0 < k ∧ k ≤ d.length
  | f, [], m, k, h => by cases f <;> cases h
  | f, b :: r, m, k, h => by
    rw [nf] at h
    split at h
    · split at h
      · cases h
      · cases h; simp
    · obtain ⟨⟨m', k'⟩, h1, h2⟩ := Option.map_eq_some_iff.mp h
      cases h2
      have := nf_len h1
      simp only [List.length_cons]
      omega
theorem nf_nat7 (n : Nat) : ∀ (f : Bool) (r : List Int), (f = true ∨ n ≠ 0) → nf f (nat7 n ++ r) = some (n, (nat7 n).length) := by
  induction n using Nat.strongRecOn with
  | _ n ih =>
    intro f r h
    by_cases c : n < 128
    · rw [nat7_lt c]
      show nf f ((n : Int) :: r) = _
      have c2 : ¬ ((n : Int) = 0 ∧ f = false) := fun q => by
        rcases h with h | h
        · rw [h] at q; cases q.2
        · omega
      rw [nf, if_pos (by omega), if_neg c2]
      show some (((n : Int) % 128).toNat, 1) = some (n, 1)
      rw [show ((n : Int) % 128).toNat = n by omega]
    · rw [nat7_ge c]
      show nf f (((n % 128 + 128 : Nat) : Int) :: (nat7 (n / 128) ++ r)) = _
      rw [nf, if_neg (by omega), ih (n / 128) (by omega) false r (.inr (by omega))]
      show some ((((n % 128 + 128 : Nat) : Int) % 128).toNat + 128 * (n / 128), (nat7 (n / 128)).length + 1) = some (n, (nat7 (n / 128)).length + 1)
      rw [show (((n % 128 + 128 : Nat) : Int) % 128).toNat + 128 * (n / 128) = n by omega]
theorem nf_back : ∀ {f : Bool} {d : List Int} {m k : Nat}, Byt d → nf f d = some (m, k) → nat7 m = d.take k ∧ (f = true ∨ m ≠ 0)
  | f, [], m, k, _, h => by cases f <;> cases h
  | f, b :: r, m, k, hb, h => by
    have b1 := hb b List.mem_cons_self
    rw [nf] at h
    split at h
    · rename_i c
      split at h
      · cases h
      · rename_i c2
        cases h
        refine ⟨?_, ?_⟩
        · rw [nat7_lt (by omega)]
          show [(((b % 128).toNat : Nat) : Int)] = [b]
          rw [show (((b % 128).toNat : Nat) : Int) = b by omega]
        · cases f with
          | true => exact .inl rfl
          | false => exact .inr fun e => c2 ⟨by omega, rfl⟩
    · rename_i c
      obtain ⟨⟨m', k'⟩, h1, h2⟩ := Option.map_eq_some_iff.mp h
      cases h2
      obtain ⟨i1, i2⟩ := nf_back (fun x hx => hb x (List.mem_cons_of_mem _ hx)) h1
      have hm : m' ≠ 0 := by
        rcases i2 with i2 | i2
        · cases i2
        · exact i2
      refine ⟨?_, .inr (by omega)⟩
      rw [List.take_succ_cons, ← i1, nat7_ge (by omega)]
      rw [show (((((b % 128).toNat + 128 * m') % 128 + 128 : Nat)) : Int) = b by omega, show ((b % 128).toNat + 128 * m') / 128 = m' by omega]
theorem nat7_byt (n : Nat) : Byt (nat7 n) := by
  induction n using Nat.strongRecOn with
  | _ n ih =>
    by_cases c : n < 128
    · rw [nat7_lt c]
      intro b hb
      rw [List.mem_singleton.mp hb]
      omega
    · rw [nat7_ge c]
      intro b hb
      rcases List.mem_cons.mp hb with rfl | hb
      · omega
      · exact ih (n / 128) (by omega) b hb
theorem nat7_len (k : Nat) : ∀ n : Nat, n < 128 ^ (k + 1) → (nat7 n).length ≤ k + 1 := by
  induction k with
  | zero => intro n h; rw [nat7_lt (by simpa using h)]; exact Nat.le_refl _
  | succ k ih =>
    intro n h
    by_cases c : n < 128
    · rw [nat7_lt c]; simp
    · rw [nat7_ge c, List.length_cons]
      have := ih (n / 128) (by rw [Nat.pow_succ] at h; omega)
      omega
end M5
end

section
-- part K05R
set_option Elab.async false
set_option linter.all false
set_option maxRecDepth 100000
set_option maxHeartbeats 2000000
/-! K05R: records; core Lean -/
namespace M5
open PySem PySem.Spec PyProof.Rows L2 Fw
def zz (n : Int) : Nat := if 0 ≤ n then (2 * n).toNat else (-2 * n - 1).toNat
def uz (m : Nat) : Int := if m % 2 = 0 then (m / 2 : Nat) else -((m + 1) / 2 : Nat)
theorem uz_zz (n : Int) : uz (zz n) = n := by
  unfold uz zz
  split <;> split <;> omega
theorem zz_uz (m : Nat) : zz (uz m) = m := by
  unfold uz zz
  split <;> split <;> omega
def sgR (l : List Nat) : List Int := l.map fun c => ((sgn c : Nat) : Int)
def recV : RV → List Int
  | .non => [1]
  | .txt l => 3 :: (nat7 l.length ++ sgR l)
  | .num n => 2 :: nat7 (zz n)
def recR (r : List RV) : List Int := nat7 r.length ++ r.flatMap recV
def sgs : List Int → Option (List Nat)
  | [] => some []
  | b :: r => match chr b with
    | none => none
    | some c => (sgs r).map (c :: ·)
theorem sgs_sg : ∀ l : List Nat, (∀ c ∈ l, c ∈ alphabet) → sgs (sgR l) = some l
  | [], _ => rfl
  | c :: l, h => by
    show sgs (((sgn c : Nat) : Int) :: sgR l) = _
    rw [sgs, chr_sgn (h c List.mem_cons_self), sgs_sg l fun x hx => h x (List.mem_cons_of_mem _ hx)]
    rfl
theorem sgs_back : ∀ {d : List Int} {l : List Nat}, sgs d = some l → (∀ c ∈ l, c ∈ alphabet) ∧ sgR l = d
  | [], l, h => by cases h; exact ⟨fun c hc => absurd hc List.not_mem_nil, rfl⟩
  | b :: r, l, h => by
    rw [sgs] at h
    split at h
    · cases h
    · rename_i c hc
      obtain ⟨l', h1, h2⟩ := Option.map_eq_some_iff.mp h
      subst h2
      obtain ⟨i1, i2⟩ := sgs_back h1
      obtain ⟨c1, c2⟩ := chr_ok hc
      refine ⟨fun x hx => ?_, ?_⟩
      · rcases List.mem_cons.mp hx with rfl | hx
        · exact c1
        · exact i1 x hx
      · show (sgn c : Int) :: sgR l' = _
        rw [c2, i2]
/-- a value from a record's bytes, and how many it takes -/
def vfr : List Int → Option (RV × Nat)
  | [] => none
  | b :: r => if b = 1 then some (.non, 1) else match nf true r with
    | none => none
    | some (m, k) =>
      if b = 2 then (if -HI ≤ uz m ∧ uz m ≤ HI then some (.num (uz m), k + 1) else none)
      else if b ≠ 3 ∨ (r.drop k).length < m then none
      else (sgs ((r.drop k).take m)).map fun l => (.txt l, k + 1 + m)
theorem vfr_len {d : List Int} {v : RV} {k : Nat} (h : vfr d = some (v, k)) : 0 < k ∧ k ≤ d.length := by
  cases d with
  | nil => cases h
  | cons b r =>
    rw [vfr] at h
    split at h
    · cases h; simp
    · split at h
      · cases h
      · rename_i m k' hn
        have := nf_len hn
        split at h
        · split at h
          · cases h; simp only [List.length_cons]; omega
          · cases h
        · split at h
          · cases h
          · rename_i c
            obtain ⟨l, h1, h2⟩ := Option.map_eq_some_iff.mp h
            cases h2
            rw [List.length_drop] at c
            simp only [List.length_cons]
            omega
theorem vfr_rec (v : RV) (r : List Int) (h : okV v) : vfr (recV v ++ r) = some (v, (recV v).length) := by
  cases v with
  | non =>
    show vfr (1 :: r) = _
    rw [vfr, if_pos rfl]
    rfl
  | num n =>
    have hn : -HI ≤ n ∧ n ≤ HI := h
    show vfr (2 :: (nat7 (zz n) ++ r)) = _
    rw [vfr, if_neg (by decide), nf_nat7 _ true r (.inl rfl)]
    dsimp only
    rw [if_pos rfl, uz_zz, if_pos hn]
    rfl
  | txt l =>
    have e1 : (nat7 l.length ++ sgR l ++ r).drop (nat7 l.length).length = sgR l ++ r := by
      rw [List.append_assoc, List.drop_append, List.drop_of_length_le (Nat.le_refl _), Nat.sub_self, List.drop_zero, List.nil_append]
    have el : (sgR l).length = l.length := by simp [sgR]
    have e2 : (sgR l ++ r).take l.length = sgR l := by rw [← el]; simp
    show vfr (3 :: (nat7 l.length ++ sgR l ++ r)) = _
    rw [vfr, if_neg (by decide), List.append_assoc, nf_nat7 _ true _ (.inl rfl), ← List.append_assoc]
    dsimp only
    rw [if_neg (by decide), e1, if_neg (by rw [List.length_append, el]; intro q; rcases q with q | q; exact q rfl; omega), e2, sgs_sg l h]
    show some (RV.txt l, (nat7 l.length).length + 1 + l.length) = some (RV.txt l, (3 :: (nat7 l.length ++ sgR l)).length)
    rw [List.length_cons, List.length_append, el, show (nat7 l.length).length + 1 + l.length = (nat7 l.length).length + l.length + 1 by omega]
theorem vfr_back {d : List Int} {v : RV} {k : Nat} (hb : Byt d) (h : vfr d = some (v, k)) : okV v ∧ recV v = d.take k := by
  cases d with
  | nil => cases h
  | cons b r =>
    have hbr : Byt r := fun x hx => hb x (List.mem_cons_of_mem _ hx)
    rw [vfr] at h
    split at h
    · rename_i e
      cases h
      subst e
      exact ⟨trivial, rfl⟩
    · split at h
      · cases h
      · rename_i m k' hn
        obtain ⟨n1, _⟩ := nf_back hbr hn
        have nl := nf_len hn
        split at h
        · rename_i e
          subst e
          split at h
          · rename_i c
            cases h
            refine ⟨c, ?_⟩
            show 2 :: nat7 (zz (uz m)) = _
            rw [zz_uz, n1, List.take_succ_cons]
          · cases h
        · split at h
          · cases h
          · rename_i c
            obtain ⟨l, h1, h2⟩ := Option.map_eq_some_iff.mp h
            cases h2
            obtain ⟨i1, i2⟩ := sgs_back h1
            have b3 : b = 3 := by
              by_cases q : b = 3
              · exact q
              · exact absurd (.inl q) c
            subst b3
            have el : l.length = m := by
              have e3 : (sgR l).length = l.length := by simp [sgR]
              rw [← e3, i2, List.length_take]
              rw [List.length_drop] at c
              rw [List.length_drop]
              omega
            refine ⟨i1, ?_⟩
            show 3 :: (nat7 l.length ++ sgR l) = _
            rw [el, n1, i2, show k' + 1 + m = (k' + m) + 1 by omega, List.take_succ_cons, List.take_add]
/-- so many values of a record, and the bytes they take -/
def vsr : Nat → List Int → Option (List RV × Nat)
  | 0, _ => some ([], 0)
  | n + 1, d => match vfr d with
    | none => none
    | some (v, k) => (vsr n (d.drop k)).map fun q => (v :: q.1, k + q.2)
theorem vsr_rec : ∀ (r : List RV) (t : List Int), (∀ v ∈ r, okV v) → vsr r.length (r.flatMap recV ++ t) = some (r, (r.flatMap recV).length)
  | [], t, _ => rfl
  | v :: r, t, h => by
    have e : (v :: r).flatMap recV ++ t = recV v ++ (r.flatMap recV ++ t) := by simp
    rw [e, List.length_cons, vsr, vfr_rec v _ (h v List.mem_cons_self)]
    dsimp only
    rw [List.drop_append, List.drop_of_length_le (Nat.le_refl _), Nat.sub_self, List.drop_zero, List.nil_append, vsr_rec r t fun x hx => h x (List.mem_cons_of_mem _ hx)]
    show some (v :: r, (recV v).length + (r.flatMap recV).length) = some (v :: r, ((v :: r).flatMap recV).length)
    simp
theorem vsr_back : ∀ {n : Nat} {d : List Int} {r : List RV} {k : Nat}, Byt d → vsr n d = some (r, k) → (∀ v ∈ r, okV v) ∧ r.flatMap recV = d.take k ∧ r.length = n ∧ n ≤ k ∧ k ≤ d.length
  | 0, d, r, k, _, h => by cases h; exact ⟨fun v hv => absurd hv List.not_mem_nil, by simp, rfl, Nat.le_refl _, Nat.zero_le _⟩
  | n + 1, d, r, k, hb, h => by
    rw [vsr] at h
    split at h
    · cases h
    · rename_i v k1 hv
      obtain ⟨⟨r', k2⟩, h1, h2⟩ := Option.map_eq_some_iff.mp h
      cases h2
      obtain ⟨i1, i2, i3, i4, i5⟩ := vsr_back (byt_drop hb k1) h1
      obtain ⟨o1, o2⟩ := vfr_back hb hv
      have kl := vfr_len hv
      rw [List.length_drop] at i5
      refine ⟨fun x hx => ?_, ?_, by rw [List.length_cons, i3], by omega, by omega⟩
      · rcases List.mem_cons.mp hx with rfl | hx
        · exact o1
        · exact i1 x hx
      · show recV v ++ r'.flatMap recV = _
        rw [o2, i2, ← List.take_add]
/-- a row from a record -/
def rowOf (d : List Int) : Option (List RV) := match nf true d with
  | none => none
  | some (m, k) => match vsr m (d.drop k) with
    | none => none
    | some (r, j) => if k + j = d.length then some r else none
theorem rowOf_rec {r : List RV} (h : ∀ v ∈ r, okV v) : rowOf (recR r) = some r := by
  have e := vsr_rec r [] h
  rw [List.append_nil] at e
  rw [rowOf, recR, nf_nat7 _ true _ (.inl rfl)]
  dsimp only
  rw [List.drop_append, List.drop_of_length_le (Nat.le_refl _), Nat.sub_self, List.drop_zero, List.nil_append, e]
  dsimp only
  rw [if_pos (by rw [List.length_append])]
theorem rowOf_back {d : List Int} {r : List RV} (hb : Byt d) (h : rowOf d = some r) : (∀ v ∈ r, okV v) ∧ recR r = d ∧ r.length ≤ d.length := by
  rw [rowOf] at h
  split at h
  · cases h
  · rename_i m k hn
    split at h
    · cases h
    · rename_i r' j hv
      split at h
      · rename_i e
        cases h
        obtain ⟨n1, _⟩ := nf_back hb hn
        obtain ⟨i1, i2, i3, i4, i5⟩ := vsr_back (byt_drop hb k) hv
        refine ⟨i1, ?_, by omega⟩
        rw [List.length_drop] at i5
        have e3 : (d.drop k).take j = d.drop k := List.take_of_length_le (by rw [List.length_drop]; omega)
        rw [recR, i3, n1, i2, e3, List.take_append_drop]
      · cases h
theorem sgR_byt {l : List Nat} (h : ∀ c ∈ l, c ∈ alphabet) : Byt (sgR l) := by
  intro b hb
  obtain ⟨c, hc, rfl⟩ := List.mem_map.mp hb
  have := (sgn_ok (h c hc)).1
  omega
theorem recV_byt {v : RV} (h : okV v) : Byt (recV v) := by
  cases v with
  | non => intro b hb; rw [List.mem_singleton.mp hb]; decide
  | num n =>
    intro b hb
    rcases List.mem_cons.mp hb with rfl | hb
    · decide
    · exact nat7_byt _ b hb
  | txt l =>
    intro b hb
    rcases List.mem_cons.mp hb with rfl | hb
    · decide
    · rcases List.mem_append.mp hb with hb | hb
      · exact nat7_byt _ b hb
      · exact sgR_byt h b hb
theorem recR_byt {r : List RV} (h : ∀ v ∈ r, okV v) : Byt (recR r) := by
  intro b hb
  rcases List.mem_append.mp hb with hb | hb
  · exact nat7_byt _ b hb
  · obtain ⟨v, hv, hb⟩ := List.mem_flatMap.mp hb
    exact recV_byt (h v hv) b hb
/-! the least key above a prefix -/
def upLen (d : List Int) : Nat := (d.reverse.dropWhile (· == 255)).length
theorem upLen_le (d : List Int) : upLen d ≤ d.length := by
  unfold upLen
  have := List.dropWhile_sublist (p := (· == (255 : Int))) (l := d.reverse)
  have := this.length_le
  simpa using this
theorem upLen_snoc (d : List Int) (b : Int) : upLen (d ++ [b]) = if b = 255 then upLen d else d.length + 1 := by
  unfold upLen
  rw [List.reverse_append, List.reverse_singleton, List.singleton_append, List.dropWhile_cons]
  by_cases h : b = 255
  · simp [h]
  · simp [h]
theorem upLen_pos {d : List Int} {b : Int} (h : b ∈ d) (hb : b ≠ 255) : 0 < upLen d := by
  rw [← List.reverse_reverse d] at h ⊢
  generalize d.reverse = e at *
  induction e with
  | nil => cases h
  | cons c e ih =>
    rw [List.reverse_cons] at h ⊢
    rw [upLen_snoc]
    split
    · rename_i q
      refine ih ?_
      rcases List.mem_append.mp h with h | h
      · exact h
      · rw [List.mem_singleton.mp h] at hb
        exact absurd q hb
    · omega
def upper (d : List Int) : Option (List Int) := if upLen d = 0 then none else some (d.take (upLen d - 1) ++ [d.getD (upLen d - 1) 0 + 1])
theorem upper_ok {d : List Int} (h : 0 < upLen d) (q : List Int) : ∃ u, upper d = some u ∧ HT.lexLt (d ++ q) u = true ∧ u.length = upLen d ∧ u.take (upLen d - 1) = d.take (upLen d - 1) := by
  have hl := upLen_le d
  refine ⟨d.take (upLen d - 1) ++ [d.getD (upLen d - 1) 0 + 1], by rw [upper, if_neg (by omega)], ?_, ?_, ?_⟩
  · have hlt : upLen d - 1 < d.length := by omega
    have e : d = d.take (upLen d - 1) ++ d[upLen d - 1] :: d.drop (upLen d - 1 + 1) := by
      rw [← List.drop_eq_getElem_cons hlt, List.take_append_drop]
    have e2 : d.getD (upLen d - 1) 0 = d[upLen d - 1] := by simp [List.getD, List.getElem?_eq_getElem hlt]
    have dv : Div (d ++ q) (d.take (upLen d - 1) ++ [d.getD (upLen d - 1) 0 + 1]) true :=
      ⟨d.take (upLen d - 1), d[upLen d - 1], d.getD (upLen d - 1) 0 + 1, d.drop (upLen d - 1 + 1) ++ q, [], by
        have e4 : d ++ q = (d.take (upLen d - 1) ++ d[upLen d - 1] :: d.drop (upLen d - 1 + 1)) ++ q := by rw [← e]
        rw [e4, List.append_assoc, List.cons_append], rfl, by rw [e2]; omega, by rw [e2]; exact (decide_eq_true (by omega)).symm⟩
    exact dv.lex
  · rw [List.length_append, List.length_take, List.length_singleton]
    omega
  · rw [List.take_append, List.take_take, Nat.min_self, List.length_take, show upLen d - 1 - min (upLen d - 1) d.length = 0 by omega, List.take_zero, List.append_nil]
end M5
end

section
-- part Dc
set_option Elab.async false
set_option linter.all false
set_option maxRecDepth 100000
set_option maxHeartbeats 800000
/-! Dc: what the dice of a law promise -/
namespace Dc
open PySem PySem.Spec PyProof.Rows L2 Fw
def spDice : Sp := fun vs H Q _ => ∃ c : Int, vs = [.int c] ∧ ∀ p a b e, H p = none → Q (.ref p) (upd H p (.lst [.int a, .int b, .int e]))
/-- the drawn number is anything below m -/
def spRoll : Sp := fun vs H Q _ => ∃ (d : Addr) (m a b c : Int), vs = [.ref d, .int m] ∧ H d = some (.lst [.int a, .int b, .int c]) ∧ 0 < m ∧ m < 2 ^ 60 ∧
  ∀ r a' b' c' : Int, 0 ≤ r → r < m → Q (.int r) (upd H d (.lst [.int a', .int b', .int c']))
/-- a list of new dice -/
def spRounds (K : PySem.W.Frag) : Sp := fun vs H Q _ => ∃ (a : Addr) (ns : List Int) (m : Int), vs = [.ref a, .int m] ∧ SqL K H a (ns.map V.int) ∧ ns.length ≤ 63 ∧
  ∀ (p : Addr) (H' : Hp) (ds : List Addr), Same H H' → H p = none → H' p = some (.lst (ds.map V.ref)) → (∀ d ∈ ds, Dice H' d ∧ H d = none) → ds.length ≤ 63 → Q (.ref p) H'
end Dc
end

section
-- part FsD
set_option Elab.async false
set_option linter.all false
set_option maxRecDepth 100000
set_option maxHeartbeats 2000000
namespace Fw
open PySem PySem.Spec PyProof.Rows L2
section
variable {K : PySem.W.Frag} {σ : L2.St} {H : Hp} {Q : VK} {tl te : TE} {ta : TA} {j : Nat} {vs : List Nat} {tt : TT} {g : TG} {wi : TI}
theorem w_lcRp {n : Int} {R : Addr → Hp → Prop} (hn : 0 ≤ n ∧ n < 2 ^ 62) (h : ∀ D, H D = none → ∃ Pv : Nat → Hp → Prop, Pv 0 (upd H D (.lst [])) ∧
      (∀ (i : Nat) H2, (i : Int) < n → Pv i H2 → g (.int (0 + (i : Int))) (wipe σ vs) H2 fun σ2 H2 => wipe σ2 vs = wipe σ vs ∧ tt σ2 H2 fun b H3 =>
        if b = true then te σ2 H3 fun y H4 => ∃ acc, H4 D = some (.lst acc) ∧ acc.length < sizeLine ∧ Pv (i + 1) (upd H4 D (.lst (acc ++ [y]))) else Pv (i + 1) H3) ∧ (∀ H2, Pv n.toNat H2 → R D H2)) :
    -(2 ^ 62) ≤ n ∧ n < 2 ^ 62 ∧ ∀ D, H D = none → ∃ W : Nat → Nat → Hp → Prop, (∃ m, W 0 m (upd H D (.lst []))) ∧ ∀ i m H, W i m H →
      ((Itr 0 n.toNat).stop i H ∧ R D H) ∨ ((Itr 0 n.toNat).go i H ∧ ∃ Nx : Hp → Prop, (∀ H', Nx H' → ∃ m', m' < m ∧ W (i + 1) m' H') ∧ ∀ x H', (Itr 0 n.toNat).yld i H x H' → g x (wipe σ vs) H' fun σ2 H2 => wipe σ2 vs = wipe σ vs ∧ tt σ2 H2 fun b H3 =>
        if b = true then te σ2 H3 fun y H4 => ∃ acc, H4 D = some (.lst acc) ∧ acc.length < sizeLine ∧ Nx (upd H4 D (.lst (acc ++ [y]))) else Nx H3) := by
  obtain ⟨j, e, a, b, r⟩ := w_lcR (Q := fun v H => ∀ D, v = .ref D → R D H) hn fun D hD => by
    obtain ⟨Pv, x, y, z⟩ := h D hD
    exact ⟨Pv, x, y, fun H2 p D' e => by cases e; exact z H2 p⟩
  cases e
  refine ⟨a, b, fun D hD => ?_⟩
  obtain ⟨W, w1, w2⟩ := r D hD
  refine ⟨W, w1, fun i m H hw => ?_⟩
  rcases w2 i m H hw with ⟨x, y⟩ | x
  · exact .inl ⟨x, y D rfl⟩
  · exact .inr x
theorem w_forRp {g : TG} {tb : TS} {D : Ends} {n : Int} (hn : 0 ≤ n ∧ n < 2 ^ 62) (Pv : Nat → L2.St → Hp → Prop) (h0 : Pv 0 σ H)
    (hs : ∀ (i : Nat) σ H, (i : Int) < n → Pv i σ H → g (.int (0 + (i : Int))) σ H fun σ2 H2 => tb { D with nx := Pv (i + 1), ct := Pv (i + 1), bk := D.nx } σ2 H2) (hd : ∀ σ H, Pv n.toNat σ H → D.nx σ H) :
    -(2 ^ 62) ≤ n ∧ n < 2 ^ 62 ∧ ∃ W : Nat → Nat → L2.St → Hp → Prop, (∃ m, W 0 m σ H) ∧ ∀ i m σ H, W i m σ H →
      ((Itr 0 n.toNat).stop i H ∧ D.nx σ H) ∨ ((Itr 0 n.toNat).go i H ∧ ∃ N : L2.St → Hp → Prop, (∀ σ' H', N σ' H' → ∃ m', m' < m ∧ W (i + 1) m' σ' H') ∧ ∀ x H', (Itr 0 n.toNat).yld i H x H' → g x σ H' fun σ2 H2 => tb { D with nx := N, ct := N, bk := D.nx } σ2 H2) := by
  obtain ⟨j, e, r⟩ := w_forR hn Pv h0 hs hd
  cases e
  exact r
theorem newl {d p : Addr} {H0 Hc H' : Hp} {o : HO} (k : Kp d H0 Hc) (hd : Dice Hc d) (hp : Hc p = none) (hX : upd Hc p o = H') : Kp d H0 H' ∧ Kp d Hc H' ∧ Dice H' d ∧ p ≠ d ∧ H0 p = none ∧ H' p = some o := by
  subst hX
  have hd' := hd
  obtain ⟨a, b, c, hd'⟩ := hd'
  have n : p ≠ d := (ne_of_none hd' hp).symm
  refine ⟨k.trans (Kp.new hp), Kp.new hp, hd.new hp, n, ?_, upd_same⟩
  cases e : H0 p with
  | none => rfl
  | some u => rw [k _ _ n e] at hp; cases hp
theorem w_roll {d : Addr} {m : Int} {H0 Hc : Hp} {Q : VK} {E : XK} (h0 : 0 < m) (h1 : m < 2 ^ 60) (k : Kp d H0 Hc) (hd : Dice Hc d) (h : ∀ (r : Int) (H' : Hp), 0 ≤ r → r < m → Kp d H0 H' → Kp d Hc H' → Dice H' d → Q (.int r) H') : Dc.spRoll [.ref d, .int m] Hc Q E := by
  obtain ⟨a, b, c, hd⟩ := hd
  exact ⟨d, m, a, b, c, rfl, hd, h0, h1, fun r a' b' c' e0 e1 => h r _ e0 e1 (k.trans Kp.at_) Kp.at_ ⟨a', b', c', upd_same⟩⟩
/-- a list of signs drawn from cs -/
theorem w_draws {d : Addr} {H0 : Hp} {cs : List Nat} {k : Nat} {m n : Int} {x : Str} {R : Addr → Hp → Prop} (hx : x = S cs) (hm : m = cs.length) (h0 : 0 < m) (h1 : m ≤ 1000) (hn : 0 ≤ n ∧ n ≤ 1000) (kp : Kp d H0 H) (dd : Dice H d)
    (hσ : ∀ v, ((wipe σ vs).set k (some v))[0]? = some (some (.ref d))) (hw : ∀ v, wipe ((wipe σ vs).set k (some v)) vs = wipe σ vs)
    (h : ∀ (D : Addr) (H2 : Hp) (l : List Nat), Kp d H0 H2 → Kp d H H2 → Dice H2 d → H2 D = some (.lst (l.map fun c => V.str (S [c]))) → (∀ c ∈ l, c ∈ cs) → l.length = n.toNat → R D H2) :
    -(2 ^ 62) ≤ n ∧ n < 2 ^ 62 ∧ ∀ D, H D = none → ∃ W : Nat → Nat → Hp → Prop, (∃ m, W 0 m (upd H D (.lst []))) ∧ ∀ i m' H, W i m' H →
      ((Itr 0 n.toNat).stop i H ∧ R D H) ∨ ((Itr 0 n.toNat).go i H ∧ ∃ Nx : Hp → Prop, (∀ H', Nx H' → ∃ m'', m'' < m' ∧ W (i + 1) m'' H') ∧ ∀ z H', (Itr 0 n.toNat).yld i H z H' → gName k z (wipe σ vs) H' fun σ2 H2 => wipe σ2 vs = wipe σ vs ∧ tYes σ2 H2 fun b H3 =>
        if b = true then tOp rIxS (tC (.str x)) (tCl Dc.spRoll C8.E0 (tCons (tVar 0) (tCons (tC (.int m)) tNil))) σ2 H3 fun y H4 => ∃ acc, H4 D = some (.lst acc) ∧ acc.length < sizeLine ∧ Nx (upd H4 D (.lst (acc ++ [y]))) else Nx H3) := by
  subst hx
  refine w_lcRp ⟨hn.1, Int.lt_of_le_of_lt hn.2 (by decide)⟩ fun D hD => ?_
  obtain ⟨kp1, kp2, dd1, nD, fD, eD⟩ := newl (o := .lst []) kp dd hD rfl
  refine ⟨fun i H2 => ∃ l : List Nat, l.length = i ∧ (∀ c ∈ l, c ∈ cs) ∧ H2 D = some (.lst (l.map fun c => V.str (S [c]))) ∧ Kp d H0 H2 ∧ Kp d H H2 ∧ Dice H2 d, ⟨[], rfl, fun c hc => absurd hc List.not_mem_nil, eD, kp1, kp2, dd1⟩, ?_, ?_⟩
  · rintro i H2 hi ⟨l, rfl, hl, e2, k2, k3, d2⟩
    refine w_gname ⟨hw _, w_yes ?_⟩
    rw [if_pos rfl]
    refine w_op (w_c (w_cl (w_cons (w_var (hσ _) (w_cons (w_c (w_nil (w_roll h0 (Int.lt_of_le_of_lt h1 (by decide)) k2 d2 fun r H3 r0 r1 k4 k5 d4 => ?_))))))))
    obtain ⟨q, rfl⟩ := Int.eq_ofNat_of_zero_le r0
    have hq : q < cs.length := by omega
    refine w_ixS (Nat.le_trans (by omega : cs.length ≤ 1000) (by decide)) (List.getElem?_eq_getElem hq) ?_
    have e3 := k5 _ _ nD e2
    have hf : H D = none := hD
    have fin : ∀ {Hs : Hp}, Kp d Hs H3 → Hs D = none → Kp d Hs (upd H3 D (.lst ((l.map fun c => V.str (S [c])) ++ [V.str (S [cs[q]])]))) := fun {Hs} a f b o nb e => by
      rw [upd_ne (ne_of_none e f)]
      exact a b o nb e
    refine ⟨_, e3, by rw [List.length_map]; exact Nat.lt_of_lt_of_le (by omega : l.length < 1001) (by decide), l ++ [cs[q]], by simp, ?_, by rw [upd_same, List.map_append]; rfl, fin k4 fD, fin (k3.trans k5) hD, ?_⟩
    · intro c hc
      rcases List.mem_append.mp hc with hc | hc
      · exact hl c hc
      · rw [List.mem_singleton.mp hc]; exact List.getElem_mem hq
    · obtain ⟨a, b, c, e⟩ := d4
      exact ⟨a, b, c, by rw [upd_ne nD.symm]; exact e⟩
  · rintro H2 ⟨l, hl, hc, e, k1, k2, d2⟩
    exact h D H2 l k1 k2 d2 e hc hl
theorem joinL_one : ∀ l : List Nat, TL.joinL [] (l.map fun c => [c]) = l
  | [] => rfl
  | [c] => rfl
  | c :: d :: r => by
    have ih := joinL_one (d :: r)
    show [c] ++ ([] ++ TL.joinL [] ([d] :: r.map fun c => [c])) = c :: d :: r
    rw [List.nil_append]
    rw [List.map_cons] at ih
    rw [ih]
    rfl
theorem join1 {K : PySem.W.Frag} {H : Hp} {D : Addr} {l : List Nat} (hl : l.length ≤ 1000) (e : H D = some (.lst (l.map fun c => V.str (S [c])))) :
    SqL K H D (List.map V.str (l.map fun c => S [c])) ∧ (List.map (fun x : Str => x.length) (l.map fun c => S [c])).sum + (l.map fun c => S [c]).length * (S []).length ≤ 16777216 ∧ Txt.join (S []) (l.map fun c => S [c]) = S l := by
  have e1 : (l.map fun c => V.str (S [c])) = (l.map fun c => S [c]).map V.str := by rw [List.map_map]; rfl
  have e2 : (l.map fun c => S [c]) = (l.map fun c => [c]).map SX.S := by rw [List.map_map]; rfl
  have e3 : ∀ l : List Nat, (List.map (fun x : Str => x.length) (l.map fun c => S [c])).sum = l.length := fun l => by
    induction l with
    | nil => rfl
    | cons c r ih => simp only [List.map_cons, List.sum_cons, ih, List.length_cons, SX.S_len, List.length_nil]; omega
  refine ⟨by rw [← e1]; exact SqL.of e, ?_, ?_⟩
  · rw [e3, show (S []).length = 0 from rfl, Nat.mul_zero]
    omega
  · rw [e2, show S [] = SX.S [] from rfl, SX.join_S, joinL_one]
end
end Fw
end

section
-- part FyD
set_option Elab.async false
set_option linter.all false
set_option maxRecDepth 100000
set_option maxHeartbeats 2000000
/-! Fy5: more rules -/
namespace Fw
open PySem PySem.Spec PyProof.Rows L2 SX
section
variable {K : PySem.W.Frag} {σ : L2.St} {H : Hp} {Q : VK} {te : TE} {t : TA} {QA : List V → Hp → Prop}
theorem isi_str : PySem.W.kitOne K (.type "str") (.type "str") = some true := by rfl
theorem isi_int : PySem.W.kitOne K (.type "int") (.type "str") = some false := by rfl
theorem isi_non : PySem.W.kitOne K (.type "NoneType") (.type "str") = some false := by rfl
theorem w_isiS {x : Str} (q : Q (.bl true) H) : L2.rIsi K [.str x, .ty "str"] H Q := ⟨_, _, _, _, _, rfl, .ty _, .base (.str x), isi_str, q⟩
theorem w_isiI {i : Int} (q : Q (.bl false) H) : L2.rIsi K [.int i, .ty "str"] H Q := ⟨_, _, _, _, _, rfl, .ty _, .base (.int i), isi_int, q⟩
theorem w_isiN (q : Q (.bl false) H) : L2.rIsi K [.non, .ty "str"] H Q := ⟨_, _, _, _, _, rfl, .ty _, .base .non, isi_non, q⟩
theorem w_star (h : te σ H fun x H1 => ∃ p xs, x = V.ref p ∧ (SqT K H1 p xs ∨ SqL K H1 p xs) ∧ t σ H1 fun ys H2 => QA (xs ++ ys) H2) : StX.tStar K te t σ H QA := h
theorem w_revL (h : te σ H fun x H1 => ∃ a xs, x = .ref a ∧ SqL K H1 a xs ∧ ∀ p, H1 p = none → Q (.ref p) (upd H1 p (.lst xs.reverse))) : tRevL K te σ H Q := h
theorem w_isN0 (q : Q (.bl true) H) : (fun x y H Q => y = V.non ∧ Q (.bl (decide (x = V.non))) H) V.non V.non H Q := ⟨rfl, by rw [decide_eq_true rfl]; exact q⟩
end
section
open PySem.AutoSeq1
theorem ext_tup (l : Addr) (us : Array Value) (n : Nat) (b : Addr) (ws : Array Value) (n2 : Nat) (dd : Option Addr) (sl : Array (Option Value)) (h0 : ¬(!us.isEmpty && Builtin.List.listTooLong (us.size + ws.size)) = true) (h1 : us.size ≤ sizeLine) (h2 : us.size + ws.size ≤ sizeLine + 1) :
    Meets (Builtin.«list.extend» ⟨[.ref l, .ref b], []⟩) (fun _ R s => s.heap.get? l = some { cls := .type "list", dict := none, data := .seq us n, slots := #[] } ∧ s.heap.get? b = some { cls := .type "tuple", dict := dd, data := .seq ws n2, slots := sl } ∧
      R (.ok (.ret Value.none)) { s with heap := s.heap.update l (Obj.mapSeq fun x => x ++ ws), toks := s.toks }) :=
  .of_wp fun prog w A R s h => by
    obtain ⟨hp, g, d, tk, os⟩ := s
    obtain ⟨hl, hb, h⟩ := h
    have f1 := AutoSeq1.idx_int
    have f2 := AutoSeq1.sub_tuple_tuple
    have f3 := AutoSeq1.sub_list_list
    have f4 := AutoSeq1.sub_tuple_list
    have f5 := AutoSeq1.sub_list_tuple
    have hz' : (us ++ ws).size ≤ sizeLine + 1 := by rw [Array.size_append]; exact h2
    wp_walk using (wpAny_updateSeq hl rfl (hz := h1) (_hz' := hz')), wpAny_loadPart' hl, wpAny_loadPart' hb; exact ⟨_, rfl, h⟩
end
section
variable {X : Cx}
/-- l.extend(t): t a list that is tracked, or a tuple -/
def rExtT (K : PySem.W.Frag) : V → List V → Hp → VK → Prop := fun x vs H Q => ∃ l b xs zs, x = .ref l ∧ vs = [.ref b] ∧ H l = some (.lst xs) ∧ SqT K H b zs ∧ xs.length + zs.length ≤ sizeLine ∧ Q .non (upd H l (.lst (xs ++ zs)))
theorem mt_extT : MtM X "list.extend" (rExtT X.K) := by
  intro pins s σ H x vs v us Q I rx rv h
  obtain ⟨l, b, xs, zs, rfl, rfl, hH, hB, hz, q⟩ := h
  cases rx
  obtain ⟨u, rfl, ru⟩ := rv.one
  cases ru
  obtain ⟨z, its, n, r, hl, e⟩ := I.lstM hH
  obtain ⟨its2, r2, ⟨⟨cls, dd, data, sl⟩, e2, hc, n2, hd⟩, hs⟩ := I.tuple hB
  simp only at hc hd
  subst hc hd
  have hl2 := r2.length
  have hsz : its.toArray.size + its2.toArray.size ≤ sizeLine := by rw [List.size_toArray, List.size_toArray]; omega
  have hlong : ¬ (!its.toArray.isEmpty && Builtin.List.listTooLong (its.toArray.size + its2.toArray.size)) = true := by
    rw [notLongL hsz, Bool.and_false]
    exact Bool.false_ne_true
  refine call_meets F.slot_list_extend ⟨_, e, rfl⟩ F.entry_list_extend (F.args_list_extend_2 _ _)
    (ext_tup l its.toArray n b its2.toArray n2 dd sl hlong (by rw [List.size_toArray]; omega) (by omega)) ⟨e, e2, ?_⟩
  refine ⟨.non, _, I.lset (its' := its ++ its2) hH e (by simp) (r.append r2) ?_, rfl, q⟩
  rw [List.length_append]
  omega
theorem w_extT {K : PySem.W.Frag} {l b : Addr} {xs zs : List V} {H : Hp} {Q : VK} (h : H l = some (.lst xs)) (t : SqT K H b zs) (hz : xs.length + zs.length ≤ sizeLine) (q : Q .non (upd H l (.lst (xs ++ zs)))) : rExtT K (.ref l) [.ref b] H Q := ⟨l, b, xs, zs, rfl, rfl, h, t, hz, q⟩
end
section
variable {K : PySem.W.Frag} {σ : L2.St} {H : Hp} {te : TE} {vs : List Nat} {tt : TT} {g : TG}
/-- [.. for sign in text] -/
theorem w_lcS {l : List Nat} {R : Addr → Hp → Prop} (h : ∀ D, H D = none → ∃ Pv : Nat → Hp → Prop, Pv 0 (upd H D (.lst [])) ∧
      (∀ i c H2, l[i]? = some c → Pv i H2 → g (.str (S [c])) (wipe σ vs) H2 fun σ2 H2 => wipe σ2 vs = wipe σ vs ∧ tt σ2 H2 fun b H3 =>
        if b = true then te σ2 H3 fun y H4 => ∃ acc, H4 D = some (.lst acc) ∧ acc.length < sizeLine ∧ Pv (i + 1) (upd H4 D (.lst (acc ++ [y]))) else Pv (i + 1) H3) ∧ (∀ H2, Pv l.length H2 → R D H2)) :
    ∃ x, V.str (S l) = .str x ∧ ∀ D, H D = none → ∃ W : Nat → Nat → Hp → Prop, (∃ m, W 0 m (upd H D (.lst []))) ∧ ∀ i m H, W i m H →
      ((Its x).stop i H ∧ R D H) ∨ ((Its x).go i H ∧ ∃ Nx : Hp → Prop, (∀ H', Nx H' → ∃ m', m' < m ∧ W (i + 1) m' H') ∧ ∀ y H', (Its x).yld i H y H' → g y (wipe σ vs) H' fun σ2 H2 => wipe σ2 vs = wipe σ vs ∧ tt σ2 H2 fun b H3 =>
        if b = true then te σ2 H3 fun y H4 => ∃ acc, H4 D = some (.lst acc) ∧ acc.length < sizeLine ∧ Nx (upd H4 D (.lst (acc ++ [y]))) else Nx H3) := by
  refine ⟨S l, rfl, fun D hD => ?_⟩
  obtain ⟨Pv, h0, hs, hd⟩ := h D hD
  have el : (S l).cps.size = l.length := by rw [← S_list l]; simp
  have el2 : (S l).cps.toList = l := S_list l
  refine ⟨fun i m H => m = (S l).cps.size - i ∧ i ≤ (S l).cps.size ∧ Pv i H, ⟨_, rfl, Nat.zero_le _, h0⟩, ?_⟩
  rintro i m H ⟨rfl, hi, p⟩
  by_cases hlt : i < (S l).cps.size
  · refine .inr ⟨hlt, Pv (i + 1), fun H' p' => ⟨(S l).cps.size - (i + 1), by omega, rfl, hlt, p'⟩, fun v H' y => ?_⟩
    obtain ⟨e, c, hc, rfl⟩ := y
    subst e
    have hc2 : l[i]? = some c := by
      rw [← el2]
      simpa using hc
    exact hs i c _ hc2 p
  · have e : i = (S l).cps.size := by omega
    subst e
    rw [el] at p
    exact .inl ⟨Nat.le_refl _, hd H p⟩
/-- over a tuple -/
theorem w_lcTn {p : Addr} {xs : List V} {R : Addr → Hp → Prop} (hS : SqT K H p xs) (h : ∀ D, H D = none → ∃ Pv : Nat → Hp → Prop, Pv 0 (upd H D (.lst [])) ∧ (∀ i H2, i ≤ xs.length → Pv i H2 → SqT K H2 p xs) ∧
      (∀ i x H2, xs[i]? = some x → Pv i H2 → g x (wipe σ vs) H2 fun σ2 H2 => wipe σ2 vs = wipe σ vs ∧ tt σ2 H2 fun b H3 =>
        if b = true then te σ2 H3 fun y H4 => ∃ acc, H4 D = some (.lst acc) ∧ acc.length < sizeLine ∧ Pv (i + 1) (upd H4 D (.lst (acc ++ [y]))) else Pv (i + 1) H3) ∧ (∀ H2, Pv xs.length H2 → R D H2)) :
    ∃ a, V.ref p = .ref a ∧ (∃ xs, SqT K H a xs) ∧ ∀ D, H D = none → ∃ W : Nat → Nat → Hp → Prop, (∃ m, W 0 m (upd H D (.lst []))) ∧ ∀ i m H, W i m H →
      ((Itt K a).stop i H ∧ R D H) ∨ ((Itt K a).go i H ∧ ∃ Nx : Hp → Prop, (∀ H', Nx H' → ∃ m', m' < m ∧ W (i + 1) m' H') ∧ ∀ x H', (Itt K a).yld i H x H' → g x (wipe σ vs) H' fun σ2 H2 => wipe σ2 vs = wipe σ vs ∧ tt σ2 H2 fun b H3 =>
        if b = true then te σ2 H3 fun y H4 => ∃ acc, H4 D = some (.lst acc) ∧ acc.length < sizeLine ∧ Nx (upd H4 D (.lst (acc ++ [y]))) else Nx H3) := by
  refine ⟨p, rfl, ⟨xs, hS⟩, fun D hD => ?_⟩
  obtain ⟨Pv, h0, hl, hs, hd⟩ := h D hD
  exact lc_tup (Qd := fun H => R D H) Pv h0 hl hs hd
end
end Fw
end

section
-- part Fr
set_option Elab.async false
set_option linter.all false
set_option maxRecDepth 100000
set_option maxHeartbeats 4000000
/-! Fr: a list comprehension whose element may raise -/
namespace Fw
open PySem PySem.Spec PyProof.Rows L2
section
variable {M : Model} {A : Around} {E : Value → Shared → Prop} {s : Shared} {env : Env}
/-- the end of a block whose own env is ce -/
def endOf (M : Model) (A : Around) (E : Value → Shared → Prop) (use : Option (Value → Sem Unit)) (Q : Value → Shared → Prop) (acc : Value) (ce : Env) : Result → Shared → Prop
  | .ok _, t => match use with
    | none => ∃ m, t.heap.Ns ce.locals m ∧ ∀ g, Heap.SameBut ce.locals t.heap g → Q acc { t with heap := g }
    | some u => wpAny M A (u acc) (fun _ t' => ∃ m, t'.heap.Ns ce.locals m ∧ ∀ g, Heap.SameBut ce.locals t'.heap g → Q .none { t' with heap := g }) E t
  | .error x, t => ∃ m, t.heap.Ns ce.locals m ∧ ∀ g, Heap.SameBut ce.locals t.heap g → wpAny M A (passOn "comprehension.variables-let-go" x ce : Sem Value) (fun _ _ => False) E { t with heap := g }
theorem comp_run {e : Expr} {scope : Scope} {pos : Pos} {mk first : Sem Value} {c : Comprehension} {cs : List Comprehension} {cl : List (Str × Addr)} {use : Option (Value → Sem Unit)} {Q : Value → Shared → Prop}
    (h1 : clausesOf e = c :: cs) (h2 : ∀ x, foldedSetIterable c.iter env x = pure x) (h3 : closureFor scope env = pure cl) (hk : scope.kind = .function) (hn : ∀ x ∈ scope.names, x.2 = .local → scope.names.lookup x.1 = some .local)
    (h : wpAny M A first (fun x t1 => wpAny M A (pyIter x) (fun it t2 => wpAny M A mk (fun acc t3 => wpAny M A (newFunctionEnv scope env.globals cl [] env.qual none .none (some env)) (fun ce t4 =>
      codeAny M A (.compStart e 0 it acc { ce with scope := relabel scope env }) (endOf M A E use Q acc { ce with scope := relabel scope env }) t4) E t3) E t2) E t1) E s) :
    wpAny M A (comprehension e scope env pos mk false first use) Q E s := by
  unfold comprehension
  rw [h3, h1]
  refine wpAny_bind (wpAny_mono h (fun x t1 q1 => ?_) fun _ _ z => z)
  refine wpAny_bind (wpAny_standAt (wpAny_bind (wpAny_of_eq (h2 x) (wpAny_bind (wpAny_holding (wpAny_mono q1 (fun it t2 q2 => ?_) fun _ _ z => z))))))
  refine wpAny_standIf (wpAny_bind (wpAny_mono q2 (fun acc t3 q3 => ?_) fun _ _ z => z))
  refine wpAny_bind (wpAny_pure (wpAny_bind (wpAny_mono q3 (fun ce t4 q4 => ?_) fun _ _ z => z)))
  dsimp only
  have lk : ∀ {y}, y ∈ (scope.names.filter fun x => (x.2 == .local || x.2 == .cell) && x.1 != (".0" : Str)).reverse → y.2 = .local → Env.kindOf { ce with scope := relabel scope env } y.1 = some .local := fun {y} hy hl =>
    lookup_relabel_local (hn y (List.mem_filter.mp (List.mem_reverse.mp hy)).1 hl)
  have lk2 : ∀ y ∈ (scope.names.filter fun x => (x.2 == .local || x.2 == .cell) && x.1 != (".0" : Str)).reverse.drop 1 ++ (scope.names.filter fun x => (x.2 == .local || x.2 == .cell) && x.1 != (".0" : Str)).reverse.take 1,
      y.2 = .local → Env.kindOf { ce with scope := relabel scope env } y.1 = some .local := fun y hy hl => (List.mem_append.mp hy).elim (fun z => lk (List.mem_of_mem_drop z) hl) fun z => lk (List.mem_of_mem_take z) hl
  refine wpAny_holding (wpAny_bind (wpAny_attempt (wpAny_holding (wpAny_run (codeAny_mono q4 fun r t qr => ?_)))))
  cases r with
  | error x =>
    obtain ⟨m, hm, qr⟩ := qr
    exact wpAny_bind (wpAny_holding (wpAny_comp_letGo (cenv := { ce with scope := relabel scope env }) hk _ t m (fun y hy hl => lk hy hl) hm fun g _ _ sb => wpAny_mono (qr g sb) (fun _ _ z => z.elim) fun _ _ z => z))
  | ok f =>
    cases use with
    | none =>
      obtain ⟨m, hm, qr⟩ := qr
      exact wpAny_bind (wpAny_holding (wpAny_comp_letGo (cenv := { ce with scope := relabel scope env }) hk _ t m (fun y hy hl => lk hy hl) hm fun g _ _ sb => wpAny_pure (qr g sb)))
    | some u =>
      refine wpAny_bind (wpAny_rule (wpAny_bind (wpAny_holding (wpAny_mono qr (fun _ t' qr' => ?_) fun _ _ z => z))))
      obtain ⟨m, hm, qr'⟩ := qr'
      exact wpAny_bind (wpAny_comp_letGo (cenv := { ce with scope := relabel scope env }) hk _ t' m lk2 hm fun g _ _ sb => wpAny_pure (qr' g sb))
end
theorem frames_but {h h' B : Heap} {C : Addr} (k : ∀ b o, b ≠ C → h.get? b = some o → h'.get? b = some o) : ∀ {l : List Env}, h.FunFrames B l → C ∉ frs l → h'.FunFrames B l
  | [], _, _ => trivial
  | env :: l, x, n => by
    obtain ⟨x1, ⟨L, o, hf, hb, ho, hd⟩, x2⟩ := x
    have mL : L ∈ frs (env :: l) := List.mem_filterMap.mpr ⟨env, List.mem_cons_self, hf⟩
    refine ⟨x1, ⟨L, o, hf, hb, k L o (fun z => n (z ▸ mL)) ho, hd⟩, frames_but k x2 fun m => n ?_⟩
    obtain ⟨e, he, q⟩ := List.mem_filterMap.mp m
    exact List.mem_filterMap.mpr ⟨e, List.mem_cons_of_mem _ he, q⟩
theorem frames_base {h B B' : Heap} : ∀ {l : List Env}, h.FunFrames B l → (∀ b, B.get? b = none → B'.get? b = none) → h.FunFrames B' l
  | [], _, _ => trivial
  | env :: l, x, n => by
    obtain ⟨x1, ⟨L, o, hf, hb, ho, hd⟩, x2⟩ := x
    exact ⟨x1, ⟨L, o, hf, n L hb, ho, hd⟩, frames_base x2 n⟩
section
variable {X : Cx}
/-- what leaves a block by a call in it -/
def fromBlock (B : Cx) (X : Cx) (E : XK) : Value → Shared → Prop := fun u t => ∃ pins σ H s, Inv B pins σ H s ∧ L2.CX X.prog X.w X.stack H s E u t
theorem passes_block {B : Cx} {E : XK} (hs : B.stack = X.stack) : Passes (L2.CX X.prog X.w) (B.wish (fromBlock B X E)) E := by
  intro pins σ H s e t I c
  refine ⟨pins, σ, H, s, I.unwish, ?_⟩
  rw [← hs]
  exact c
theorem note_same {ce env : Env} (h : ce.frame = env.frame) (x : Value) : noteFrame x ce = noteFrame x env := by
  unfold noteFrame PySem.frameOf
  rw [h]
theorem block_raise {pins : List (Addr × Obj)} {σ : L2.St} {H3 : Hp} {s3 : Shared} {scope : Scope} {ce : Env} {fp : List Addr} {E : XK} {use : Option (Value → Sem Unit)} {Qf : Value → Shared → Prop} {acc u : Value} {t : Shared}
    (hs : X.stack = X.env :: X.outer) (hf : X.env.frame = some X.env.locals) (tk : Takes X (fun cls d _ H => E cls d H)) (I3 : Inv X pins σ H3 s3) (hcf : ce.frame = X.env.frame) (hcl : ce.locals = s3.heap.objs.size) (f3 : ∀ b ∈ fp, FpOk X pins H3 b)
    (r : fromBlock (X.blk s3 H3 scope ce fp) X E u t) : notedBy (model X.prog X.w) X.A ce (fun e t => endOf (model X.prog X.w) X.A X.xe use Qf acc ce (.error e) t) u t := by
  obtain ⟨pB, σB, HB, sB, IB, a, Bg, H', cls, d, rfl, fl, hok, ub, na, os, ag, hE⟩ := r
  have I7 : Inv X pins σ HB sB := I3.call' (ch := fp) IB.os IB.base IB.hok IB.bare fun b hb => ⟨(f3 b hb).2.2.2.1, (f3 b hb).2.1, (f3 b hb).2.2.2.2.1, (f3 b hb).2.2.2.2.2⟩
  have nC : HB ce.locals = none := IB.free
  obtain ⟨m, hn, _⟩ := IB.loc
  have hn : sB.heap.Ns ce.locals m := hn
  have fC : FpOk X pins HB s3.heap.objs.size := I3.fpOk (Nat.le_refl _) (by rw [← hcl]; exact nC)
  rw [← hcl] at fC
  generalize hC : ce.locals = C at nC hn fC
  have Cf : C ∉ frs X.stack := fun hm => by
    rcases List.mem_cons.mp (I3.stkSub C hm) with z | z
    · exact fC.2.1 z
    · exact fC.2.2.1 z
  obtain ⟨oC, _, _, eC, _⟩ := id hn
  have hn' : t.heap.Ns C m := hn.at' fun o e => fl.1 _ _ (ub.keep C o e nC Cf)
  have nC' : H' C = none := ub.free C oC eC nC
  -- the ground without C
  obtain ⟨B', b1, b2⟩ := restrict Bg fun b => decide (b ≠ C)
  have b3 : ∀ b o, B'.get? b = some o → Bg.get? b = some o ∧ b ≠ C := fun b o e => by
    by_cases z : b = C
    · rw [b2 b (by simp [z])] at e
      cases e
    · exact ⟨by rw [← b1 b (by simp [z])]; exact e, z⟩
  have b4 : ∀ b o, b ≠ C → Bg.get? b = some o → B'.get? b = some o := fun b o z e => by rw [b1 b (by simp [z])]; exact e
  have b5 : ∀ b, Bg.get? b = none → B'.get? b = none := fun b e => by
    cases q : B'.get? b with
    | none => rfl
    | some o => rw [(b3 b o q).1] at e; cases e
  have hfr : X.A.frames = some (X.env :: X.outer) := by rw [I3.ok.frames, hs]
  rw [hs] at fl
  unfold notedBy
  rw [note_same hcf]
  refine HandSPX.looks_onZ Zc.steady hfr hf fl fun h1 held up1 => ?_
  obtain ⟨k1, k2, k3, oe, vs, T, oT, ts, he, hz, hd, q1, nT, Ta, hT, hdT, q3⟩ := held
  refine ⟨m, ?_, fun g sb => ?_⟩
  · rw [hC]
    exact hn.at' fun o e => k1 _ _ (ub.keep C o e nC Cf)
  have bC := ub.keep C oC eC nC Cf
  have aC : a ≠ C := fun z => by rw [z, bC] at k2; cases k2
  have TC : T ≠ C := fun z => by rw [z, bC] at nT; cases nT
  have same : ∀ b, b ≠ C → g.get? b = h1.get? b := fun b hb => sb.2 b (by rw [hC]; exact hb)
  have held2 : HandSPX.HeldZ B' (X.env :: X.outer) a (Zc cls d) X.env.locals g := by
    refine ⟨fun b o e => ?_, b5 a k2, frames_base (frames_but (fun b o hb e => (same b hb).trans e) k3 (by rw [← hs]; exact Cf)) b5, oe, vs, T, oT, ts, (same a aC).trans he, hz, hd, q1, b5 T nT, Ta, (same T TC).trans hT, hdT, q3⟩
    obtain ⟨e1, e2⟩ := b3 b o e
    exact (same b e2).trans (k1 _ _ e1)
  unfold PySem.passOn
  refine wpAny_bind (wpAny_field ((same a aC).trans he) hd q1 ?_)
  rw [if_neg (show ¬ ((Value.ref T == Value.none) = true) from by simp)]
  have fin : wpAny (model X.prog X.w) X.A (setFlight (.ref a) ce.frame) (fun _ t4 => wpAny (model X.prog X.w) X.A (throw (.ref a) : Sem Value) (fun _ _ => False) X.xe t4) X.xe { t with heap := g } := by
    rw [hcf, hf]
    refine HandSPX.setFlight_onZ held2 fun h2 held3 up3 => wpAny_throw (tk _ _ ?_)
    obtain ⟨G, g1, g2⟩ := restrict t.heap fun b => (B'.get? b).isSome || decide (b ∈ frs X.stack)
    have og : ∀ b o, G.get? b = some o → t.heap.get? b = some o ∧ ((B'.get? b).isSome = true ∨ b ∈ frs X.stack) := fun b o e => by
      cases q : ((B'.get? b).isSome || decide (b ∈ frs X.stack)) with
      | true =>
        rw [g1 b q] at e
        exact ⟨e, by simpa [Bool.or_eq_true] using q⟩
      | false => rw [g2 b q] at e; cases e
    have gB : ∀ b o, B'.get? b = some o → G.get? b = some o := fun b o e => by
      rw [g1 b (by simp [e])]
      exact fl.1 b o (b3 b o e).1
    have gF : ∀ b, b ∈ frs X.stack → G.get? b = t.heap.get? b := fun b hb => g1 b (by simp [hb])
    have GC : ∀ b o, G.get? b = some o → b ≠ C := fun b o e z => by
      rcases (og b o e).2 with q | q
      · obtain ⟨o', q⟩ := Option.isSome_iff_exists.mp q
        exact (b3 b o' q).2 z
      · exact Cf (z ▸ q)
    refine ⟨a, B', { sB with heap := G, gens := t.gens, drawn := t.drawn, toks := t.toks }, pins, σ, H', cls, d, rfl, ?_, fun b o e hb => ?_, fun b o e hnf => ?_, .inr (.inr (by rw [hs]; exact held3)), na, os, ag, hE⟩
    · have slotF : ∀ b o, sB.heap.get? b = some o → b ∈ frs X.stack → ∃ sl, G.get? b = some { o with slots := sl } := fun b o e hb => by
        obtain ⟨sl, q⟩ := ub.slot b o e hb
        exact ⟨sl, by rw [gF b hb]; exact q⟩
      refine I7.call (ch := [C]) ⟨fun b o e n hb hc => gB b o (b4 b o (fun z => hc (by simp [z])) (ub.keep b o e n hb)), fun b o e n hb hc => slotF b o e hb, fun b o e n _ => ub.free b o e n, fun b o e hc => ?_, ub.tups, ub.frzs, ub.tbls⟩ (fun b o q => ?_) ag fun b hb => ?_
      · by_cases hb : b ∈ frs X.stack
        · obtain ⟨sl, q⟩ := slotF b o e hb
          exact ⟨_, q⟩
        · obtain ⟨o', q⟩ := ub.there b o e hb
          exact ⟨o', gB b o' (b4 b o' (fun z => hc (by simp [z])) q)⟩
      · refine (hok b o q).stay (fun c v hc e => gB c v (b4 c v (fun z => ?_) e)) (fun _ z => z) fun _ _ z => z
        rcases hc with hc | hc
        · rw [← hc, z, nC'] at q; cases q
        · rw [z, nC'] at hc; cases hc
      · rw [List.mem_singleton.mp hb]
        exact ⟨fC.2.2.2.1, fC.2.1, fC.2.2.2.2.1, fC.2.2.2.2.2⟩
    · obtain ⟨e', q⟩ := og b o e
      rcases q with q | q
      · obtain ⟨o', q⟩ := Option.isSome_iff_exists.mp q
        have z := fl.1 b o' (b3 b o' q).1
        rw [e'] at z
        cases z
        exact q
      · exact absurd q hb
    · obtain ⟨e', _⟩ := og b o e
      obtain ⟨sl, z1⟩ := up1 b o e' hnf
      have z2 := (same b (GC b o e)).trans z1
      obtain ⟨sl2, z3⟩ := up3 b _ z2 hnf
      exact ⟨sl2, z3⟩
  first
    | exact wpAny_bind (wpAny_pure (wpAny_bind fin))
    | exact wpAny_bind fin
/-- the comprehension's rule, its element one that may raise E -/
theorem lc_raise {pins : List (Addr × Obj)} {s : Shared} {σ : L2.St} {H : Hp} {Q : VK} {elt tg iter : Expr} {ifs : List Expr} {scope : Scope} {own : List (Str × Nat)} {pos pos' : Pos} {wi : TI} {g : TG} {tt : TT} {te : TE} {use : Option (Value → Sem Unit)} {Qf : Value → Shared → Prop} {E : XK}
    (hs : X.stack = X.env :: X.outer) (hf : X.env.frame = some X.env.locals) (tk : Takes X (fun cls d _ H => E cls d H)) (calm : X.calm = true) (hN : X.N.Nodup) (I : Inv X pins σ H s) (hi : PI X tg iter wi) (ok : BlkOk X.N X.env.scope scope own)
    (hg : ∀ (s : Shared) (H : Hp) (C : Addr) (cl : List (Str × Addr)) (fp : List Addr), PG (X.blk s H scope (compEnvC scope cl C X.env) fp) tg g)
    (ht : ∀ (s : Shared) (H : Hp) (C : Addr) (cl : List (Str × Addr)) (fp : List Addr), PTs (X.blk s H scope (compEnvC scope cl C X.env) fp) ifs tt)
    (he : ∀ (s : Shared) (H : Hp) (C : Addr) (cl : List (Str × Addr)) (fp : List Addr), PE ((X.blk s H scope (compEnvC scope cl C X.env) fp).wish (fromBlock (X.blk s H scope (compEnvC scope cl C X.env) fp) X E)) elt te)
    (hfs : ∀ x, foldedSetIterable iter X.env x = pure x) (h : tLc wi g tt te (own.map (·.2)) σ H Q)
    (hend : ∀ D ce t m H', ce.frame = X.env.frame → Inv X pins σ H' t → Q (.ref D) H' → t.heap.Ns ce.locals m → FpOk X pins H' ce.locals → endOf (model X.prog X.w) X.A X.xe use Qf (.ref D) ce (.ok .next) t) :
    wpAny (model X.prog X.w) X.A (comprehension (.ListComp elt [⟨tg, iter, ifs, 0⟩] scope pos) scope X.env pos' (newList []) false (eval iter X.env) use) Qf X.xe s := by
  have free : ∀ z ∈ scope.names, z.2 = .free → ∃ c, X.env.cells.lookup z.1 = some c := fun z hz e => (ok.free z hz e).elim (fun k => I.ok.has _ (.inl k)) fun k => I.ok.has _ (.inr k)
  refine comp_run rfl hfs (closure_ok free) ok.kind (fun z hz e => by rw [ok.uniq z hz, e]) (thn (hi.run pins s σ H _ I h) fun xv s1 hx => thn hx fun itv s2 ⟨it, fp, tn, J, H2, e, I2, T, st2, f2, q⟩ => ?_)
  subst e
  refine wpAny_newObj_type (newEnv_comp ?_) (show 0 ≤ sizeLine by decide)
  generalize hD : s2.heap.objs.size = D
  have hDn : H2 D = none := I2.hok.fresh (Nat.le_of_eq hD)
  obtain ⟨W, ⟨m0, w0⟩, turn⟩ := q D hDn
  generalize hs3 : ({ s2 with heap := s2.heap.push { cls := .type "list", data := .seq ([] : List Value).toArray } } : Shared) = s3
  have h3 : s3.heap = s2.heap.push { cls := .type "list", data := .seq ([] : List Value).toArray } := by rw [← hs3]
  have I3 : Inv X pins σ (upd H2 D (.lst [])) s3 := by
    rw [← hs3]
    exact I2.laid (t' := s2.toks) (fun b o e => Heap.get?_push_of_some _ e) (Nat.le_of_eq hD) ⟨Nat.zero_le _, [], 0, .nil, by rw [← hD]; exact Heap.get?_push_size _ rfl⟩
  have f3 : ∀ b ∈ fp, FpOk X pins (upd H2 D (.lst [])) b ∧ b < s3.heap.objs.size := fun b hb => by
    obtain ⟨o, e, _⟩ := T.obj _ _ st2 b hb
    have lt := Heap.lt_size e
    exact ⟨⟨by rw [upd_ne (by rw [← hD]; exact Nat.ne_of_lt lt)]; exact (f2 b hb).1, (f2 b hb).2⟩, by rw [h3, Heap.size_push]; exact Nat.lt_succ_of_lt lt⟩
  have st3 : tn 0 s3.heap := T.keep _ _ _ st2 fun b _ o e => by rw [h3]; exact Heap.get?_push_of_some _ e
  have I4 := block_start I3 ok hN f3
  have pg := hg s3 (upd H2 D (.lst [])) s3.heap.objs.size (cellsFrom (s3.heap.objs.size + 1) scope.names (cloFrom X.env.cells scope.names [])) fp
  have pt := ht s3 (upd H2 D (.lst [])) s3.heap.objs.size (cellsFrom (s3.heap.objs.size + 1) scope.names (cloFrom X.env.cells scope.names [])) fp
  have pe := he s3 (upd H2 D (.lst [])) s3.heap.objs.size (cellsFrom (s3.heap.objs.size + 1) scope.names (cloFrom X.env.cells scope.names [])) fp
  show codeAny _ _ (.compStart (.ListComp elt [⟨tg, iter, ifs, 0⟩] scope pos) 0 (.ref it) (.ref D) (compEnvC scope (cellsFrom (s3.heap.objs.size + 1) scope.names (cloFrom X.env.cells scope.names [])) s3.heap.objs.size X.env))
    (endOf (model X.prog X.w) X.A X.xe use Qf (.ref D) (compEnvC scope (cellsFrom (s3.heap.objs.size + 1) scope.names (cloFrom X.env.cells scope.names [])) s3.heap.objs.size X.env)) { s3 with heap := pushCells (s3.heap.push { cls := .type "dict", data := .dict #[] }) scope.names }
  have nfp : ∀ b ∈ fp, (upd H2 D (.lst [])) b = none := fun b hb => (f3 b hb).1.1
  generalize hce : compEnvC scope (cellsFrom (s3.heap.objs.size + 1) scope.names (cloFrom X.env.cells scope.names [])) s3.heap.objs.size X.env = ce at I4 pg pt pe ⊢
  have cL : ce.locals = s3.heap.objs.size := by subst hce; rfl
  have cF : ce.frame = X.env.frame := by subst hce; rfl
  generalize hH3 : upd H2 D (.lst []) = H3 at I3 I4 pg pt pe w0 nfp f3
  generalize hs4 : ({ s3 with heap := pushCells (s3.heap.push { cls := .type "dict", data := .dict #[] }) scope.names } : Shared) = s4 at I4 ⊢
  have st4 : tn 0 s4.heap := T.keep _ _ _ st3 fun b _ o e => by rw [← hs4]; exact pushCells_keeps _ _ _ _ (Heap.get?_push_of_some _ e)
  have stat : ∀ {σ' : L2.St} {H' : Hp} {t : Shared}, Inv (X.blk s3 H3 scope ce fp) [] σ' H' t → (∀ b ∈ fp, H' b = none) → ∀ b ∈ fp, FpOk (X.blk s3 H3 scope ce fp) [] H' b := fun {σ' H' t} J hn b hb =>
    ⟨hn b hb, (J.ok.exf b hb).1, J.ok.exfs b hb, .inl hb, fun x c e => (J.ok.exf b hb).2 x c e, fun p hp => absurd (show p ∈ ([] : List (Addr × Obj)) ++ [] from hp) (by simp)⟩
  have back : ∀ {pB : List (Addr × Obj)} {σB : L2.St} {H' : Hp} {t : Shared}, Inv (X.blk s3 H3 scope ce fp) pB σB H' t → Inv X pins σ H' t := fun {pB σB H' t} J =>
    I3.call' (ch := fp) J.os J.base J.hok J.bare fun b hb => ⟨(f3 b hb).1.2.2.2.1, (f3 b hb).1.2.1, (f3 b hb).1.2.2.2.2.1, (f3 b hb).1.2.2.2.2.2⟩
  have loop : codeAny (model X.prog X.w) X.A (.compLoop (.ListComp elt [⟨tg, iter, ifs, 0⟩] scope pos) 0 (.ref it) (.ref D) ce) (endOf (model X.prog X.w) X.A X.xe use Qf (.ref D) ce) s4 := by
    refine compLoop_any (fun n t => ∃ i H', Inv (X.blk s3 H3 scope ce fp) [] (wipe σ (own.map (·.2))) H' t ∧ tn i t.heap ∧ (∀ b ∈ fp, H' b = none) ∧ W i n H') ?_ m0 ⟨0, H3, I4, st4, nfp, w0⟩
    rintro n s5 ⟨i, H5, I5, st5, n5, w5⟩
    rcases turn i n H5 w5 with ⟨stop, qq⟩ | ⟨go, Nx, hNx, step⟩
    · refine thnF (T.done (X.blk s3 H3 scope ce fp) rfl rfl rfl calm i [] s5 _ H5 (fun _ _ => False) I5 (stat I5 n5) st5 stop) fun r s6 ⟨hr, I6⟩ => ?_
      subst hr
      have z : H5 ce.locals = none := I6.free
      obtain ⟨m, hn, _⟩ := I6.loc
      exact hend D ce s6 m H5 cF (back I6) qq hn (by rw [cL] at z ⊢; exact I3.fpOk (Nat.le_refl _) z)
    · refine thnF (T.item (X.blk s3 H3 scope ce fp) rfl rfl rfl calm i [] s5 _ H5 (fun _ _ => False) I5 (stat I5 n5) st5 go) fun r s6 ⟨u, hr, h6⟩ => ?_
      subst hr
      refine thnF h6 fun _ s7 ⟨x, H7, I7, r7, y7, st7, n7⟩ => ?_
      refine thnF (pg.run _ s7 _ H7 x u _ (I7.pinned (stat I7 n7) (T.obj _ _ st7)) r7 (step x H7 y7)) fun _ s8 ⟨σ8, H8, I8, hw8, q8⟩ => ?_
      refine thnF (pt.run _ s8 σ8 H8 _ I8 q8) fun b s9 ⟨H9, I9, q9⟩ => ?_
      have fin : ∀ {t : Shared} {H' : Hp}, Inv (X.blk s3 H3 scope ce fp) ([] ++ pinsAt fp s7.heap) σ8 H' t → Nx H' → ∃ m, m < n ∧ ∃ i H', Inv (X.blk s3 H3 scope ce fp) [] (wipe σ (own.map (·.2))) H' t ∧ tn i t.heap ∧ (∀ b ∈ fp, H' b = none) ∧ W i m H' := fun {t H'} J nx => by
        obtain ⟨m', hm, w'⟩ := hNx H' nx
        have pin : ∀ b ∈ fp, ∀ o, s7.heap.get? b = some o → t.heap.get? b = some o ∧ H' b = none := fun b hb o e =>
          have z := J.pin (b, o) (List.mem_append_right _ (List.mem_append_right _ (mem_pinsAt hb e)))
          ⟨z.1, z.2.1⟩
        refine ⟨m', hm, i + 1, H', (J.unpinned (pins := [])).weak (by rw [← hw8, wipe_length]) (fun j v e => by rw [← hw8] at e; exact (wipe_some e).1), T.keep _ _ _ st7 fun b hb o e => (pin b hb o e).1, fun b hb => ?_, w'⟩
        obtain ⟨o, e, _⟩ := T.obj _ _ st7 b hb
        exact (pin b hb o e).2
      cases b with
      | true =>
        simp only [if_true] at q9 ⊢
        refine wpAny_mono (pe.run _ s9 σ8 H9 _ (I9.wish _) q9) (fun z s10 ⟨yv, H10, I10, r10, acc, hD10, hz10, nx⟩ => ?_) fun u t r => block_raise hs hf tk I3 cF cL (fun b hb => (f3 b hb).1) r
        exact app_ok (X := X.blk s3 H3 scope ce fp) I10.unwish hD10 hz10 r10 fun s11 I11 => fin I11 nx
      | false =>
        simp only [Bool.false_eq_true, if_false] at q9 ⊢
        exact fin I9 q9
  exact codeAny_compStart_list loop (T.self X.A 0 _ _ _ st4 loop)
theorem pe_lcR {elt tg iter : Expr} {ifs : List Expr} {scope : Scope} {own : List (Str × Nat)} {pos : Pos} {wi : TI} {g : TG} {tt : TT} {te : TE} {E : XK} (hs : X.stack = X.env :: X.outer) (hf : X.env.frame = some X.env.locals) (tk : Takes X (fun cls d _ H => E cls d H)) (calm : X.calm = true) (hN : X.N.Nodup)
    (hi : PI X tg iter wi) (ok : BlkOk X.N X.env.scope scope own) (hg : ∀ (s : Shared) (H : Hp) (C : Addr) (cl : List (Str × Addr)) (fp : List Addr), PG (X.blk s H scope (compEnvC scope cl C X.env) fp) tg g)
    (ht : ∀ (s : Shared) (H : Hp) (C : Addr) (cl : List (Str × Addr)) (fp : List Addr), PTs (X.blk s H scope (compEnvC scope cl C X.env) fp) ifs tt)
    (he : ∀ (s : Shared) (H : Hp) (C : Addr) (cl : List (Str × Addr)) (fp : List Addr), PE ((X.blk s H scope (compEnvC scope cl C X.env) fp).wish (fromBlock (X.blk s H scope (compEnvC scope cl C X.env) fp) X E)) elt te)
    (hfs : ∀ x, foldedSetIterable iter X.env x = pure x := by intro _; rfl) : PE X (.ListComp elt [⟨tg, iter, ifs, 0⟩] scope pos) (tLc wi g tt te (own.map (·.2))) := by
  refine ⟨fun pins s σ H Q I h => ?_⟩
  rw [eval_ListComp]
  refine lc_raise hs hf tk calm hN I hi ok hg ht he hfs h fun D ce t m H' _ J q hn f => ⟨m, hn, fun g sb => ?_⟩
  exact ⟨.ref D, H', J.turned (t' := t.toks) (fun b o hb e => (sb.2 b hb).trans e) f.1 f.2.1 f.2.2.2.1 f.2.2.2.2.1 f.2.2.2.2.2, rfl, q⟩
/-- name = [..], the name a local -/
theorem ps_setLcR {i : Nat} {y : Str} {py : Pos} {elt tg iter : Expr} {ifs : List Expr} {scope : Scope} {own : List (Str × Nat)} {pos spos : Pos} {wi : TI} {g : TG} {tt : TT} {te : TE} {E : XK} (hs : X.stack = X.env :: X.outer) (hf : X.env.frame = some X.env.locals) (tk : Takes X (fun cls d _ H => E cls d H)) (calm : X.calm = true) (hN : X.N.Nodup)
    (hy : X.N[i]? = some y) (hyl : X.env.scope.names.lookup y = some .local) (hsw : swapsWith (.ListComp elt [⟨tg, iter, ifs, 0⟩] scope pos) (some (.Name y py)) spos.line X.env = pure true)
    (hi : PI X tg iter wi) (ok : BlkOk X.N X.env.scope scope own) (hg : ∀ (s : Shared) (H : Hp) (C : Addr) (cl : List (Str × Addr)) (fp : List Addr), PG (X.blk s H scope (compEnvC scope cl C X.env) fp) tg g)
    (ht : ∀ (s : Shared) (H : Hp) (C : Addr) (cl : List (Str × Addr)) (fp : List Addr), PTs (X.blk s H scope (compEnvC scope cl C X.env) fp) ifs tt)
    (he : ∀ (s : Shared) (H : Hp) (C : Addr) (cl : List (Str × Addr)) (fp : List Addr), PE ((X.blk s H scope (compEnvC scope cl C X.env) fp).wish (fromBlock (X.blk s H scope (compEnvC scope cl C X.env) fp) X E)) elt te)
    (hfs : ∀ x, foldedSetIterable iter X.env x = pure x := by intro _; rfl) : PS X (.Assign [.Name y py] (.ListComp elt [⟨tg, iter, ifs, 0⟩] scope pos) spos) (tAsg (tLc wi g tt te (own.map (·.2))) (gName i)) := by
  refine ⟨fun pins s σ H D I h => ?_⟩
  rw [exec_Assign_Name_used _ _ _ _ hsw]
  refine wpAny_bind (wpAny_standAt (wpAny_bind ?_))
  have h : tLc wi g tt te (own.map (·.2)) σ H (fun x H1 => gName i x σ H1 D.nx) := h
  show wpAny _ X.A (do
    let _ ← comprehension (.ListComp elt [⟨tg, iter, ifs, 0⟩] scope pos) scope X.env (firstIterPos [⟨tg, iter, ifs, 0⟩] pos) (newList []) false (eval iter X.env) (some (assign (.Name y py) X.env))) _ _ s
  refine wpAny_bind (thn (lc_raise (Qf := fun _ t => SP X pins D .next t) hs hf tk calm hN I hi ok hg ht he hfs h fun L ce t m H' _ J q hn f => ?_) fun _ t hq => wpAny_pure (wpAny_pure hq))
  show wpAny _ _ (assign (.Name y py) X.env (.ref L)) _ _ _
  refine wpAny_assign_Name (store_ok2 (v := V.ref L) J hN hy (.inl hyl) rfl (fun s2 I2 ⟨a, sb, ha⟩ => ?_) (.inr hyl))
  have haC : ce.locals ≠ a := ha.elim (fun z => by rw [z]; exact f.2.1) fun z e => f.2.2.2.2.1 y a z e.symm
  exact ⟨m, hn.sameBut sb haC, fun h3 sb3 => ⟨_, H', I2.turned (t' := s2.toks) (fun b o hb e => (sb3.2 b hb).trans e) f.1 f.2.1 f.2.2.2.1 f.2.2.2.2.1 f.2.2.2.2.2, q⟩⟩
end
end Fw
end

section
-- part Ft
set_option Elab.async false
set_option linter.all false
set_option maxRecDepth 100000
set_option maxHeartbeats 2000000
/-! Ft: a def that tells which of two own errors came -/
namespace Fw
open PySem PySem.Spec PyProof.Rows L2 LamX
section
variable {X : Cx}
theorem told2_gives {Ng : List Str} {x a e e2 q ret ret2 : Str} {sg : Scope} {g CS CS2 : Addr} {cdg : Value} {j j2 : Nat} {p1 p2 p3 p4 p5 p6 p7 p8 q4 q5 q6 q7 : Pos} (hge : sg.names.lookup e = some .globalImplicit) (hme : X.mg e = some (.ref CS)) (hde : (e == ("__debug__" : Str)) = false)
    (hge2 : sg.names.lookup e2 = some .globalImplicit) (hme2 : X.mg e2 = some (.ref CS2)) (hde2 : (e2 == ("__debug__" : Str)) = false) (h0 : ∀ f : Addr, (L2.start Ng [V.ref f])[0]? = some (some (V.ref f))) :
    GivesTo X Ng x sg g cdg [.Try [.Return (some (.Call (.Name a p1) [] [] p2)) p3]
      [.ExceptHandler (some (.Name e p4)) none [.Return (some (.Constant (.str ret) j p5)) p6] p7, .ExceptHandler (some (.Name e2 q4)) none [.Return (some (.Constant (.str ret2) j2 q5)) q6] q7] [] [] p8] a q (TTold X.K CS ret) := by
  intro f c' s H Q tl act hc h
  have hgl : Gl (cxOf C8.CX0 X.prog X.w X.K X.mg X.base Ng x sg g cdg X.A X.stack s H C8.E0).nox e := hge
  have hgl2 : Gl (cxOf C8.CX0 X.prog X.w X.K X.mg X.base Ng x sg g cdg X.A X.stack s H C8.E0).nox e2 := hge2
  refine ⟨_, pss_one (ps_try_many (X := (cxOf C8.CX0 X.prog X.w X.K X.mg X.base Ng x sg g cdg X.A X.stack s H C8.E0).nox)
      (tb := fun W D σ H => ∃ Ech : XK, (∀ cls d σ' H', Ech cls d H' → W cls d σ' H') ∧ σ[0]? = some (some (.ref f)) ∧ H c' = some (CodeO c' q) ∧ tl Ech H D.rt)
      rfl rfl LamX.takes0 (fun W pn xe tk _ => ?_)
      (.cons (c := .ref CS) ⟨hgl, hde, .inl hme⟩ (fun a oe cls d pn _ _ => pss_one (ps_ret pe_str)) (.cons (c := .ref CS2) ⟨hgl2, hde2, .inl hme2⟩ (fun a oe cls d pn _ _ => pss_one (ps_ret pe_str)) .nil))), ?_⟩
  · refine ⟨fun pins s' σ H' D I h' => ?_⟩
    obtain ⟨Ech, hW, h1, h2, h3⟩ := h'
    have hp := act W pn xe Ech p1 p2 tk hW
    have hq := pss_one (ps_ret (pos := p3) hp)
    exact hq.run pins s' σ H' D I ⟨h1, h2, h3⟩
  · exact ⟨fun cls _ H' => ∃ b, PySem.W.exmOne X.K cls (.ref CS) = some b ∧ (b = true → Q (.str ret) H') ∧ (b = false → False), fun cls d σ' H' ⟨b, e1, e2, e3⟩ => ⟨b, e1, fun hb a _ => e2 hb, fun hb => (e3 hb).elim⟩, h0 f, hc, h⟩
theorem pe_fldK (K : PySem.W.Frag) {e : Expr} {f : Str} {pos : Pos} {ta : TE} (he : PE X e ta) (hb : attributeBase e f X.env (eval e X.env) = eval e X.env) (hK : X.K = K) : PE X (.Attribute e f pos) (tFld K ta f) := by
  subst hK
  exact pe_fld he hb
end
section
variable {σ : L2.St} {H : Hp} {Q : VK} {ta tb : TE}
theorem w_andV (h : ta σ H fun x H1 => ∃ c, x = .bl c ∧ if c = true then tb σ H1 Q else Q (.bl false) H1) : tAndV ta tb σ H Q := h
theorem w_orV (h : ta σ H fun x H1 => ∃ c, x = .bl c ∧ if c = true then Q (.bl true) H1 else tb σ H1 Q) : tOrV ta tb σ H Q := h
theorem w_notV (h : ta σ H fun x H1 => ∃ c, x = .bl c ∧ Q (.bl (!c)) H1) : tNotV ta σ H Q := h
end
end Fw
end

section
-- part Fz3
set_option Elab.async false
set_option linter.all false
set_option maxRecDepth 100000
set_option maxHeartbeats 2000000
/-! Fz3: zip of two tuples and a list; len(range(a, b, c)) -/
namespace Fw
open PySem PySem.Spec PyProof.Rows L2
/-- two tuples and a list as they stand at each turn, the items in new tuples -/
def Itz3 (K : PySem.W.Frag) (a b c : Addr) : It :=
  ⟨fun i H => ∃ (xs ys zs : List V) (x y z : V), SqT K H a xs ∧ SqT K H b ys ∧ SqL K H c zs ∧ xs[i]? = some x ∧ ys[i]? = some y ∧ zs[i]? = some z,
    fun i H v H' => ∃ T x y z, v = .ref T ∧ H T = none ∧ H' = upd H T (.tup [x, y, z]) ∧ (∀ xs, SqT K H a xs → xs[i]? = some x) ∧ (∀ ys, SqT K H b ys → ys[i]? = some y) ∧ ∀ zs, SqL K H c zs → zs[i]? = some z,
    fun i H => ∃ xs ys zs : List V, SqT K H a xs ∧ SqT K H b ys ∧ SqL K H c zs ∧ i = xs.length ∧ xs.length = ys.length ∧ ys.length = zs.length⟩
theorem sub6 {z TI TO i1 i2 i3 d : Addr} (h : d ∉ [z, TI, TO, i1, i2, i3]) : d ∉ [z, TO, i1, i2, i3] := fun q => h (by
  simp only [List.mem_cons, List.not_mem_nil, or_false] at q ⊢
  rcases q with q | q | q | q | q <;> simp [q])
theorem turn_zip3 {P : Program} {w : World} {K : PySem.W.Frag} {elts : List Expr} {kk : Nat} {tpos : Pos} {a b c z TI TO i1 i2 i3 : Addr} (S : ZipSep3 z TI TO i1 i2 i3 [i1, a] [i2, b] [i3, c]) (na : a ≠ i1) (nb : b ≠ i2) (nc : c ≠ i3) :
    Turn P w K (.Tuple elts kk tpos) (Itz3 K a b c) [z, TI, TO, i1, i2, i3] z (fun i h => IsZip h z TI TO .none ∧ IsTupOf3 h TI (.ref i1) (.ref i2) (.ref i3) ∧ (∃ x y u, IsTupOf3 h TO x y u) ∧ h.IsTupleIter i1 a i ∧ h.IsTupleIter i2 b i ∧ h.IsListIter i3 c i) where
  mem := by simp
  obj := fun i h st d hd => by
    obtain ⟨hz, hTI, ⟨x, y, u, hTO⟩, ⟨o1, e1, _, d1⟩, ⟨o2, e2, _, d2⟩, ⟨o3, e3, _, d3⟩⟩ := st
    have e' : d = z ∨ d = TI ∨ d = TO ∨ d = i1 ∨ d = i2 ∨ d = i3 := by simpa using hd
    rcases e' with q | q | q | q | q | q
    · rw [q]; exact ⟨_, hz, fun v q => nomatch q⟩
    · rw [q]; exact ⟨_, hTI, fun v q => nomatch q⟩
    · rw [q]; exact ⟨_, hTO, fun v q => nomatch q⟩
    · rw [q]; exact ⟨o1, e1, fun v q => by rw [d1] at q; cases q⟩
    · rw [q]; exact ⟨o2, e2, fun v q => by rw [d2] at q; cases q⟩
    · rw [q]; exact ⟨o3, e3, fun v q => by rw [d3] at q; cases q⟩
  keep := fun i h h' st k => by
    obtain ⟨hz, hTI, ⟨x, y, u, hTO⟩, h1, h2, h3⟩ := st
    exact ⟨k z (by simp) _ hz, k TI (by simp) _ hTI, ⟨x, y, u, k TO (by simp) _ hTO⟩, h1.at fun o q => k i1 (by simp) o q, h2.at fun o q => k i2 (by simp) o q, h3.at fun o q => k i3 (by simp) o q⟩
  item := by
    intro X hP hw hK hc i pins s σ H E I hf st hg
    subst hP hw hK
    obtain ⟨hz, hTI, hTO, h1, h2, h3⟩ := st
    obtain ⟨xs, ys, zs, x, y, v, hqx, hqy, hqz, hx, hy, hv⟩ := hg
    obtain ⟨its, rv, p, _⟩ := I.tuple hqx
    obtain ⟨its2, rv2, p2, _⟩ := I.tuple hqy
    obtain ⟨its3, rv3, p3, _⟩ := I.list hqz
    obtain ⟨u, hu, ru⟩ := rv.get hx
    obtain ⟨u2, hu2, ru2⟩ := rv2.get hy
    obtain ⟨u3, hu3, ru3⟩ := rv3.get hv
    have hh : X.A.in1.handled = none := I.ok.hd hc
    have W := WalksT.zipD3 (prog := X.prog) (w := X.w) (A := X.A) S (Draws.tuple hh i1 a na its.toArray) (Draws.tuple hh i2 b nb its2.toArray) (Draws.list hh i3 c nc its3.toArray)
    have l1 : i < its.length := (List.getElem?_eq_some_iff.mp hu).1
    have l2 : i < its2.length := (List.getElem?_eq_some_iff.mp hu2).1
    have l3 : i < its3.length := (List.getElem?_eq_some_iff.mp hu3).1
    refine W.item i s _ _ (by simp only [List.size_toArray]; omega) ⟨hz, hTI, hTO, ⟨h1, p⟩, ⟨h2, p2⟩, ⟨h3, p3.isList⟩⟩ fun T vals h' tk hP hsz hT hmid hk => ?_
    refine ⟨_, rfl, W.go _ _ _ i T { s with heap := h', toks := tk } _ _ hmid fun h'' st'' hk'' => ?_⟩
    obtain ⟨x1, x2, x3, q1, q2, q3, rfl⟩ := hP
    have q1' : its[i]? = some x1 := by simpa using q1
    have q2' : its2[i]? = some x2 := by simpa using q2
    have q3' : its3[i]? = some x3 := by simpa using q3
    rw [hu] at q1'
    rw [hu2] at q2'
    rw [hu3] at q3'
    cases q1'
    cases q2'
    cases q3'
    have hT2 : h''.IsTuple T #[u, u2, u3] := hT.at fun o e => hk'' T o (W.apart i T h' hmid) e
    have new : ObjOk X.prog X.w (upd H T (.tup [x, y, v])) h'' T (.tup [x, y, v]) := ⟨by show 3 ≤ sizeLine; decide, [u, u2, u3], .cons ru (.cons ru2 (.cons ru3 .nil)), hT2⟩
    have nin : ∀ d, d ∉ [z, TI, TO, i1, i2, i3] → d ∉ [z, TO, i1, i2, i3] := fun d hd => sub6 hd
    have I1 : Inv X pins σ (upd H T (.tup [x, y, v])) { s with heap := h'', toks := tk } :=
      I.turnedNew (t' := tk) (ch := [z, TI, TO, i1, i2, i3]) (fun d o hb q => hk'' d o (nin d hb) (hk d o (nin d hb) q)) hf hsz new
    refine ⟨.ref T, _, I1, rfl, ⟨_, x, y, v, rfl, I.hok.fresh hsz, rfl, fun l hl => by rw [I.tuple_inj hl hqx]; exact hx, fun l hl => by rw [I.tuple_inj hl hqy]; exact hy, fun l hl => by rw [I.list_inj hl hqz]; exact hv⟩, ⟨st''.1, st''.2.1, st''.2.2.1, st''.2.2.2.1.1, st''.2.2.2.2.1.1, st''.2.2.2.2.2.1⟩, fun d hd => ?_⟩
    have hlt : d < s.heap.objs.size := by
      have e' : d = z ∨ d = TI ∨ d = TO ∨ d = i1 ∨ d = i2 ∨ d = i3 := by simpa using hd
      obtain ⟨a1, a2, a3, hTO⟩ := hTO
      rcases e' with q | q | q | q | q | q
      · rw [q]; exact Heap.lt_size hz
      · rw [q]; exact Heap.lt_size hTI
      · rw [q]; exact Heap.lt_size hTO
      · rw [q]; obtain ⟨_, e1, _⟩ := h1; exact Heap.lt_size e1
      · rw [q]; obtain ⟨_, e2, _⟩ := h2; exact Heap.lt_size e2
      · rw [q]; obtain ⟨_, e3, _⟩ := h3; exact Heap.lt_size e3
    rw [upd_ne (Nat.ne_of_lt (Nat.lt_of_lt_of_le hlt hsz))]
    exact (hf d hd).1
  done := by
    intro X hP hw hK hc i pins s σ H E I hf st hg
    subst hP hw hK
    obtain ⟨hz, hTI, hTO, h1, h2, h3⟩ := st
    obtain ⟨xs, ys, zs, hqx, hqy, hqz, rfl, e1, e2⟩ := hg
    obtain ⟨its, rv, p, _⟩ := I.tuple hqx
    obtain ⟨its2, rv2, p2, _⟩ := I.tuple hqy
    obtain ⟨its3, rv3, p3, _⟩ := I.list hqz
    have hh : X.A.in1.handled = none := I.ok.hd hc
    have l1 := rv.length
    have l2 := rv2.length
    have l3 := rv3.length
    have W := WalksT.zipD3 (prog := X.prog) (w := X.w) (A := X.A) S (Draws.tuple hh i1 a na its.toArray) (Draws.tuple hh i2 b nb its2.toArray) (Draws.list hh i3 c nc its3.toArray)
    have en : min (min its.toArray.size its2.toArray.size) its3.toArray.size = xs.length := by simp only [List.size_toArray]; omega
    refine W.done s _ _ (by rw [en]; exact ⟨hz, hTI, hTO, ⟨h1, p⟩, ⟨h2, p2⟩, ⟨h3, p3.isList⟩⟩) fun h' tk hk => ⟨rfl, I.turnedL (t' := tk) (ch := [z, TI, TO, i1, i2, i3]) (fun d o hb q => hk d o (sub6 hb) q) hf⟩
  self := fun A i s Q E st h => wpAny_pyIter_zip st.1 h
def iZip3 (K : PySem.W.Frag) (ta : TA) : TI := fun σ H R => ta σ H fun vs H1 => ∃ a b c xs ys zs, vs = [.ref a, .ref b, .ref c] ∧ SqT K H1 a xs ∧ SqT K H1 b ys ∧ SqL K H1 c zs ∧ R (Itz3 K a b c) H1
theorem pi_zip3 {X : Cx} {e e2 e3 : Expr} {ta : TA} {p pos tpos : Pos} {elts : List Expr} {kk : Nat} (hg : Gl X "zip") (hm : X.mg "zip" = none) (ha : PA X [e, e2, e3] ta)
    (hs : starEach [e, e2, e3] X.env = (false, eval e X.env) :: starEach [e2, e3] X.env := by rfl) (hpl : (backTo pos (starEach [e2, e3] X.env)).any (·.1) = false := by rfl) :
    PI X (.Tuple elts kk tpos) (.Call (.Name "zip" p) [e, e2, e3] [] pos) (iZip3 X.K ta) := by
  refine ⟨fun pins s σ H R I h => ?_⟩
  refine Call_ (ld_blt I hg hm PyProof.Rows.boot_zip (PyProof.Rows.callWith_type1 (thn (ha.run pos pins s σ H _ I h) fun us s1 ⟨vs, H1, I1, r1, q1⟩ => ?_) hs hpl))
  obtain ⟨a, b, c, xs, ys, zs, ex, hqx, hqy, hqz, q⟩ := q1
  subst ex
  cases r1 with
  | cons r rr =>
    cases rr with
    | cons r' rr =>
      cases rr with
      | cons r'' rr =>
        cases rr
        cases r
        cases r'
        cases r''
        obtain ⟨its, rv, p1, _⟩ := I1.tuple hqx
        obtain ⟨its2, rv2, p2, _⟩ := I1.tuple hqy
        obtain ⟨its3, rv3, p3, _⟩ := I1.list hqz
        have la : a < s1.heap.objs.size := by obtain ⟨o, ho, _⟩ := id p1; exact Heap.lt_size ho
        have lb : b < s1.heap.objs.size := by obtain ⟨o, ho, _⟩ := id p2; exact Heap.lt_size ho
        have lc : c < s1.heap.objs.size := p3.lt
        have one : ∀ {x N : Addr}, x < N → ∀ d ∈ [x], d < N := fun {x N} h d hd => by rw [List.mem_singleton.mp hd]; exact h
        have S := zip_sep3 (N := s1.heap.objs.size) (one la) (one lb) (one lc)
        refine zip_begins3 (begins_tuple a its.toArray) (begins_tuple b its2.toArray) (begins_list c its3.toArray) p1 p2 p3.isList fun h' hz hTI hTO g1 g2 g3 hsz hk => wpAny_pyIter_zip hz ?_
        have I2 : Inv X pins σ H1 { s1 with heap := h' } := I1.kept (t' := s1.toks) hk
        refine ⟨_, _, _, _, H1, rfl, I2, turn_zip3 (K := X.K) (a := a) (b := b) (c := c) S (Nat.ne_of_lt la) (Nat.ne_of_lt (Nat.lt_of_lt_of_le lb (Nat.le_add_right _ 1))) (Nat.ne_of_lt (Nat.lt_of_lt_of_le lc (Nat.le_add_right _ 2))), ⟨hz, hTI, ⟨_, _, _, hTO⟩, ⟨_, g1, rfl, rfl⟩, ⟨_, g2, rfl, rfl⟩, ⟨_, g3, rfl, rfl⟩⟩, fun d hdm => ?_, q⟩
        have hle : s1.heap.objs.size ≤ d := by
          simp only [List.mem_cons, List.not_mem_nil, or_false] at hdm
          rcases hdm with q | q | q | q | q | q <;> rw [q] <;> first | exact Nat.le_refl _ | exact Nat.le_add_right _ _
        exact I1.fpOk hle (I1.hok.fresh hle)

def tLenR3 (ta : TA) : TE := fun σ H Q => ta σ H fun vs H1 => ∃ (i j c : Int) (n : Nat), vs = [.int i, .int j, .int c] ∧ RgC i j c n ∧ (n : Int) < 2 ^ 63 ∧ Q (.int (n : Int)) H1
/-- len(range(a, b, c)) -/
theorem pe_lenR3 {X : Cx} {a b c : Expr} {ta : TA} {p p2 pos pos2 : Pos} (hgl : Gl X "len") (hml : X.mg "len" = none) (hg : Gl X "range") (hm : X.mg "range" = none) (ha : PA X [a, b, c] ta)
    (hs1 : starEach [.Call (.Name "range" p2) [a, b, c] [] pos2] X.env = (false, eval (.Call (.Name "range" p2) [a, b, c] [] pos2) X.env) :: starEach [] X.env := by rfl) (hpl1 : (backTo pos (starEach [] X.env)).any (·.1) = false := by rfl)
    (hs : starEach [a, b, c] X.env = (false, eval a X.env) :: starEach [b, c] X.env := by rfl) (hpl : (backTo pos2 (starEach [b, c] X.env)).any (·.1) = false := by rfl) :
    PE X (.Call (.Name "len" p) [.Call (.Name "range" p2) [a, b, c] [] pos2] [] pos) (tLenR3 ta) := by
  refine ⟨fun pins s σ H Q I h => ?_⟩
  refine wpAny_Call_Name_kw (ld_blt I hgl hml PySem.boot_len ?_)
  refine PyProof.Rows.callWith_builtin1 ?_ hs1 hpl1
  rw [hs1]
  show wpAny _ _ (spliced ((false, eval (.Call (.Name "range" p2) [a, b, c] [] pos2) X.env) :: backTo pos (starEach [] X.env))) _ _ s
  refine Calls.spliced_cons ?_
  refine Call_ (ld_blt I hg hm boot_range (PyProof.Rows.callWith_type1 (thn (ha.run pos2 pins s σ H _ I h) fun us s1 ⟨vs, H1, I1, r1, q1⟩ => ?_) hs hpl))
  obtain ⟨i, j, k, n, e, ⟨c0, c1, c2, c3⟩, hn, q⟩ := q1
  subst e
  cases r1 with
  | cons r rr =>
    cases rr with
    | cons r' rr =>
      cases rr with
      | cons r'' rr =>
        cases rr
        obtain ⟨t, rfl⟩ := r
        obtain ⟨t', rfl⟩ := r'
        obtain ⟨t'', rfl⟩ := r''
        refine call_range_3 c0 ?_ (.inl (PyProof.noPylong_small c1))
        have I2 : Inv X pins σ H1 { s1 with heap := s1.heap.push { cls := .type "range", data := .fields #[.int i t, .int j t', .int k t''] } } := I1.kept (t' := s1.toks) fun b o e => Heap.get?_push_of_some _ e
        refine Calls.spliced_nil ?_
        exact call_len_range (IsRange.new ..) c3 hn ⟨.int (n : Int), H1, I2.tok _, ⟨_, rfl⟩, q⟩
end Fw
end

section
-- part Fz4
set_option Elab.async false
set_option linter.all false
set_option maxRecDepth 100000
set_option maxHeartbeats 2000000
/-! Fz4: enumerate of a tuple -/
namespace Fw
open PySem PySem.Spec PyProof.Rows L2
open AutoSeq1 (wpAny_loadPart')
theorem meets_enum1 {v : Value} {o : Obj} {G : Heap → Prop} (B : Begins v o G) :
    Meets (Builtin.«enumerate.__new__» ⟨[.type "enumerate", v], []⟩) (fun _ R s => G s.heap ∧
      R (.ok (.ret (.ref (s.heap.push o).objs.size))) { s with heap := (s.heap.push o).push { cls := .type "enumerate", data := .fields #[.none, .bool false, .ref s.heap.objs.size, rawInt 0, .none, .none] } }) :=
  .of_wp fun prog w A R s h => by
    obtain ⟨hp, g, d, tk, os⟩ := s
    obtain ⟨h1, h⟩ := h
    have hsub := sub_enumerate
    have q1 : ∀ {A' : Around} {E : Value → Shared → Prop} {Q : Value → Shared → Prop}, Q (.ref hp.objs.size) ⟨hp.push o, g, d, tk, os⟩ → wpAny (model prog w) A' (pyIter v) Q E ⟨hp, g, d, tk, os⟩ :=
      fun q => B.iter prog w _ _ ⟨hp, g, d, tk, os⟩ _ h1 q
    wp_walk using q1
    refine wpAny_stack_any fun st => wpAny_pure ?_
    split
    · rename_i c _ _ _ _ _
      cases (c == Value.type "enumerate")
      · wp_walk using q1
        exact ⟨_, rfl, h⟩
      · wp_walk using q1
        exact ⟨_, rfl, h⟩
    · wp_walk using q1
      exact ⟨_, rfl, h⟩
section
variable {prog : Program} {w : World} {A : Around} {E : Value → Shared → Prop} {s : Shared}
theorem enum_begins1 {v : Value} {o : Obj} {G : Heap → Prop} {Q : Value → Shared → Prop} (B : Begins v o G) (h1 : G s.heap)
    (h : ∀ h', IsEnum h' (s.heap.objs.size + 1) s.heap.objs.size 0 .none → h'.get? s.heap.objs.size = some o → h'.objs.size = s.heap.objs.size + 2 →
      (∀ b o, s.heap.get? b = some o → h'.get? b = some o) → Q (.ref (s.heap.objs.size + 1)) { s with heap := h' }) :
    wpAny (model prog w) A (call (.type "enumerate") [v]) Q E s := by
  refine callType_new F.called_enumerate (by decide) (F.typeCall_enumerate_1 _) (F.newCall_enumerate_1 _) (fun obj => F.args_object_init_2 obj _) F.entry_enumerate_new (meets_enum1 B) ⟨h1, ?_⟩
  have hz : (s.heap.push o).objs.size = s.heap.objs.size + 1 := Heap.size_push ..
  show _ ∧ _
  rw [hz]
  have he : IsEnum ((s.heap.push o).push { cls := .type "enumerate", data := .fields #[.none, .bool false, .ref s.heap.objs.size, rawInt 0, .none, .none] }) (s.heap.objs.size + 1) s.heap.objs.size 0 .none := by
    have := Heap.get?_push_size (s.heap.push o) (o := { cls := .type "enumerate", data := .fields #[.none, .bool false, .ref s.heap.objs.size, rawInt 0, .none, .none] }) rfl
    rw [hz] at this
    exact this
  exact ⟨⟨_, he, rfl⟩, h _ he (Heap.get?_push_of_some _ (Heap.get?_push_size _ B.free)) (by rw [Heap.size_push, hz]) fun b o x => Heap.get?_push_of_some _ (Heap.get?_push_of_some _ x)⟩
end
/-- the tuple at a, each item in a new pair with its number -/
def IteT (K : PySem.W.Frag) (a : Addr) : It :=
  ⟨fun i H => ∃ (xs : List V) (x : V), SqT K H a xs ∧ xs[i]? = some x, fun i H v H' => ∃ T x, v = .ref T ∧ H T = none ∧ H' = upd H T (.tup [.int (i : Nat), x]) ∧ ∀ xs, SqT K H a xs → xs[i]? = some x, fun i H => ∃ xs : List V, SqT K H a xs ∧ xs.length = i⟩
theorem turn_enumT {P : Program} {w : World} {K : PySem.W.Frag} {elts : List Expr} {kk : Nat} {tpos : Pos} {a e it : Addr} (hei : e ≠ it) (hea : e ≠ a) (hai : a ≠ it) :
    Turn P w K (.Tuple elts kk tpos) (IteT K a) [e, it] e (fun i h => (∃ old, IsEnum h e it ((i : Nat) : Int) old) ∧ h.IsTupleIter it a i) where
  mem := by simp
  obj := fun i h st d hd => by
    obtain ⟨⟨old, he⟩, ⟨o1, e1, _, d1⟩⟩ := st
    have e' : d = e ∨ d = it := by simpa using hd
    rcases e' with q | q
    · rw [q]; exact ⟨_, he, fun v q => nomatch q⟩
    · rw [q]; exact ⟨o1, e1, fun v q => by rw [d1] at q; cases q⟩
  keep := fun i h h' st k => by
    obtain ⟨⟨old, he⟩, h1⟩ := st
    exact ⟨⟨old, k e (by simp) _ he⟩, h1.at fun o q => k it (by simp) o q⟩
  item := by
    intro X hP hw hK hc i pins s σ H E I hf st hg
    subst hP hw hK
    obtain ⟨⟨old, he⟩, h1⟩ := st
    obtain ⟨xs, x, hqx, hx⟩ := hg
    obtain ⟨its, rv, p, _⟩ := I.tuple hqx
    obtain ⟨u, hu, ru⟩ := rv.get hx
    have hh : X.A.in1.handled = none := I.ok.hd hc
    have W := WalksT.enumerateD (prog := X.prog) (w := X.w) (A := X.A) (Draws.tuple hh it a hai its.toArray) e hei (by simp; exact ⟨hei, hea⟩) (by simp)
    have l1 : i < its.length := (List.getElem?_eq_some_iff.mp hu).1
    refine W.item i s _ _ (by simp only [List.size_toArray]; omega) ⟨⟨old, he⟩, ⟨h1, p⟩⟩ fun T vals h' tk hP hsz hT hmid hk => ?_
    refine ⟨_, rfl, W.go _ _ _ i T { s with heap := h', toks := tk } _ _ hmid fun h'' st'' hk'' => ?_⟩
    obtain ⟨t, x1, q1, rfl⟩ := hP
    have q1' : its[i]? = some x1 := by simpa using q1
    rw [hu] at q1'
    cases q1'
    have hT2 : h''.IsTuple T #[.int (i : Int) t, u] := hT.at fun o e => hk'' T o (W.apart i T h' hmid) e
    have new : ObjOk X.prog X.w (upd H T (.tup [.int (i : Nat), x])) h'' T (.tup [.int (i : Nat), x]) := ⟨by show 2 ≤ sizeLine; decide, [.int (i : Int) t, u], .cons ⟨t, rfl⟩ (.cons ru .nil), hT2⟩
    have I1 : Inv X pins σ (upd H T (.tup [.int (i : Nat), x])) { s with heap := h'', toks := tk } :=
      I.turnedNew (t' := tk) (ch := [e, it]) (fun d o hb q => hk'' d o hb (hk d o hb q)) hf hsz new
    refine ⟨.ref T, _, I1, rfl, ⟨_, x, rfl, I.hok.fresh hsz, rfl, fun l hl => by rw [I.tuple_inj hl hqx]; exact hx⟩, ⟨st''.1, st''.2.1⟩, fun d hd => ?_⟩
    have hlt : d < s.heap.objs.size := by
      have e' : d = e ∨ d = it := by simpa using hd
      rcases e' with q | q
      · rw [q]; exact Heap.lt_size he
      · rw [q]; obtain ⟨_, e1, _⟩ := h1; exact Heap.lt_size e1
    rw [upd_ne (Nat.ne_of_lt (Nat.lt_of_lt_of_le hlt hsz))]
    exact (hf d hd).1
  done := by
    intro X hP hw hK hc i pins s σ H E I hf st hg
    subst hP hw hK
    obtain ⟨⟨old, he⟩, h1⟩ := st
    obtain ⟨xs, hqx, rfl⟩ := hg
    obtain ⟨its, rv, p, _⟩ := I.tuple hqx
    have hh : X.A.in1.handled = none := I.ok.hd hc
    have l1 := rv.length
    have W := WalksT.enumerateD (prog := X.prog) (w := X.w) (A := X.A) (Draws.tuple hh it a hai its.toArray) e hei (by simp; exact ⟨hei, hea⟩) (by simp)
    have en : its.toArray.size = xs.length := by simp only [List.size_toArray]; omega
    refine W.done s _ _ (by rw [en]; exact ⟨⟨old, he⟩, ⟨h1, p⟩⟩) fun h' tk hk => ⟨rfl, I.turnedL (t' := tk) (ch := [e, it]) (fun d o hb q => hk d o hb q) hf⟩
  self := fun A i s Q E st h => by
    obtain ⟨⟨old, he⟩, _⟩ := st
    exact wpAny_pyIter_enum he h
def iEnumT (K : PySem.W.Frag) (ta : TA) : TI := fun σ H R => ta σ H fun vs H1 => ∃ a xs, vs = [.ref a] ∧ SqT K H1 a xs ∧ R (IteT K a) H1
theorem pi_enumT {X : Cx} {e : Expr} {ta : TA} {p pos tpos : Pos} {elts : List Expr} {kk : Nat} (hg : Gl X "enumerate") (hm : X.mg "enumerate" = none) (ha : PA X [e] ta) (hs : starEach [e] X.env = [(false, eval e X.env)] := by rfl) :
    PI X (.Tuple elts kk tpos) (.Call (.Name "enumerate" p) [e] [] pos) (iEnumT X.K ta) := by
  refine ⟨fun pins s σ H R I h => ?_⟩
  refine Call_ (ld_blt I hg hm boot_enumerate (PyProof.Rows.callWith_type1 (thn (ha.run pos pins s σ H _ I h) fun us s1 ⟨vs, H1, I1, r1, q1⟩ => ?_) hs rfl))
  obtain ⟨a, xs, ex, hq, q⟩ := q1
  subst ex
  cases r1 with
  | cons r rr =>
    cases rr
    cases r
    obtain ⟨its, rv, p1, _⟩ := I1.tuple hq
    have la : a < s1.heap.objs.size := by obtain ⟨o, ho, _⟩ := id p1; exact Heap.lt_size ho
    refine enum_begins1 (begins_tuple a its.toArray) p1 fun h' he g1 hsz hk => wpAny_pyIter_enum he ?_
    have I2 : Inv X pins σ H1 { s1 with heap := h' } := I1.kept (t' := s1.toks) hk
    refine ⟨_, _, _, _, H1, rfl, I2, turn_enumT (K := X.K) (a := a) (Nat.succ_ne_self _) (Nat.ne_of_gt (Nat.lt_succ_of_lt la)) (Nat.ne_of_lt la), ⟨⟨.none, he⟩, ⟨_, g1, rfl, rfl⟩⟩, fun d hdm => ?_, q⟩
    have hle : s1.heap.objs.size ≤ d := by
      simp only [List.mem_cons, List.not_mem_nil, or_false] at hdm
      rcases hdm with q | q <;> rw [q] <;> first | exact Nat.le_refl _ | exact Nat.le_add_right _ _
    exact I1.fpOk hle (I1.hok.fresh hle)
section
variable {K : PySem.W.Frag} {σ : L2.St} {H : Hp} {g : TG} {tb : TS} {D : Ends} {ta : TA}
theorem w_iEnumT {R : It → Hp → Prop} (h : ta σ H fun vs H1 => ∃ a xs, vs = [.ref a] ∧ SqT K H1 a xs ∧ R (IteT K a) H1) : iEnumT K ta σ H R := h
theorem w_iZip3 {R : It → Hp → Prop} (h : ta σ H fun vs H1 => ∃ a b c xs ys zs, vs = [.ref a, .ref b, .ref c] ∧ SqT K H1 a xs ∧ SqT K H1 b ys ∧ SqL K H1 c zs ∧ R (Itz3 K a b c) H1) : iZip3 K ta σ H R := h
theorem w_par {i j : Nat} {D : Ends} (h : ta σ H fun vs H1 => ∃ v w, vs = [v, w] ∧ D.nx ((σ.set i (some v)).set j (some w)) H1) : tPar i j ta D σ H := h
theorem w_lenR3 {Q : VK} (h : ta σ H fun vs H1 => ∃ (i j c : Int) (n : Nat), vs = [.int i, .int j, .int c] ∧ RgC i j c n ∧ (n : Int) < 2 ^ 63 ∧ Q (.int (n : Int)) H1) : tLenR3 ta σ H Q := h
theorem for_enumT {a : Addr} {xs : List V} (Pv : Nat → L2.St → Hp → Prop) (h0 : Pv 0 σ H) (hq : ∀ i σ H, Pv i σ H → SqT K H a xs)
    (hs : ∀ (i : Nat) (x : V) (T : Addr) (σ : L2.St) (H : Hp), xs[i]? = some x → Pv i σ H → H T = none → g (.ref T) σ (upd H T (.tup [.int (i : Nat), x])) fun σ2 H2 => tb { D with nx := Pv (i + 1), ct := Pv (i + 1), bk := D.nx } σ2 H2)
    (hd : ∀ σ H, Pv xs.length σ H → D.nx σ H) :
    ∃ W : Nat → Nat → L2.St → Hp → Prop, (∃ m, W 0 m σ H) ∧ ∀ i m σ H, W i m σ H →
      ((IteT K a).stop i H ∧ D.nx σ H) ∨ ((IteT K a).go i H ∧ ∃ N : L2.St → Hp → Prop, (∀ σ' H', N σ' H' → ∃ m', m' < m ∧ W (i + 1) m' σ' H') ∧ ∀ v H', (IteT K a).yld i H v H' → g v σ H' fun σ2 H2 => tb { D with nx := N, ct := N, bk := D.nx } σ2 H2) := by
  refine ⟨fun i m σ H => m = xs.length - i ∧ i ≤ xs.length ∧ Pv i σ H, ⟨_, rfl, Nat.zero_le _, h0⟩, ?_⟩
  rintro i m σ H ⟨rfl, hi, p⟩
  by_cases hlt : i < xs.length
  · refine .inr ⟨⟨xs, xs[i], hq i σ H p, List.getElem?_eq_getElem hlt⟩, Pv (i + 1), fun σ' H' p' => ⟨xs.length - (i + 1), by omega, rfl, hlt, p'⟩, ?_⟩
    rintro v H' ⟨T, x, rfl, hT, rfl, hx⟩
    exact hs i x T σ H (hx xs (hq i σ H p)) p hT
  · have e : i = xs.length := by omega
    subst e
    exact .inl ⟨⟨xs, hq _ σ H p, rfl⟩, hd σ H p⟩
theorem for_zip3 {a b c : Addr} {xs ys zs : List V} (e1 : xs.length = ys.length) (e2 : ys.length = zs.length) (Pv : Nat → L2.St → Hp → Prop) (h0 : Pv 0 σ H) (hq : ∀ i σ H, Pv i σ H → SqT K H a xs ∧ SqT K H b ys ∧ SqL K H c zs)
    (hs : ∀ (i : Nat) (x y z : V) (T : Addr) (σ : L2.St) (H : Hp), xs[i]? = some x → ys[i]? = some y → zs[i]? = some z → Pv i σ H → H T = none → g (.ref T) σ (upd H T (.tup [x, y, z])) fun σ2 H2 => tb { D with nx := Pv (i + 1), ct := Pv (i + 1), bk := D.nx } σ2 H2)
    (hd : ∀ σ H, Pv xs.length σ H → D.nx σ H) :
    ∃ W : Nat → Nat → L2.St → Hp → Prop, (∃ m, W 0 m σ H) ∧ ∀ i m σ H, W i m σ H →
      ((Itz3 K a b c).stop i H ∧ D.nx σ H) ∨ ((Itz3 K a b c).go i H ∧ ∃ N : L2.St → Hp → Prop, (∀ σ' H', N σ' H' → ∃ m', m' < m ∧ W (i + 1) m' σ' H') ∧ ∀ v H', (Itz3 K a b c).yld i H v H' → g v σ H' fun σ2 H2 => tb { D with nx := N, ct := N, bk := D.nx } σ2 H2) := by
  refine ⟨fun i m σ H => m = xs.length - i ∧ i ≤ xs.length ∧ Pv i σ H, ⟨_, rfl, Nat.zero_le _, h0⟩, ?_⟩
  rintro i m σ H ⟨rfl, hi, p⟩
  by_cases hlt : i < xs.length
  · have q := hq i σ H p
    refine .inr ⟨⟨xs, ys, zs, xs[i], ys[i], zs[i], q.1, q.2.1, q.2.2, List.getElem?_eq_getElem hlt, List.getElem?_eq_getElem (by omega), List.getElem?_eq_getElem (by omega)⟩, Pv (i + 1), fun σ' H' p' => ⟨xs.length - (i + 1), by omega, rfl, hlt, p'⟩, ?_⟩
    rintro v H' ⟨T, x, y, z, rfl, hT, rfl, hx, hy, hz⟩
    exact hs i x y z T σ H (hx xs q.1) (hy ys q.2.1) (hz zs q.2.2) p hT
  · have e : i = xs.length := by omega
    subst e
    have q := hq _ σ H p
    exact .inl ⟨⟨xs, ys, zs, q.1, q.2.1, q.2.2, rfl, e1, e2⟩, hd σ H p⟩
end
section
variable {H : Hp} {Q : VK}
theorem w_neI {a b : Int} (q : Q (.bl (!decide (a = b))) H) : rNe (.int a) (.int b) H Q := ⟨rfl, by rw [show (decide (V.int a = V.int b)) = decide (a = b) by simp]; exact q⟩
theorem bl_eq {a b : Bool} : (decide (V.bl a = V.bl b)) = (a == b) := by cases a <;> cases b <;> rfl
theorem w_eqB {a b : Bool} (q : Q (.bl (a == b)) H) : rEq (.bl a) (.bl b) H Q := ⟨rfl, by rw [bl_eq]; exact q⟩
theorem w_neB {a b : Bool} (q : Q (.bl (a != b)) H) : rNe (.bl a) (.bl b) H Q := ⟨rfl, by rw [bl_eq]; exact q⟩
end
section
variable {K : PySem.W.Frag} {σ : L2.St} {H : Hp} {te : TE} {vs : List Nat} {tt : TT} {g : TG}
/-- a comprehension over a list, its end told by the new list's place -/
theorem w_lcLn {p : Addr} {xs : List V} {R : Addr → Hp → Prop} (hS : SqL K H p xs) (h : ∀ D, H D = none → ∃ Pv : Nat → Hp → Prop, Pv 0 (upd H D (.lst [])) ∧ (∀ i H2, i ≤ xs.length → Pv i H2 → SqL K H2 p xs) ∧
      (∀ i x H2, xs[i]? = some x → Pv i H2 → g x (wipe σ vs) H2 fun σ2 H2 => wipe σ2 vs = wipe σ vs ∧ tt σ2 H2 fun b H3 =>
        if b = true then te σ2 H3 fun y H4 => ∃ acc, H4 D = some (.lst acc) ∧ acc.length < sizeLine ∧ Pv (i + 1) (upd H4 D (.lst (acc ++ [y]))) else Pv (i + 1) H3) ∧ (∀ H2, Pv xs.length H2 → R D H2)) :
    ∃ a, V.ref p = .ref a ∧ (∃ xs, SqL K H a xs) ∧ ∀ D, H D = none → ∃ W : Nat → Nat → Hp → Prop, (∃ m, W 0 m (upd H D (.lst []))) ∧ ∀ i m H, W i m H →
      ((Itl K a).stop i H ∧ R D H) ∨ ((Itl K a).go i H ∧ ∃ Nx : Hp → Prop, (∀ H', Nx H' → ∃ m', m' < m ∧ W (i + 1) m' H') ∧ ∀ x H', (Itl K a).yld i H x H' → g x (wipe σ vs) H' fun σ2 H2 => wipe σ2 vs = wipe σ vs ∧ tt σ2 H2 fun b H3 =>
        if b = true then te σ2 H3 fun y H4 => ∃ acc, H4 D = some (.lst acc) ∧ acc.length < sizeLine ∧ Nx (upd H4 D (.lst (acc ++ [y]))) else Nx H3) := by
  refine ⟨p, rfl, ⟨xs, hS⟩, fun D hD => ?_⟩
  obtain ⟨Pv, h0, hl, hs, hd⟩ := h D hD
  exact lc_list (Qd := fun H => R D H) Pv h0 hl hs hd
end
section
variable {K : PySem.W.Frag} {σ : L2.St} {H : Hp} {g : TG} {tb : TS} {D : Ends} {ta : TA}
theorem w_iZip {R : It → Hp → Prop} (h : ta σ H fun vs H1 => ∃ a b xs ys, vs = [.ref a, .ref b] ∧ SqL K H1 a xs ∧ SqL K H1 b ys ∧ R (Itz K a b) H1) : iZip K ta σ H R := h
theorem for_zipN {a b : Addr} {xs ys : List V} (Pv : Nat → L2.St → Hp → Prop) (h0 : Pv 0 σ H) (hq : ∀ i σ H, Pv i σ H → SqL K H a xs ∧ SqL K H b ys)
    (hs : ∀ (i : Nat) (x y : V) (T : Addr) (σ : L2.St) (H : Hp), xs[i]? = some x → ys[i]? = some y → Pv i σ H → H T = none → g (.ref T) σ (upd H T (.tup [x, y])) fun σ2 H2 => tb { D with nx := Pv (i + 1), ct := Pv (i + 1), bk := D.nx } σ2 H2)
    (hd : ∀ i σ H, Pv i σ H → D.nx σ H) :
    ∃ W : Nat → Nat → L2.St → Hp → Prop, (∃ m, W 0 m σ H) ∧ ∀ i m σ H, W i m σ H →
      ((Itz K a b).stop i H ∧ D.nx σ H) ∨ ((Itz K a b).go i H ∧ ∃ N : L2.St → Hp → Prop, (∀ σ' H', N σ' H' → ∃ m', m' < m ∧ W (i + 1) m' σ' H') ∧ ∀ v H', (Itz K a b).yld i H v H' → g v σ H' fun σ2 H2 => tb { D with nx := N, ct := N, bk := D.nx } σ2 H2) := by
  refine ⟨fun i m σ H => m = xs.length - i ∧ Pv i σ H, ⟨_, rfl, h0⟩, ?_⟩
  rintro i m σ H ⟨rfl, p⟩
  have q := hq i σ H p
  by_cases h1 : i < xs.length
  · by_cases h2 : i < ys.length
    · refine .inr ⟨⟨xs, ys, xs[i], ys[i], q.1, q.2, List.getElem?_eq_getElem h1, List.getElem?_eq_getElem h2⟩, Pv (i + 1), fun σ' H' p' => ⟨xs.length - (i + 1), by omega, rfl, p'⟩, ?_⟩
      rintro v H' ⟨T, x, y, rfl, hT, rfl, hx, hy⟩
      exact hs i x y T σ H (hx xs q.1) (hy ys q.2) p hT
    · exact .inl ⟨⟨xs, ys, q.1, q.2, .inr (by omega)⟩, hd i σ H p⟩
  · exact .inl ⟨⟨xs, ys, q.1, q.2, .inl (by omega)⟩, hd i σ H p⟩
end
section
variable {X : Cx}
theorem ix_tupK (K : PySem.W.Frag) (h : X.K = K) : IxR X (rIxT K) := by subst h; exact ix_tup
theorem ix_listK (K : PySem.W.Frag) (h : X.K = K) : IxR X (rIxL K) := by subst h; exact ix_list
theorem sl_listK (K : PySem.W.Frag) (h : X.K = K) : SlR X (rSlL K) := by subst h; exact sl_list
theorem len_seqK (K : PySem.W.Frag) (h : X.K = K) : CallR X (.builtin "len") (fun xs H Q => ∃ p ys, xs = [.ref p] ∧ (SqL K H p ys ∨ SqT K H p ys) ∧ Q (.int ys.length) H) := by subst h; exact call_len_seq
theorem tuple_ofK (K : PySem.W.Frag) (h : X.K = K) : CallR X (.type "tuple") (fun xs H Q => ∃ p ys, xs = [.ref p] ∧ ((SqL K H p ys ∧ ∀ l, H l = none → Q (.ref l) (upd H l (.tup ys))) ∨ (SqT K H p ys ∧ Q (.ref p) H))) := by subst h; exact call_tuple_of
end
end Fw
end

section
-- part Fq
set_option Elab.async false
set_option linter.all false
set_option maxRecDepth 100000
set_option maxHeartbeats 2000000
/-! Fq: a def that raises into a try whose suite raises on; a call within a try; X('m') where an exception is handled -/
namespace Fw
open PySem PySem.Spec PyProof.Rows L2
/-- as Cl, its exceptions told with their contexts -/
structure ClN (P : Program) (w : World) (K : PySem.W.Frag) (mg : Str → Option Value) (base : Heap) (k : Nat) (x : Str) (sp : Sp) : Prop where
  ex : ∃ (f : Addr) (fd : FuncData) (ps : List Str), FnOk P w K mg base (L2N.CX P w) k f fd ps sp ∧ mg x = some (.ref f) ∧ PySem.W.keepIn K (.ref f) = true ∧ Binds K fd ps []
section
variable {P : Program} {w : World} {K : PySem.W.Frag} {mg : Str → Option Value} {base : Heap} {x : Str} {st : Stmt}
theorem clN_mk {N ps : List Str} {k : Nat} {sp : Sp} (F : FnP K mg x st) (S : FnScope N ps (defScope st))
    (b : ∀ (kV doc pm : Value) (an : Option Addr) (cdv ct : Value) (us : List Value), us.length = ps.length → bindArgs (PySem.W.fnOf x x (defArgs st) (defBody st) (defScope st) .none kV doc pm an cdv ct) ⟨us, []⟩ = pure (ps.zip us))
    (len : ∀ vs H Q E, sp vs H Q E → vs.length = ps.length)
    (hbody : ∀ (f : Addr) (cdv : Value) (A : Around) (outer : List Env) (s : Shared) (H : Hp) (vs : List V) (Q : VK) (E : XK), Room k (A.deeper (envOfC x (defScope st) s.heap.objs.size f cdv)) → sp vs H Q E →
      ∃ t, PSs (cxOf (L2N.CX P w) P w K mg base N x (defScope st) f cdv A outer s H E) (defBody st) t ∧ t { nx := fun _ H' => Q .non H', rt := Q } (start N vs) H) : ClN P w K mg base (k + 1) x sp := by
  obtain ⟨f, fd, F, m⟩ := F
  exact ⟨f, fd, ps, F.ok S len (hbody f), m, F.kp, F.bindsN b⟩
end
section
variable {X : Cx} {CX : CXT} {k j : Nat} {x : Str} {sp : Sp} {E : L2.St → XK} {p pos : Pos} {e : Expr} {es : List Expr} {t : TA}
theorem pe_clS (c : ∃ (f : Addr) (fd : FuncData) (ps : List Str), FnOk X.prog X.w X.K X.mg X.base CX k f fd ps sp ∧ X.mg x = some (.ref f) ∧ PySem.W.keepIn X.K (.ref f) = true ∧ Binds X.K fd ps []) (hr : Room j X.A) (hk : k ≤ j) (hg : Gl X x) (hx : ∀ σ, PassesAt CX X σ (E σ)) (ha : PA X (e :: es) t)
    (hdb : (x == ("__debug__" : Str)) = false := by decide) (he : starEach (e :: es) X.env = (false, eval e X.env) :: starEach es X.env := by rfl) (hpl : (backTo pos (starEach es X.env)).any (·.1) = false := by rfl) :
    PE X (.Call (.Name x p) (e :: es) [] pos) (tCallS sp E t) := by
  obtain ⟨f, fd, ps, F, hm, kp, b⟩ := c
  exact pe_callS F (hr.mono hk) hg hm kp b hx ha hdb he hpl
theorem w_clS {σ : L2.St} {H : Hp} {Q : VK} (h : t σ H fun vs H1 => sp vs H1 Q (E σ)) : tCallS sp E t σ H Q := h
end
/-- a, b = .. within a try: the frame told by name -/
theorem pg_tupK (K : PySem.W.Frag) (n : Nat) {X : Cx} {es : List Expr} {k : Nat} {pos : Pos} {t : TGs} (hK : X.K = K) (hc : X.calm = true) (h : PGs X es t) (hn : (assignEach es X.env).length = n) (hst : (assignEach es X.env).findIdx? (·.1) = none) : PG X (.Tuple es k pos) (gTup K n t) := by
  subst hK
  exact pg_tup hc h hn hst
section
variable {X : Cx} {C : Addr} {bmB : List Value} {B newId initId : String}
/-- X('m') -/
theorem pmk5_own {x m : Str} {j : Nat} {p p2 pos : Pos} (F : ExcBaseFacts B newId initId bmB) (q : PySem.W.excIn X.K C bmB newId = true) (gC : X.mg x = some (.ref C)) (kC : PySem.W.keepIn X.K (.ref C) = true) (r : Raises X (.ref C)) (hg : Gl X x)
    (hdb : (x == ("__debug__" : Str)) = false := by decide) : L2H.PMk5 X (.Call (.Name x p) [.Constant (.str m) j p2] [] pos) (fun _ H Q => Q (.ref C) none H) := fun pins s σ H Q I h => by
  have args : PA X [.Constant (.str m) j p2] (tCons (tC (.str m)) tNil) := pa_cons pe_str pa_nil
  refine wpAny_Call_Name_kw (ld_glob I hg gC (PySem.W.callWith_K (h₀ := X.base) I.ok.mod.kin kC (thn (args.run pos pins s σ H (fun vs H1 => vs = [V.str m] ∧ H = H1) I ⟨rfl, rfl⟩) ?_)) hdb)
  rintro us s1 ⟨vs, H1, I1, rv, rfl, rfl⟩
  refine ⟨I1.kIn, ?_⟩
  obtain ⟨u, rfl, ru⟩ := rv.one
  obtain ⟨bm, N, nm, qn, bs, hdct, sn, sub, ab, col, dd, k0, k1, k2, k3, k5, mN, hC, hN, hni, T⟩ := exc_obj I1.kIn q
  exact wpAny_call_exc_subT F T hC hN hni (fun h' e hm => L2H.mk_of5 I1 hm r h (I1.hok.gone hm.new)) (by show 1 ≤ sizeLine; rw [sizeLine_eq]; omega)
end
end Fw
end

section
-- part Fac
set_option Elab.async false
set_option linter.all false
set_option maxRecDepth 100000
set_option maxHeartbeats 1000000
namespace Ac
open PySem PySem.Spec PyProof.Rows
theorem owner_acc : Manifest.owners.lookup (String.ofList ['e', 't', 'a', 'l', 'u', 'm', 'u', 'c', 'c', 'a', '.', 's', 'l', 'o', 'o', 't', 'r', 'e', 't', 'i'].reverse) = some Manifest.sig_itertools_accumulate := by kernel_rfl
theorem mro_acc : mroOf (.type "itertools.accumulate") = pure [.type "itertools.accumulate", .type "object"] := by rw [mroOf_type]; kernel_rfl
theorem lookup_acc_new : typeLookup (.type "itertools.accumulate") "__new__" = pure (some (.builtin "itertools.accumulate.__new__")) := by rw [typeLookup_type, builtinLookup_eq_fast]; kernel_rfl
theorem slot_acc_init : Slot "itertools.accumulate" "__init__" "object.__init__" :=
  .of (owner := "object") (n := "__init__") (by rw [typeLookup_type, builtinLookup_eq_fast]; kernel_rfl) (by decide +kernel) (by decide +kernel) (by decide +kernel)
    (by first | exact .inl (by decide +kernel) | exact .inr (by decide +kernel)) (by rw [isSubtype_type]; kernel_rfl)
theorem sub_acc : isSubtype (.type "itertools.accumulate") (.type "itertools.accumulate") = pure true := by rw [isSubtype_type]; kernel_rfl
theorem called_acc : TypeCalled "itertools.accumulate" "itertools.accumulate.__new__" "object.__init__" :=
  ⟨by decide +kernel, by decide +kernel, ⟨_, _, mro_acc⟩, madeBy_type mro_acc lookup_acc_new (by decide +kernel), by decide +kernel, sub_acc, slot_acc_init⟩
theorem typeCall_acc (a : Value) : checkTypeCall "itertools.accumulate" ⟨[a], []⟩ = pure () := by kernel_rfl
theorem newCall_acc (a : Value) : checkBuiltinCall "itertools.accumulate.__new__" ⟨[.type "itertools.accumulate", a], []⟩ = pure () := by kernel_rfl
theorem entry_acc_new : entryFor table "itertools.accumulate.__new__" = some Builtin.«itertools.accumulate.__new__» := entryFor_of_tree (by kernel_rfl)
theorem slot_acc_iter : Slot "itertools.accumulate" "__iter__" "itertools.accumulate.__iter__" :=
  .of (owner := "itertools.accumulate") (n := "__iter__") (by rw [typeLookup_type, builtinLookup_eq_fast]; kernel_rfl) (by decide +kernel) (by decide +kernel) (by decide +kernel)
    (by first | exact .inl (by decide +kernel) | exact .inr (by decide +kernel)) sub_acc
theorem slot_acc_next : Slot "itertools.accumulate" "__next__" "itertools.accumulate.__next__" :=
  .of (owner := "itertools.accumulate") (n := "__next__") (by rw [typeLookup_type, builtinLookup_eq_fast]; kernel_rfl) (by decide +kernel) (by decide +kernel) (by decide +kernel)
    (by first | exact .inl (by decide +kernel) | exact .inr (by decide +kernel)) sub_acc
theorem entry_acc_iter : entryFor table "itertools.accumulate.__iter__" = some Builtin.«dict_keyiterator.__iter__» :=
  entryFor_alias (id' := "dict_keyiterator.__iter__") (by kernel_rfl) (by first | rfl | decide +kernel | (unfold String.splitOn; simp +decide [String.splitOnAux])) (by decide +kernel) (by kernel_rfl)
theorem entry_acc_next : entryFor table "itertools.accumulate.__next__" = some Builtin.«itertools.accumulate.__next__» := entryFor_of_tree (by kernel_rfl)
theorem args_acc_iter (a : Value) : argsOk "itertools.accumulate.__iter__" ⟨[a], []⟩ := by
  unfold argsOk; rw [signature?_of (id := "itertools.accumulate.__iter__") (n := ['_', '_', 'r', 'e', 't', 'i', '_', '_']) (o := ['e', 't', 'a', 'l', 'u', 'm', 'u', 'c', 'c', 'a', '.', 's', 'l', 'o', 'o', 't', 'r', 'e', 't', 'i']) (by kernel_rfl) owner_acc]; kernel_rfl
theorem args_acc_next (a : Value) : argsOk "itertools.accumulate.__next__" ⟨[a], []⟩ := by
  unfold argsOk; rw [signature?_of (id := "itertools.accumulate.__next__") (n := ['_', '_', 't', 'x', 'e', 'n', '_', '_']) (o := ['e', 't', 'a', 'l', 'u', 'm', 'u', 'c', 'c', 'a', '.', 's', 'l', 'o', 'o', 't', 'r', 'e', 't', 'i']) (by kernel_rfl) owner_acc]; kernel_rfl
theorem noDict_acc : typeHasDict (.type "itertools.accumulate") = false := by decide +kernel
/-- an accumulate object: what it draws from, its total so far -/
abbrev IsAcc (h : Heap) (a it : Addr) (S : Int) (t : Tok) : Prop := h.get? a = some { cls := .type "itertools.accumulate", dict := none, data := .fields #[.ref it, .none, .int S t, .none], slots := #[] }
theorem classRest_acc (x : Value) : Builtin.Itertools.itClassAndRest "accumulate" ⟨[.type "itertools.accumulate", x], []⟩ = pure (.type "itertools.accumulate", [x]) := by
  unfold Builtin.Itertools.itClassAndRest
  have e : ("itertools." ++ "accumulate" : String) = "itertools.accumulate" := by decide
  simp only [e, isType, sub_acc, pure_bind, Bool.not_true, Bool.false_eq_true, if_false]
theorem bind_acc (x : Value) : Builtin.Itertools.itBindNamed "accumulate" ["iterable", "func", "initial"] 1 2 [x] [] = pure [some x, none, none] := by
  first | rfl | kernel_rfl
section
variable {prog : Program} {w : World} {A : Around} {E : Value → Shared → Prop} {s : Shared}
theorem new_acc (x : Value) : MeetsIn prog w (Builtin.«itertools.accumulate.__new__» ⟨[.type "itertools.accumulate", x], []⟩)
    (fun A R s => wpAny (model prog w) A.in1 (pyIter x) (fun itv s1 => R (.ok (.ret (.ref s1.heap.objs.size))) { s1 with heap := s1.heap.push { cls := .type "itertools.accumulate", data := .fields #[itv, .none, .int 0 0, .none] } }) (fun e s1 => R (.error e) s1) s) :=
  .of_wp fun A R s h => by
    unfold Builtin.«itertools.accumulate.__new__»
    refine wpAny_bind (wpAny_of_eq (classRest_acc _) ?_)
    try dsimp only
    refine wpAny_bind (wpAny_of_eq (bind_acc _) ?_)
    try dsimp only
    refine wpAny_bind (wpAny_mono h (fun itv s1 hR => ?_) fun _ _ z => z)
    refine wpAny_bind ?_
    unfold Builtin.Itertools.itNewRecord
    rw [if_pos (by rw [noDict_acc]; rfl)]
    show wpAny _ _ (newObj (.type "itertools.accumulate") (.fields #[itv, .none, .int 0 0, .none])) _ _ _
    refine wpAny_newObj_type ?_
    exact wpAny_pure ⟨_, rfl, hR⟩
theorem call_acc {x : Value} {Q : Value → Shared → Prop}
    (hx : wpAny (model prog w) A.in1.in1 (pyIter x) (fun itv s1 => ∀ h', h'.get? s1.heap.objs.size = some { cls := .type "itertools.accumulate", dict := none, data := .fields #[itv, .none, .int 0 0, .none], slots := #[] } →
      (∀ c o, s1.heap.get? c = some o → h'.get? c = some o) → Q (.ref s1.heap.objs.size) { s1 with heap := h' }) E s) :
    wpAny (model prog w) A (call (.type "itertools.accumulate") [x]) Q E s := by
  refine callType_newIn called_acc (by decide +kernel) (typeCall_acc _) (newCall_acc _) (fun obj => F.args_object_init_2 obj _) entry_acc_new (new_acc x) ?_
  show wpAny (model prog w) A.in1.in1 (pyIter x) _ _ _
  refine wpAny_mono hx (fun itv s1 h => ?_) fun _ _ z => z
  have g : (s1.heap.push { cls := .type "itertools.accumulate", data := .fields #[itv, .none, .int 0 0, .none] }).get? s1.heap.objs.size = some { cls := .type "itertools.accumulate", dict := none, data := .fields #[itv, .none, .int 0 0, .none], slots := #[] } := Heap.get?_push_size _ rfl
  show _ ∧ _
  exact ⟨⟨_, g, rfl⟩, h _ g fun c o e => Heap.get?_push_of_some _ e⟩
/-- one item of a tuple's iterator, asked for by its slot -/
theorem raw_item {it t : Addr} {i : Nat} {items : Array Value} {x : Value} {Q : Value → Shared → Prop} (hit : s.heap.IsTupleIter it t i) (ht : s.heap.IsTuple t items) (hx : items[i]? = some x)
    (hQ : ∀ h', h'.IsTupleIter it t (i + 1) → Heap.SameBut it s.heap h' → Q x { s with heap := h' }) : wpAny (model prog w) A (Builtin.Itertools.itRawNext (.ref it)) Q E s := by
  obtain ⟨o1, g1, c1, d1⟩ := id hit
  obtain ⟨o2, g2, _, n2, d2⟩ := ht
  unfold Builtin.Itertools.itRawNext
  refine wpAny_bind (wpAny_callSpecial?_slot (name := Str.ofString "__next__") hit.typeIs F.slot_tuple_iterator_next (wpAny_call_entry F.slot_tuple_iterator_next hit.typeIs F.entry_tuple_iterator_next ?_ (F.args_tuple_iterator_next_1 _)))
  show wpAny _ _ (field (.ref it) 0 >>= _) _ _ s
  refine wpAny_bind (wpAny_field g1 d1 (x := .ref t) rfl ?_)
  show wpAny _ _ (if (Value.ref t == Value.none) = true then _ else _) _ _ s
  rw [if_neg (fun z : (Value.ref t == Value.none) = true => Bool.false_ne_true z)]
  show wpAny _ _ (field (.ref it) 1 >>= _) _ _ s
  refine wpAny_bind (wpAny_field g1 d1 (x := .int i 0) rfl ?_)
  show wpAny _ _ (seqItems? (.ref t) >>= _) _ _ s
  refine wpAny_bind (wpAny_seqItems g2 d2 ?_)
  simp only [Int.toNat_natCast, hx]
  refine wpAny_bind (wpAny_setField g1 d1 (by simp) (wpAny_pure ⟨x, rfl, wpAny_pure (hQ _ ⟨_, Heap.get?_update_self _ g1 (Obj.isFreed_of_fields (Obj.data_mapFields d1 _)), (Obj.cls_mapFields ..).trans c1, ?_⟩ (Heap.SameBut.update ..))⟩))
  rw [Obj.data_mapFields d1]
  simp [rawInt]
theorem raw_end {it t : Addr} {i : Nat} {items : Array Value} {Q : Value → Shared → Prop} (hh : A.handled = none) (hit : s.heap.IsTupleIter it t i) (ht : s.heap.IsTuple t items) (hx : items[i]? = none)
    (hE : ∀ h' e, Heap.ExtBut it s.heap h' → (∃ o, h'.get? e = some o ∧ o.cls = .type "StopIteration") → E (.ref e) { s with heap := h' }) : wpAny (model prog w) A (Builtin.Itertools.itRawNext (.ref it)) Q E s := by
  obtain ⟨o1, g1, c1, d1⟩ := id hit
  obtain ⟨o2, g2, _, n2, d2⟩ := ht
  unfold Builtin.Itertools.itRawNext
  refine wpAny_bind (wpAny_callSpecial?_slot (name := Str.ofString "__next__") hit.typeIs F.slot_tuple_iterator_next (wpAny_call_entry F.slot_tuple_iterator_next hit.typeIs F.entry_tuple_iterator_next ?_ (F.args_tuple_iterator_next_1 _)))
  show wpAny _ _ (field (.ref it) 0 >>= _) _ _ s
  refine wpAny_bind (wpAny_field g1 d1 (x := .ref t) rfl ?_)
  show wpAny _ _ (if (Value.ref t == Value.none) = true then _ else _) _ _ s
  rw [if_neg (fun z : (Value.ref t == Value.none) = true => Bool.false_ne_true z)]
  show wpAny _ _ (field (.ref it) 1 >>= _) _ _ s
  refine wpAny_bind (wpAny_field g1 d1 (x := .int i 0) rfl ?_)
  show wpAny _ _ (seqItems? (.ref t) >>= _) _ _ s
  refine wpAny_bind (wpAny_seqItems g2 d2 ?_)
  simp only [Int.toNat_natCast, hx]
  refine wpAny_bind (wpAny_rule (wpAny_bind (wpAny_setField g1 d1 (by simp) ?_)))
  show wpAny _ _ (newExc (.type "StopIteration") [] >>= _) _ _ _
  refine wpAny_bind ?_
  simp only [newExc, newTuple]
  refine wpAny_bind (wpAny_newObj_type ?_ (by size_fits))
  refine wpAny_bind (m := firstArgMember _ _) (wpAny_of_eq (a := Value.none) (by first | rfl | (simp only [firstArgMember]; rfl)) ?_)
  refine wpAny_newObj_type ?_ (by size_fits)
  simp only [raiseNew]
  refine wpAny_bind (wpAny_handled ?_)
  first | rw [show A.in1.handled = none from hh] | rw [hh]
  refine wpAny_bind (wpAny_pure (wpAny_throw ?_))
  exact hE _ _ (((Heap.SameBut.update ..).extBut.push _).push _) ⟨_, Heap.get?_push_size _ rfl, rfl⟩
/-- the next total -/
theorem acc_item {a it t : Addr} {i : Nat} {items : Array Value} {S b : Int} {tk u : Tok} {Q : Option Value → Shared → Prop} (ha : IsAcc s.heap a it S tk) (hit : s.heap.IsTupleIter it t i) (ht : s.heap.IsTuple t items) (hx : items[i]? = some (.int b u)) (h1 : a ≠ it) (h2 : t ≠ it) (h3 : t ≠ a)
    (hQ : ∀ h' v k, IsAcc h' a it (S + b) v → h'.IsTupleIter it t (i + 1) → h'.IsTuple t items → (∀ c o, c ≠ it → c ≠ a → s.heap.get? c = some o → h'.get? c = some o) → s.toks ≤ k → Q (some (.int (S + b) v)) { s with heap := h', toks := k }) :
    wpAny (model prog w) A (pyNext (.ref a)) Q E s := by
  have hT : s.TypeIs (.ref a) "itertools.accumulate" := ⟨_, ha, rfl⟩
  unfold pyNext
  refine wpAny_bind (wpAny_attempt (wpAny_callSpecial?_slot (name := Str.ofString "__next__") hT slot_acc_next (wpAny_call_entry slot_acc_next hT entry_acc_next ?_ (args_acc_next _))))
  show wpAny _ _ (field (.ref a) 3 >>= _) _ _ s
  refine wpAny_bind (wpAny_field ha rfl (x := .none) rfl ?_)
  show wpAny _ _ (field (.ref a) 0 >>= _) _ _ s
  refine wpAny_bind (wpAny_field ha rfl (x := .ref it) rfl ?_)
  refine wpAny_bind (raw_item hit ht hx fun h' hit' hs => ?_)
  have ha' : IsAcc h' a it S tk := (hs.2 a h1).trans ha
  have ht' : h'.IsTuple t items := ht.extBut hs.extBut h2
  show wpAny _ _ (field (.ref a) 2 >>= _) _ _ _
  refine wpAny_bind (wpAny_field ha' rfl (x := .int S tk) rfl ?_)
  have upd2 : ∀ (x : Value), (h'.update a (Obj.mapFields fun y => y.setIfInBounds 2 x)).get? a = some { cls := .type "itertools.accumulate", dict := none, data := .fields #[.ref it, .none, x, .none], slots := #[] } := fun x => Heap.get?_update_self _ ha' rfl
  have oth : ∀ (x : Value) c o, c ≠ a → h'.get? c = some o → (h'.update a (Obj.mapFields fun y => y.setIfInBounds 2 x)).get? c = some o := fun x c o hc e => (Heap.get?_update_other _ _ (Ne.symm hc)).trans e
  obtain ⟨o1, g1, r1⟩ := hit'
  obtain ⟨o2, g2, r2⟩ := ht'
  by_cases hz : (Value.int S tk == Builtin.Itertools.itNothing) = true
  · obtain rfl : S = 0 := by
      simp [Builtin.Itertools.itNothing, rawInt] at hz
      exact hz.1
    show wpAny _ _ (if (Value.int 0 tk == Builtin.Itertools.itNothing) = true then _ else _) _ _ _
    rw [if_pos hz]
    refine wpAny_bind (wpAny_rule ?_)
    refine wpAny_bind (wpAny_setField ha' rfl (by simp) ?_)
    refine wpAny_pure ⟨_, rfl, ?_⟩
    have e0 : (0 : Int) + b = b := Int.zero_add b
    rw [e0] at hQ
    exact wpAny_pure (hQ _ u s.toks (upd2 _) ⟨o1, oth _ _ _ (Ne.symm h1) g1, r1⟩ ⟨o2, oth _ _ _ h3 g2, r2⟩ (fun c o c1 c2 e => oth _ _ _ c2 (hs.extBut c o c1 e)) (Nat.le_refl _))
  · show wpAny _ _ (if (Value.int S tk == Builtin.Itertools.itNothing) = true then _ else _) _ _ _
    rw [if_neg hz]
    show wpAny _ _ (field (.ref a) 1 >>= _) _ _ _
    refine wpAny_bind (wpAny_field ha' rfl (x := .none) rfl ?_)
    refine wpAny_bind (wpAny_holding ?_)
    show wpAny _ _ (binaryOp .Add (.int S tk) (.int b u)) _ _ _
    refine PyProof.Rows.add_int ?_
    refine wpAny_bind (wpAny_setField ha' rfl (by simp) ?_)
    refine wpAny_bind (wpAny_letGo ?_)
    refine wpAny_pure ⟨_, rfl, ?_⟩
    exact wpAny_pure (hQ _ _ (s.toks + 1) (upd2 _) ⟨o1, oth _ _ _ (Ne.symm h1) g1, r1⟩ ⟨o2, oth _ _ _ h3 g2, r2⟩ (fun c o c1 c2 e => oth _ _ _ c2 (hs.extBut c o c1 e)) (Nat.le_succ _))
theorem acc_end {a it t : Addr} {i : Nat} {items : Array Value} {S : Int} {tk : Tok} {Q : Option Value → Shared → Prop} (hh : A.handled = none) (ha : IsAcc s.heap a it S tk) (hit : s.heap.IsTupleIter it t i) (ht : s.heap.IsTuple t items) (hx : items[i]? = none)
    (hQ : ∀ h', Heap.ExtBut it s.heap h' → Q none { s with heap := h' }) : wpAny (model prog w) A (pyNext (.ref a)) Q E s := by
  have hT : s.TypeIs (.ref a) "itertools.accumulate" := ⟨_, ha, rfl⟩
  have hh1 : A.in1.handled = none := hh
  unfold pyNext
  refine wpAny_bind (wpAny_attempt (wpAny_callSpecial?_slot (name := Str.ofString "__next__") hT slot_acc_next (wpAny_call_entry slot_acc_next hT entry_acc_next ?_ (args_acc_next _))))
  show wpAny _ _ (field (.ref a) 3 >>= _) _ _ s
  refine wpAny_bind (wpAny_field ha rfl (x := .none) rfl ?_)
  show wpAny _ _ (field (.ref a) 0 >>= _) _ _ s
  refine wpAny_bind (wpAny_field ha rfl (x := .ref it) rfl ?_)
  refine wpAny_bind (raw_end hh1 hit ht hx fun h' x he hx' => ?_)
  obtain ⟨o, ho, hc⟩ := hx'
  refine wpAny_bind (wpAny_isInstance (T := "StopIteration") (b := true) ⟨o, ho, hc⟩ isSubtype_stop ?_)
  exact wpAny_pure (hQ _ he)
theorem acc_iter {a it : Addr} {S : Int} {tk : Tok} {Q : Value → Shared → Prop} (ha : IsAcc s.heap a it S tk) (h : Q (.ref a) s) : wpAny (model prog w) A (pyIter (.ref a)) Q E s := by
  have hT : s.TypeIs (.ref a) "itertools.accumulate" := ⟨_, ha, rfl⟩
  refine wpAny_pyIter_slot hT slot_acc_iter (wpAny_call_entry slot_acc_iter hT entry_acc_iter ?_ (args_acc_iter _))
  show wpAny _ _ (ret (.ref a)) _ _ s
  exact wpAny_pure ⟨_, rfl, "itertools.accumulate", _, hT, slot_acc_next.lookup, h⟩
end
theorem walks_acc {prog : Program} {w : World} {A : Around} {a it t : Addr} {items : Array Value} {val : Nat → Int} (hh : A.handled = none) (hv : ∀ (i : Nat) (v : Value), items[i]? = some v → ∃ u, v = .int (val i) u) (h1 : a ≠ it) (h2 : t ≠ it) (h3 : t ≠ a) :
    WalksS prog w A a [a, it, t] [a, it] (fun x y => y = x) items.size (fun i v => ∃ u, v = .int (preSum val (i + 1)) u) (fun i s => (∃ tk, IsAcc s.heap a it (preSum val i) tk) ∧ s.heap.IsTupleIter it t i ∧ s.heap.IsTuple t items) where
  sub := fun b hb => by
    rcases List.mem_cons.mp hb with rfl | hb
    · simp
    · rw [List.mem_singleton.mp hb]; simp
  grefl := fun _ => rfl
  gtrans := fun _ _ _ q1 q2 => q2.trans q1
  frame := fun i s h' tk st _ hk => by
    obtain ⟨⟨k, q1⟩, ⟨o1, g1, r1⟩, ⟨o2, g2, r2⟩⟩ := st
    exact ⟨⟨k, hk a (by simp) _ q1⟩, ⟨o1, hk it (by simp) _ g1, r1⟩, ⟨o2, hk t (by simp) _ g2, r2⟩⟩
  item := fun i s Q E hi st hQ => by
    obtain ⟨⟨k, q1⟩, q2, q3⟩ := st
    have hg : items[i]? = some items[i] := Array.getElem?_eq_getElem hi
    obtain ⟨u, hu⟩ := hv i _ hg
    rw [hu] at hg
    refine acc_item q1 q2 q3 hg h1 h2 h3 fun h' v k2 a1 a2 a3 hk htk => ?_
    exact hQ _ _ ⟨v, rfl⟩ ⟨⟨v, a1⟩, a2, a3⟩ ⟨fun b o hb e => hk b o (fun z => hb (by simp [z])) (fun z => hb (by simp [z])) e, rfl, rfl, rfl, htk⟩
  done := fun s Q E st hQ => by
    obtain ⟨⟨k, q1⟩, q2, q3⟩ := st
    refine acc_end hh q1 q2 q3 (Array.getElem?_eq_none (Nat.le_refl _)) fun h' he => ?_
    exact hQ _ ⟨fun b o hb e => he b o (fun z => hb (by simp [z])) e, rfl, rfl, rfl, Nat.le_refl _⟩
  self := fun i s Q E st hQ => by
    obtain ⟨⟨k, q1⟩, _⟩ := st
    exact acc_iter q1 hQ
section
variable {prog : Program} {w : World} {A : Around} {E : Value → Shared → Prop} {s : Shared}
theorem sum_tup {t : Addr} {items : Array Value} {val : Nat → Int} {Q : Value → Shared → Prop} (hh : A.handled = none) (ht : s.heap.IsTuple t items) (hv : ∀ (i : Nat) (v : Value), items[i]? = some v → ∃ u, v = .int (val i) u)
    (hq : ∀ h' t' k, (∀ b o, s.heap.get? b = some o → h'.get? b = some o) → Q (.int (preSum val items.size) t') { s with heap := h', toks := k }) : wpAny (model prog w) A (call (.builtin "sum") [.ref t]) Q E s := by
  have lt : t < s.heap.objs.size := by obtain ⟨o, ho, _⟩ := ht; exact Heap.lt_size ho
  have hh1 : A.in1.handled = none := hh
  refine call_sum_walkG (wpAny_pyIter_tuple ht ?_)
  refine ⟨_, _, _, _, _, _, val, rfl, Walks.tuple hh1 s.heap.objs.size t (Nat.ne_of_lt lt) items, ⟨⟨_, Heap.get?_push_size _ rfl, rfl, rfl⟩, ht.push _⟩, fun b hb => ?_, hv, fun h' tk t' hk => ?_⟩
  · have e : (s.heap.push { cls := .type "tuple_iterator", data := .fields #[.ref t, .int 0 0] }).objs.size = s.heap.objs.size + 1 := Heap.size_push ..
    show b < (s.heap.push { cls := .type "tuple_iterator", data := .fields #[.ref t, .int 0 0] }).objs.size
    rw [e]
    rcases List.mem_cons.mp hb with rfl | hb
    · exact Nat.lt_succ_self _
    · rw [List.mem_singleton.mp hb]; exact Nat.lt_succ_of_lt lt
  · exact hq h' t' tk fun b o e => hk b o (fun z => absurd (List.mem_singleton.mp z) (Nat.ne_of_lt (Heap.lt_size e))) (Heap.get?_push_of_some _ e)
theorem sum_acc {t : Addr} {items : Array Value} {val : Nat → Int} {Q : Value → Shared → Prop} (hh : A.handled = none) (ht : s.heap.IsTuple t items) (hv : ∀ (i : Nat) (v : Value), items[i]? = some v → ∃ u, v = .int (val i) u)
    (hq : ∀ h' t' k, (∀ b o, s.heap.get? b = some o → h'.get? b = some o) → Q (.int (preSum (fun i => preSum val (i + 1)) items.size) t') { s with heap := h', toks := k }) :
    wpAny (model prog w) A (call (.type "itertools.accumulate") [.ref t]) (fun v s1 => wpAny (model prog w) A (call (.builtin "sum") [v]) Q E s1) E s := by
  have lt : t < s.heap.objs.size := by obtain ⟨o, ho, _⟩ := ht; exact Heap.lt_size ho
  have hh1 : A.in1.handled = none := hh
  refine call_acc (wpAny_pyIter_tuple ht ?_)
  have e1 : (s.heap.push { cls := .type "tuple_iterator", data := .fields #[.ref t, .int 0 0] }).objs.size = s.heap.objs.size + 1 := Heap.size_push ..
  intro h' g1 hk
  rw [show ({ s with heap := s.heap.push { cls := .type "tuple_iterator", data := .fields #[.ref t, .int 0 0] } } : Shared).heap.objs.size = s.heap.objs.size + 1 from e1] at g1 ⊢
  have git : h'.IsTupleIter s.heap.objs.size t 0 := ⟨_, hk _ _ (Heap.get?_push_size _ rfl), rfl, rfl⟩
  have gt : h'.IsTuple t items := (ht.push _).at fun o e => hk _ o e
  have W := walks_acc (A := A.in1) (prog := prog) (w := w) (a := s.heap.objs.size + 1) (it := s.heap.objs.size) (t := t) (items := items) hh1 hv (Nat.succ_ne_self _) (Nat.ne_of_lt lt) (Nat.ne_of_lt (Nat.lt_succ_of_lt lt))
  refine call_sum_walkAnyS (acc_iter g1 ?_)
  refine ⟨_, _, _, _, _, _, _, fun i => preSum val (i + 1), rfl, W, ⟨⟨0, g1⟩, git, gt⟩, fun b hb => ?_, fun i v hv => hv, fun s' t' hm => ?_⟩
  · have q1 := Heap.lt_size g1
    rcases List.mem_cons.mp hb with rfl | hb
    · exact q1
    · rcases List.mem_cons.mp hb with rfl | hb
      · exact Nat.lt_of_succ_lt q1
      · rw [List.mem_singleton.mp hb]; exact Nat.lt_trans lt (Nat.lt_of_succ_lt q1)
  · rw [Moved.eq_with hm]
    refine hq s'.heap t' s'.toks fun b o e => hm.heap b o (fun z => ?_) (hk b o (Heap.get?_push_of_some _ e))
    have hb := Heap.lt_size e
    rcases List.mem_cons.mp z with rfl | z
    · exact absurd hb (Nat.not_lt.mpr (Nat.le_succ _))
    · rw [List.mem_singleton.mp z] at hb
      exact Nat.lt_irrefl _ hb
end
end Ac
namespace L2
open PySem PySem.Spec PyProof.Rows
/-- the sum of the sums so far -/
def accI : Int → List Int → Int
  | _, [] => 0
  | S, b :: r => (S + b) + accI (S + b) r
theorem preSum_ext {f g : Nat → Int} : ∀ n, (∀ i, i < n → f i = g i) → preSum f n = preSum g n
  | 0, _ => rfl
  | n + 1, h => by
    show preSum f n + f n = preSum g n + g n
    rw [preSum_ext n (fun i hi => h i (Nat.lt_succ_of_lt hi)), h n (Nat.lt_succ_self n)]
theorem preSum_cons (f : Nat → Int) : ∀ n, preSum f (n + 1) = f 0 + preSum (fun i => f (i + 1)) n
  | 0 => by show (0 : Int) + f 0 = f 0 + 0; omega
  | n + 1 => by
    have := preSum_cons f n
    show preSum f (n + 1) + f (n + 1) = f 0 + (preSum (fun i => f (i + 1)) n + f (n + 1))
    rw [this]
    omega
theorem preSum_add (c : Int) (f : Nat → Int) : ∀ n, preSum (fun i => c + f i) n = n * c + preSum f n
  | 0 => by show (0 : Int) = ((0 : Nat) : Int) * c + 0; simp
  | n + 1 => by
    show preSum (fun i => c + f i) n + (c + f n) = ((n + 1 : Nat) : Int) * c + (preSum f n + f n)
    rw [preSum_add c f n, Int.natCast_add, Int.add_mul]
    simp only [Int.natCast_one, Int.one_mul]
    omega
theorem accI_add : ∀ (S : Int) (ns : List Int), accI S ns = ns.length * S + accI 0 ns
  | S, [] => by simp [accI]
  | S, b :: r => by
    show S + b + accI (S + b) r = ((r.length + 1 : Nat) : Int) * S + (0 + b + accI (0 + b) r)
    rw [accI_add (S + b) r, accI_add (0 + b) r, Int.natCast_add, Int.add_mul, Int.mul_add]
    simp only [Int.natCast_one, Int.one_mul, Int.zero_add]
    omega
theorem pre_sum : ∀ (ns : List Int) (val : Nat → Int), (∀ i b, ns[i]? = some b → val i = b) → preSum val ns.length = ns.sum
  | [], _, _ => rfl
  | b :: r, val, h => by
    rw [List.length_cons, preSum_cons, h 0 b rfl, pre_sum r (fun i => val (i + 1)) (fun i c hc => h (i + 1) c hc), List.sum_cons]
theorem pre_acc : ∀ (ns : List Int) (val : Nat → Int), (∀ i b, ns[i]? = some b → val i = b) → preSum (fun i => preSum val (i + 1)) ns.length = accI 0 ns
  | [], _, _ => rfl
  | b :: r, val, h => by
    rw [List.length_cons, preSum_cons]
    have e : preSum (fun i => preSum val (i + 1 + 1)) r.length = preSum (fun i => b + preSum (fun i => val (i + 1)) (i + 1)) r.length := preSum_ext _ fun i _ => by
      show preSum val (i + 1 + 1) = _
      rw [preSum_cons, h 0 b rfl]
    show preSum val (0 + 1) + preSum (fun i => preSum val (i + 1 + 1)) r.length = _
    rw [e, preSum_add, pre_acc r (fun i => val (i + 1)) (fun i c hc => h (i + 1) c hc)]
    show (0 : Int) + val 0 + (r.length * b + accI 0 r) = 0 + b + accI (0 + b) r
    rw [h 0 b rfl, accI_add (0 + b) r]
    simp only [Int.zero_add]
theorem ints_val {ns : List Int} {its : List Value} (rv : Vals (ns.map V.int) its) : ∀ (i : Nat) (v : Value), its.toArray[i]? = some v → ∃ u, v = .int (ns[i]?.getD 0) u := fun i v hv => by
  have hv' : its[i]? = some v := by simpa using hv
  have hi : i < ns.length := by
    have e := rv.length
    rw [List.length_map] at e
    have := (List.getElem?_eq_some_iff.mp hv').1
    omega
  obtain ⟨u2, hu2, rx⟩ := rv.get (i := i) (x := V.int ns[i]) (by rw [List.getElem?_map, List.getElem?_eq_getElem hi]; rfl)
  obtain rfl : u2 = v := Option.some.inj (hu2.symm.trans hv')
  obtain ⟨t, rfl⟩ := rx
  exact ⟨t, by rw [List.getElem?_eq_getElem hi]; rfl⟩
theorem val_get {ns : List Int} : ∀ (i : Nat) (b : Int), ns[i]? = some b → (fun i : Nat => ns[i]?.getD 0) i = b := fun i b h => by
  show ns[i]?.getD 0 = b
  rw [h]
  rfl
section
variable {X : Cx}
/-- sum(t) of a list or tuple of ints -/
def rSumA (K : PySem.W.Frag) : List V → Hp → VK → Prop := fun vs H Q => ∃ (a : Addr) (ns : List Int), vs = [V.ref a] ∧ (SqL K H a (ns.map V.int) ∨ SqT K H a (ns.map V.int)) ∧ Q (.int ns.sum) H
theorem cr_sumA (hc : X.calm = true) : CallR X (.builtin "sum") (rSumA X.K) := by
  intro pins s σ H vs us Q I r h
  obtain ⟨a, ns, rfl, hs, q⟩ := h
  rcases hs with hs | hs
  · exact cr_sum hc pins s σ H [V.ref a] us Q I r ⟨a, ns, rfl, hs, q⟩
  obtain ⟨its, rv, hl, _⟩ := I.tuple hs
  rw [Vals.ref1 r]
  refine Ac.sum_tup (val := fun i : Nat => ns[i]?.getD 0) (I.ok.hd hc) hl (ints_val rv) fun h' t' k hk => ⟨.int _, H, I.kept hk, ⟨_, rfl⟩, ?_⟩
  have e : its.toArray.size = ns.length := by have := rv.length; rw [List.length_map] at this; simp only [List.size_toArray]; omega
  rw [e, pre_sum ns _ val_get]
  exact q
/-- sum(accumulate(t)) of a tuple of ints -/
def tSumAcc (K : PySem.W.Frag) (ta : TA) : TE := fun σ H Q => ta σ H fun vs H2 => ∃ (q : Addr) (ns : List Int), vs = [V.ref q] ∧ SqT K H2 q (ns.map V.int) ∧ Q (.int (accI 0 ns)) H2
theorem pe_sumAcc {e : Expr} {ta : TA} {p0 pos p pos2 : Pos} (hc : X.calm = true) (hgs : Gl X "sum") (hms : X.mg "sum" = none) (hg : Gl X "accumulate") (hm : X.mg "accumulate" = some (.type "itertools.accumulate")) (ha : PA X [e] ta)
    (hs1 : starEach [.Call (.Name "accumulate" p) [e] [] pos2] X.env = (false, eval (.Call (.Name "accumulate" p) [e] [] pos2) X.env) :: starEach [] X.env := by rfl)
    (hp1 : (backTo pos (starEach [] X.env)).any (·.1) = false := by rfl) (hs : starEach [e] X.env = (false, eval e X.env) :: starEach [] X.env := by rfl) (hpl : (backTo pos2 (starEach [] X.env)).any (·.1) = false := by rfl) :
    PE X (.Call (.Name "sum" p0) [.Call (.Name "accumulate" p) [e] [] pos2] [] pos) (tSumAcc X.K ta) := by
  refine ⟨fun pins s σ H Q I h => ?_⟩
  refine wpAny_Call_Name_kw (ld_blt I hgs hms boot_sum ?_)
  refine PyProof.Rows.callWith_builtin1 ?_ hs1 hp1
  rw [hs1]
  show wpAny _ _ (spliced ((false, eval (.Call (.Name "accumulate" p) [e] [] pos2) X.env) :: backTo pos (starEach [] X.env))) _ _ s
  refine Calls.spliced_cons ?_
  refine wpAny_Call_Name_kw (ld_glob I hg hm ?_ (by decide))
  refine PyProof.Rows.callWith_type1 ?_ hs hpl
  refine thn (ha.run pos2 pins s σ H _ I h) fun us s3 ⟨vs, H2, I3, r3, q3⟩ => ?_
  obtain ⟨q, ns, rfl, hq, q3⟩ := q3
  rw [Vals.ref1 r3]
  obtain ⟨its, rv, hl, _⟩ := I3.tuple hq
  refine wpAny_mono (Ac.sum_acc (val := fun i : Nat => ns[i]?.getD 0) (Q := EP X pins σ Q) (E := X.xe) (I3.ok.hd hc) hl (ints_val rv) fun h' t' k hk => ?_) (fun v s4 h4 => Calls.spliced_nil h4) fun _ _ z => z
  have e : its.toArray.size = ns.length := by have := rv.length; rw [List.length_map] at this; simp only [List.size_toArray]; omega
  rw [e, pre_acc ns _ val_get]
  exact ⟨.int _, H2, I3.kept hk, ⟨t', rfl⟩, q3⟩
theorem w_sumAcc {K : PySem.W.Frag} {ta : TA} {σ : St} {H : Hp} {Q : VK} (h : ta σ H fun vs H2 => ∃ (q : Addr) (ns : List Int), vs = [V.ref q] ∧ SqT K H2 q (ns.map V.int) ∧ Q (.int (accI 0 ns)) H2) : tSumAcc K ta σ H Q := h
end
end L2
end

section
-- part Fal
set_option Elab.async false
set_option linter.all false
set_option maxRecDepth 100000
set_option maxHeartbeats 1000000
/-! Fal: sum(accumulate(l)) of a list, too -/
namespace Ac
open PySem PySem.Spec PyProof.Rows
section
variable {prog : Program} {w : World} {A : Around} {E : Value → Shared → Prop} {s : Shared}
/-- one item of a list's iterator, asked for by its slot -/
theorem raw_itemL {it t : Addr} {i : Nat} {items : Array Value} {x : Value} {Q : Value → Shared → Prop} (hit : s.heap.IsListIter it t i) (ht : s.heap.IsList t items) (hx : items[i]? = some x)
    (hQ : ∀ h', h'.IsListIter it t (i + 1) → Heap.SameBut it s.heap h' → Q x { s with heap := h' }) : wpAny (model prog w) A (Builtin.Itertools.itRawNext (.ref it)) Q E s := by
  obtain ⟨o1, g1, c1, d1⟩ := id hit
  obtain ⟨o2, g2, _, n2, d2⟩ := ht
  unfold Builtin.Itertools.itRawNext
  refine wpAny_bind (wpAny_callSpecial?_slot (name := Str.ofString "__next__") hit.typeIs slot_listiter_next (wpAny_call_entry slot_listiter_next hit.typeIs entry_listiter_next ?_ (args_listiter_next _)))
  show wpAny _ _ (field (.ref it) 0 >>= _) _ _ s
  refine wpAny_bind (wpAny_field g1 d1 (x := .ref t) rfl ?_)
  show wpAny _ _ (if (Value.ref t == Value.none) = true then _ else _) _ _ s
  rw [if_neg (fun z : (Value.ref t == Value.none) = true => Bool.false_ne_true z)]
  show wpAny _ _ (field (.ref it) 1 >>= _) _ _ s
  refine wpAny_bind (wpAny_field g1 d1 (x := .int i 0) rfl ?_)
  show wpAny _ _ (seqItems? (.ref t) >>= _) _ _ s
  refine wpAny_bind (wpAny_seqItems g2 d2 ?_)
  simp only [Int.toNat_natCast, hx]
  refine wpAny_bind (wpAny_setField g1 d1 (by simp) (wpAny_pure ⟨x, rfl, wpAny_pure (hQ _ ⟨_, Heap.get?_update_self _ g1 (Obj.isFreed_of_fields (Obj.data_mapFields d1 _)), (Obj.cls_mapFields ..).trans c1, ?_⟩ (Heap.SameBut.update ..))⟩))
  rw [Obj.data_mapFields d1]
  simp [rawInt]
theorem raw_endL {it t : Addr} {i : Nat} {items : Array Value} {Q : Value → Shared → Prop} (hh : A.handled = none) (hit : s.heap.IsListIter it t i) (ht : s.heap.IsList t items) (hx : items[i]? = none)
    (hE : ∀ h' e, Heap.ExtBut it s.heap h' → (∃ o, h'.get? e = some o ∧ o.cls = .type "StopIteration") → E (.ref e) { s with heap := h' }) : wpAny (model prog w) A (Builtin.Itertools.itRawNext (.ref it)) Q E s := by
  obtain ⟨o1, g1, c1, d1⟩ := id hit
  obtain ⟨o2, g2, _, n2, d2⟩ := ht
  unfold Builtin.Itertools.itRawNext
  refine wpAny_bind (wpAny_callSpecial?_slot (name := Str.ofString "__next__") hit.typeIs slot_listiter_next (wpAny_call_entry slot_listiter_next hit.typeIs entry_listiter_next ?_ (args_listiter_next _)))
  show wpAny _ _ (field (.ref it) 0 >>= _) _ _ s
  refine wpAny_bind (wpAny_field g1 d1 (x := .ref t) rfl ?_)
  show wpAny _ _ (if (Value.ref t == Value.none) = true then _ else _) _ _ s
  rw [if_neg (fun z : (Value.ref t == Value.none) = true => Bool.false_ne_true z)]
  show wpAny _ _ (field (.ref it) 1 >>= _) _ _ s
  refine wpAny_bind (wpAny_field g1 d1 (x := .int i 0) rfl ?_)
  show wpAny _ _ (seqItems? (.ref t) >>= _) _ _ s
  refine wpAny_bind (wpAny_seqItems g2 d2 ?_)
  simp only [Int.toNat_natCast, hx]
  refine wpAny_bind (wpAny_rule (wpAny_bind (wpAny_setField g1 d1 (by simp) ?_)))
  show wpAny _ _ (newExc (.type "StopIteration") [] >>= _) _ _ _
  refine wpAny_bind ?_
  simp only [newExc, newTuple]
  refine wpAny_bind (wpAny_newObj_type ?_ (by size_fits))
  refine wpAny_bind (m := firstArgMember _ _) (wpAny_of_eq (a := Value.none) (by first | rfl | (simp only [firstArgMember]; rfl)) ?_)
  refine wpAny_newObj_type ?_ (by size_fits)
  simp only [raiseNew]
  refine wpAny_bind (wpAny_handled ?_)
  first | rw [show A.in1.handled = none from hh] | rw [hh]
  refine wpAny_bind (wpAny_pure (wpAny_throw ?_))
  exact hE _ _ (((Heap.SameBut.update ..).extBut.push _).push _) ⟨_, Heap.get?_push_size _ rfl, rfl⟩
/-- the next total -/
theorem acc_itemL {a it t : Addr} {i : Nat} {items : Array Value} {S b : Int} {tk u : Tok} {Q : Option Value → Shared → Prop} (ha : IsAcc s.heap a it S tk) (hit : s.heap.IsListIter it t i) (ht : s.heap.IsList t items) (hx : items[i]? = some (.int b u)) (h1 : a ≠ it) (h2 : t ≠ it) (h3 : t ≠ a)
    (hQ : ∀ h' v k, IsAcc h' a it (S + b) v → h'.IsListIter it t (i + 1) → h'.IsList t items → (∀ c o, c ≠ it → c ≠ a → s.heap.get? c = some o → h'.get? c = some o) → s.toks ≤ k → Q (some (.int (S + b) v)) { s with heap := h', toks := k }) :
    wpAny (model prog w) A (pyNext (.ref a)) Q E s := by
  have hT : s.TypeIs (.ref a) "itertools.accumulate" := ⟨_, ha, rfl⟩
  unfold pyNext
  refine wpAny_bind (wpAny_attempt (wpAny_callSpecial?_slot (name := Str.ofString "__next__") hT slot_acc_next (wpAny_call_entry slot_acc_next hT entry_acc_next ?_ (args_acc_next _))))
  show wpAny _ _ (field (.ref a) 3 >>= _) _ _ s
  refine wpAny_bind (wpAny_field ha rfl (x := .none) rfl ?_)
  show wpAny _ _ (field (.ref a) 0 >>= _) _ _ s
  refine wpAny_bind (wpAny_field ha rfl (x := .ref it) rfl ?_)
  refine wpAny_bind (raw_itemL hit ht hx fun h' hit' hs => ?_)
  have ha' : IsAcc h' a it S tk := (hs.2 a h1).trans ha
  have ht' : h'.IsList t items := ht.extBut hs.extBut h2
  show wpAny _ _ (field (.ref a) 2 >>= _) _ _ _
  refine wpAny_bind (wpAny_field ha' rfl (x := .int S tk) rfl ?_)
  have upd2 : ∀ (x : Value), (h'.update a (Obj.mapFields fun y => y.setIfInBounds 2 x)).get? a = some { cls := .type "itertools.accumulate", dict := none, data := .fields #[.ref it, .none, x, .none], slots := #[] } := fun x => Heap.get?_update_self _ ha' rfl
  have oth : ∀ (x : Value) c o, c ≠ a → h'.get? c = some o → (h'.update a (Obj.mapFields fun y => y.setIfInBounds 2 x)).get? c = some o := fun x c o hc e => (Heap.get?_update_other _ _ (Ne.symm hc)).trans e
  obtain ⟨o1, g1, r1⟩ := hit'
  obtain ⟨o2, g2, r2⟩ := ht'
  by_cases hz : (Value.int S tk == Builtin.Itertools.itNothing) = true
  · obtain rfl : S = 0 := by
      simp [Builtin.Itertools.itNothing, rawInt] at hz
      exact hz.1
    show wpAny _ _ (if (Value.int 0 tk == Builtin.Itertools.itNothing) = true then _ else _) _ _ _
    rw [if_pos hz]
    refine wpAny_bind (wpAny_rule ?_)
    refine wpAny_bind (wpAny_setField ha' rfl (by simp) ?_)
    refine wpAny_pure ⟨_, rfl, ?_⟩
    have e0 : (0 : Int) + b = b := Int.zero_add b
    rw [e0] at hQ
    exact wpAny_pure (hQ _ u s.toks (upd2 _) ⟨o1, oth _ _ _ (Ne.symm h1) g1, r1⟩ ⟨o2, oth _ _ _ h3 g2, r2⟩ (fun c o c1 c2 e => oth _ _ _ c2 (hs.extBut c o c1 e)) (Nat.le_refl _))
  · show wpAny _ _ (if (Value.int S tk == Builtin.Itertools.itNothing) = true then _ else _) _ _ _
    rw [if_neg hz]
    show wpAny _ _ (field (.ref a) 1 >>= _) _ _ _
    refine wpAny_bind (wpAny_field ha' rfl (x := .none) rfl ?_)
    refine wpAny_bind (wpAny_holding ?_)
    show wpAny _ _ (binaryOp .Add (.int S tk) (.int b u)) _ _ _
    refine PyProof.Rows.add_int ?_
    refine wpAny_bind (wpAny_setField ha' rfl (by simp) ?_)
    refine wpAny_bind (wpAny_letGo ?_)
    refine wpAny_pure ⟨_, rfl, ?_⟩
    exact wpAny_pure (hQ _ _ (s.toks + 1) (upd2 _) ⟨o1, oth _ _ _ (Ne.symm h1) g1, r1⟩ ⟨o2, oth _ _ _ h3 g2, r2⟩ (fun c o c1 c2 e => oth _ _ _ c2 (hs.extBut c o c1 e)) (Nat.le_succ _))
theorem acc_endL {a it t : Addr} {i : Nat} {items : Array Value} {S : Int} {tk : Tok} {Q : Option Value → Shared → Prop} (hh : A.handled = none) (ha : IsAcc s.heap a it S tk) (hit : s.heap.IsListIter it t i) (ht : s.heap.IsList t items) (hx : items[i]? = none)
    (hQ : ∀ h', Heap.ExtBut it s.heap h' → Q none { s with heap := h' }) : wpAny (model prog w) A (pyNext (.ref a)) Q E s := by
  have hT : s.TypeIs (.ref a) "itertools.accumulate" := ⟨_, ha, rfl⟩
  have hh1 : A.in1.handled = none := hh
  unfold pyNext
  refine wpAny_bind (wpAny_attempt (wpAny_callSpecial?_slot (name := Str.ofString "__next__") hT slot_acc_next (wpAny_call_entry slot_acc_next hT entry_acc_next ?_ (args_acc_next _))))
  show wpAny _ _ (field (.ref a) 3 >>= _) _ _ s
  refine wpAny_bind (wpAny_field ha rfl (x := .none) rfl ?_)
  show wpAny _ _ (field (.ref a) 0 >>= _) _ _ s
  refine wpAny_bind (wpAny_field ha rfl (x := .ref it) rfl ?_)
  refine wpAny_bind (raw_endL hh1 hit ht hx fun h' x he hx' => ?_)
  obtain ⟨o, ho, hc⟩ := hx'
  refine wpAny_bind (wpAny_isInstance (T := "StopIteration") (b := true) ⟨o, ho, hc⟩ isSubtype_stop ?_)
  exact wpAny_pure (hQ _ he)
end
theorem walks_accL {prog : Program} {w : World} {A : Around} {a it t : Addr} {items : Array Value} {val : Nat → Int} (hh : A.handled = none) (hv : ∀ (i : Nat) (v : Value), items[i]? = some v → ∃ u, v = .int (val i) u) (h1 : a ≠ it) (h2 : t ≠ it) (h3 : t ≠ a) :
    WalksS prog w A a [a, it, t] [a, it] (fun x y => y = x) items.size (fun i v => ∃ u, v = .int (preSum val (i + 1)) u) (fun i s => (∃ tk, IsAcc s.heap a it (preSum val i) tk) ∧ s.heap.IsListIter it t i ∧ s.heap.IsList t items) where
  sub := fun b hb => by
    rcases List.mem_cons.mp hb with rfl | hb
    · simp
    · rw [List.mem_singleton.mp hb]; simp
  grefl := fun _ => rfl
  gtrans := fun _ _ _ q1 q2 => q2.trans q1
  frame := fun i s h' tk st _ hk => by
    obtain ⟨⟨k, q1⟩, ⟨o1, g1, r1⟩, ⟨o2, g2, r2⟩⟩ := st
    exact ⟨⟨k, hk a (by simp) _ q1⟩, ⟨o1, hk it (by simp) _ g1, r1⟩, ⟨o2, hk t (by simp) _ g2, r2⟩⟩
  item := fun i s Q E hi st hQ => by
    obtain ⟨⟨k, q1⟩, q2, q3⟩ := st
    have hg : items[i]? = some items[i] := Array.getElem?_eq_getElem hi
    obtain ⟨u, hu⟩ := hv i _ hg
    rw [hu] at hg
    refine acc_itemL q1 q2 q3 hg h1 h2 h3 fun h' v k2 a1 a2 a3 hk htk => ?_
    exact hQ _ _ ⟨v, rfl⟩ ⟨⟨v, a1⟩, a2, a3⟩ ⟨fun b o hb e => hk b o (fun z => hb (by simp [z])) (fun z => hb (by simp [z])) e, rfl, rfl, rfl, htk⟩
  done := fun s Q E st hQ => by
    obtain ⟨⟨k, q1⟩, q2, q3⟩ := st
    refine acc_endL hh q1 q2 q3 (Array.getElem?_eq_none (Nat.le_refl _)) fun h' he => ?_
    exact hQ _ ⟨fun b o hb e => he b o (fun z => hb (by simp [z])) e, rfl, rfl, rfl, Nat.le_refl _⟩
  self := fun i s Q E st hQ => by
    obtain ⟨⟨k, q1⟩, _⟩ := st
    exact acc_iter q1 hQ
section
variable {prog : Program} {w : World} {A : Around} {E : Value → Shared → Prop} {s : Shared}
theorem sum_accL {t : Addr} {items : Array Value} {val : Nat → Int} {Q : Value → Shared → Prop} (hh : A.handled = none) (ht : s.heap.IsList t items) (hv : ∀ (i : Nat) (v : Value), items[i]? = some v → ∃ u, v = .int (val i) u)
    (hq : ∀ h' t' k, (∀ b o, s.heap.get? b = some o → h'.get? b = some o) → Q (.int (preSum (fun i => preSum val (i + 1)) items.size) t') { s with heap := h', toks := k }) :
    wpAny (model prog w) A (call (.type "itertools.accumulate") [.ref t]) (fun v s1 => wpAny (model prog w) A (call (.builtin "sum") [v]) Q E s1) E s := by
  have lt : t < s.heap.objs.size := by obtain ⟨o, ho, _⟩ := ht; exact Heap.lt_size ho
  have hh1 : A.in1.handled = none := hh
  refine call_acc (wpAny_pyIter_list ht ?_)
  have e1 : (s.heap.push { cls := .type "list_iterator", data := .fields #[.ref t, .int 0 0] }).objs.size = s.heap.objs.size + 1 := Heap.size_push ..
  intro h' g1 hk
  rw [show ({ s with heap := s.heap.push { cls := .type "list_iterator", data := .fields #[.ref t, .int 0 0] } } : Shared).heap.objs.size = s.heap.objs.size + 1 from e1] at g1 ⊢
  have git : h'.IsListIter s.heap.objs.size t 0 := ⟨_, hk _ _ (Heap.get?_push_size _ rfl), rfl, rfl⟩
  have gt : h'.IsList t items := (ht.push _).at fun o e => hk _ o e
  have W := walks_accL (A := A.in1) (prog := prog) (w := w) (a := s.heap.objs.size + 1) (it := s.heap.objs.size) (t := t) (items := items) hh1 hv (Nat.succ_ne_self _) (Nat.ne_of_lt lt) (Nat.ne_of_lt (Nat.lt_succ_of_lt lt))
  refine call_sum_walkAnyS (acc_iter g1 ?_)
  refine ⟨_, _, _, _, _, _, _, fun i => preSum val (i + 1), rfl, W, ⟨⟨0, g1⟩, git, gt⟩, fun b hb => ?_, fun i v hv => hv, fun s' t' hm => ?_⟩
  · have q1 := Heap.lt_size g1
    rcases List.mem_cons.mp hb with rfl | hb
    · exact q1
    · rcases List.mem_cons.mp hb with rfl | hb
      · exact Nat.lt_of_succ_lt q1
      · rw [List.mem_singleton.mp hb]; exact Nat.lt_trans lt (Nat.lt_of_succ_lt q1)
  · rw [Moved.eq_with hm]
    refine hq s'.heap t' s'.toks fun b o e => hm.heap b o (fun z => ?_) (hk b o (Heap.get?_push_of_some _ e))
    have hb := Heap.lt_size e
    rcases List.mem_cons.mp z with rfl | z
    · exact absurd hb (Nat.not_lt.mpr (Nat.le_succ _))
    · rw [List.mem_singleton.mp z] at hb
      exact Nat.lt_irrefl _ hb
end
end Ac
namespace L2
open PySem PySem.Spec PyProof.Rows
section
variable {X : Cx}
/-- sum(accumulate(t)) of a tuple or a list of ints -/
def tSumAc2 (K : PySem.W.Frag) (ta : TA) : TE := fun σ H Q => ta σ H fun vs H2 => ∃ (q : Addr) (ns : List Int), vs = [V.ref q] ∧ (SqL K H2 q (ns.map V.int) ∨ SqT K H2 q (ns.map V.int)) ∧ Q (.int (accI 0 ns)) H2
theorem pe_sumAc2 {e : Expr} {ta : TA} {p0 pos p pos2 : Pos} (hc : X.calm = true) (hgs : Gl X "sum") (hms : X.mg "sum" = none) (hg : Gl X "accumulate") (hm : X.mg "accumulate" = some (.type "itertools.accumulate")) (ha : PA X [e] ta)
    (hs1 : starEach [.Call (.Name "accumulate" p) [e] [] pos2] X.env = (false, eval (.Call (.Name "accumulate" p) [e] [] pos2) X.env) :: starEach [] X.env := by rfl)
    (hp1 : (backTo pos (starEach [] X.env)).any (·.1) = false := by rfl) (hs : starEach [e] X.env = (false, eval e X.env) :: starEach [] X.env := by rfl) (hpl : (backTo pos2 (starEach [] X.env)).any (·.1) = false := by rfl) :
    PE X (.Call (.Name "sum" p0) [.Call (.Name "accumulate" p) [e] [] pos2] [] pos) (tSumAc2 X.K ta) := by
  refine ⟨fun pins s σ H Q I h => ?_⟩
  refine wpAny_Call_Name_kw (ld_blt I hgs hms boot_sum ?_)
  refine PyProof.Rows.callWith_builtin1 ?_ hs1 hp1
  rw [hs1]
  show wpAny _ _ (spliced ((false, eval (.Call (.Name "accumulate" p) [e] [] pos2) X.env) :: backTo pos (starEach [] X.env))) _ _ s
  refine Calls.spliced_cons ?_
  refine wpAny_Call_Name_kw (ld_glob I hg hm ?_ (by decide))
  refine PyProof.Rows.callWith_type1 ?_ hs hpl
  refine thn (ha.run pos2 pins s σ H _ I h) fun us s3 ⟨vs, H2, I3, r3, q3⟩ => ?_
  obtain ⟨q, ns, rfl, hq, q3⟩ := q3
  rw [Vals.ref1 r3]
  have fin : ∀ {its : List Value} (rv : Vals (ns.map V.int) its) (h' : Heap) (t' : Tok) (k : Nat), (∀ b o, s3.heap.get? b = some o → h'.get? b = some o) → EP X pins σ Q (.int (preSum (fun i => preSum (fun i : Nat => ns[i]?.getD 0) (i + 1)) its.toArray.size) t') { s3 with heap := h', toks := k } := fun {its} rv h' t' k hk => by
    have e : its.toArray.size = ns.length := by have := rv.length; rw [List.length_map] at this; simp only [List.size_toArray]; omega
    rw [e, pre_acc ns _ val_get]
    exact ⟨.int _, H2, I3.kept hk, ⟨t', rfl⟩, q3⟩
  rcases hq with hq | hq
  · obtain ⟨its, rv, hl, _⟩ := I3.list hq
    exact wpAny_mono (Ac.sum_accL (val := fun i : Nat => ns[i]?.getD 0) (Q := EP X pins σ Q) (E := X.xe) (I3.ok.hd hc) hl.isList (ints_val rv) (fin rv)) (fun v s4 h4 => Calls.spliced_nil h4) fun _ _ z => z
  · obtain ⟨its, rv, hl, _⟩ := I3.tuple hq
    exact wpAny_mono (Ac.sum_acc (val := fun i : Nat => ns[i]?.getD 0) (Q := EP X pins σ Q) (E := X.xe) (I3.ok.hd hc) hl (ints_val rv) (fin rv)) (fun v s4 h4 => Calls.spliced_nil h4) fun _ _ z => z
theorem w_sumAc2 {K : PySem.W.Frag} {ta : TA} {σ : St} {H : Hp} {Q : VK} (h : ta σ H fun vs H2 => ∃ (q : Addr) (ns : List Int), vs = [V.ref q] ∧ (SqL K H2 q (ns.map V.int) ∨ SqT K H2 q (ns.map V.int)) ∧ Q (.int (accI 0 ns)) H2) : tSumAc2 K ta σ H Q := h
end
end L2
end

section
-- part Fgn
set_option Elab.async false
set_option linter.all false
set_option maxRecDepth 100000
set_option maxHeartbeats 2000000
/-! Fgn: any, all of a test over a tuple of ints, the def's table of code objects kept by names -/
namespace GnI
open PySem PySem.Spec PyProof.Rows L2 LamX
open GxR (GenS keeps_refl keeps_tok sh_eta passing_true)
/-- the test of an int -/
def EltI (prog : Program) (w : World) (scope : Scope) (x : Str) (elt : Expr) (pb : Int → Bool) : Prop :=
  ∀ (ce : Env) (B : Around) (F : Value → Shared → Prop) (c : Int) (t : Tok) (z : Shared) (m : Str → Option Value), ce.scope = scope → z.heap.Ns ce.locals m → m x = some (.int c t) →
    wpAny (model prog w) B (eval elt ce) (fun y z' => y = .bool (pb c) ∧ Keeps z z') F z
/-- x != k -/
theorem eltI_ne {prog : Program} {w : World} {scope : Scope} {x : Str} {k : Int} {j : Nat} {p1 p2 p3 : Pos} (hk : scope.kind = .function) (hl : scope.names.lookup x = some .local) (hd : (x == ("__debug__" : Str)) = false := by decide) :
    EltI prog w scope x (.Compare (.Name x p1) [.NotEq] [.Constant (.int k) j p2] p3) (fun c => c != k) := by
  intro ce B F c t z m hs hn hm
  refine wpAny_Compare1 (wpAny_Name (wpAny_loadName_local (by rw [hs]; exact hk) (show ce.scope.names.lookup x = some .local by rw [hs]; exact hl) hn hm ?_) hd)
  refine wpAny_Constant_int ?_
  exact PyProof.Rows.ne_int ⟨rfl, keeps_tok _ _⟩
def genSB (scope : Scope) (x : Str) : Bool := decide (scope.kind = .function) && !scope.isCoroutine && decide (scope.names.lookup (".0" : Str) = some NameKind.local) && decide (scope.names.lookup x = some .local) && scope.names.all fun y => !decide (y.2 = .cell) && !decide (y.2 = .free)
theorem genS_by {env : Env} {scope : Scope} {x : Str} (h : genSB scope x = true) : GenS env scope x := by
  unfold genSB at h
  simp only [Bool.and_eq_true, Bool.not_eq_true', decide_eq_true_eq, decide_eq_false_iff_not, List.all_eq_true] at h
  obtain ⟨⟨⟨⟨h1, h2⟩, h3⟩, h4⟩, h5⟩ := h
  exact ⟨h1, h2, fun y hy => (h5 y hy).1, h3, h4, fun y hy e => absurd e (h5 y hy).2⟩
/-- the test at place j -/
def trI (pb : Int → Bool) (l : List Int) (j : Nat) : Bool := (l[j]?).elim false pb
theorem trI_some {pb : Int → Bool} {l : List Int} {j : Nat} {b : Int} (h : l[j]? = some b) : trI pb l j = pb b := by show (l[j]?).elim false pb = pb b; rw [h]; rfl
theorem any_trI (l : List Int) (pb : Int → Bool) : (List.range l.length).any (trI pb l) = l.any pb := by
  rw [Bool.eq_iff_iff, List.any_eq_true, List.any_eq_true]
  refine ⟨fun ⟨j, hj, h⟩ => ?_, fun ⟨b, hb, h⟩ => ?_⟩
  · have hl := List.mem_range.mp hj
    exact ⟨l[j], List.getElem_mem hl, by rw [← trI_some (pb := pb) (List.getElem?_eq_getElem hl)]; exact h⟩
  · obtain ⟨j, hl, e⟩ := List.getElem_of_mem hb
    exact ⟨j, List.mem_range.mpr hl, by rw [trI_some (List.getElem?_eq_getElem hl), e]; exact h⟩
theorem all_trI (l : List Int) (pb : Int → Bool) : (List.range l.length).all (trI pb l) = l.all pb := by
  rw [Bool.eq_iff_iff, List.all_eq_true, List.all_eq_true]
  refine ⟨fun h b hb => ?_, fun h j hj => ?_⟩
  · obtain ⟨j, hl, e⟩ := List.getElem_of_mem hb
    have := h j (List.mem_range.mpr hl)
    rwa [trI_some (List.getElem?_eq_getElem hl), e] at this
  · have hl := List.mem_range.mp hj
    rw [trI_some (List.getElem?_eq_getElem hl)]
    exact h _ (List.getElem_mem hl)
variable {X : Cx} {pins : List (Addr × Obj)} {σ : L2.St} {H : Hp} {s : Shared}
/-- the generator g over the ints ns, ready to be walked, in the state z -/
def Ready (X : Cx) (pins : List (Addr × Obj)) (σ : L2.St) (H1 : Hp) (T : List (Addr × Str)) (ns : List Int) (pb : Int → Bool) (g : Addr) (z : Shared) : Prop :=
  ∃ (fp wr : List Addr) (G : Array GenState → Array GenState → Prop) (F : Nat → Value → Prop) (St : Nat → Shared → Prop),
    WalksS X.prog X.w X.A.in1 g fp wr G ns.length F St ∧ St 0 z ∧ TruthOf X.prog X.w X.A.in1 F (trI pb ns) ∧ ∀ z', Moved wr G z z' → ∃ H2, ExtN H1 H2 ∧ Tabs T H2 ∧ Inv X pins σ H2 z'
theorem moved_inv {g' : Array GenState} {d' : Drawn} {t' : Nat} {h' : Heap} (I : Inv X pins σ H s) (k : ∀ b o, s.heap.get? b = some o → h'.get? b = some o) (hg : AllBare g') : Inv X pins σ H { s with heap := h', gens := g', drawn := d', toks := t' } := by
  refine I.step (g' := g') (d' := d') (ch := []) (fun b hb => nomatch hb) (fun b o _ _ _ e n => k b o e) (fun b o _ _ _ e n => ⟨o.slots, k b o e⟩) (fun b o _ e n => n) (fun b o _ e => ⟨o, k b o e⟩) (fun b xs e => e) (fun b o u e => e) (fun b qs e => by rw [e]; exact ⟨#[], by simp⟩)
    (fun m hn => ?_) (fun b u e => (I.hok b u e).stay (fun d v _ q => k d v q) (fun d q => q) fun d xs q => q) hg
  obtain ⟨ob, es, ep, ho, r⟩ := hn
  exact ⟨ob, es, ep, k _ ob ho, r⟩
theorem gen_ints {T : List (Addr × Str)} {c P : Addr} {elt iter : Expr} {x : Str} {px gpos : Pos} {scope : Scope} {pb : Int → Bool} {te : TE} {k : Nat} {Q' : Value → Shared → Prop} {R : Addr → List Int → Hp → Prop}
    (hr : Room k X.A) (TB : TabB X.base X.mg c P) (hcode : X.env.code = .ref c) (hm : (P, X.env.qual ++ "<genexpr>") ∈ T) (hu : ∀ p ∈ T, p.1 = P → p.2 = X.env.qual ++ "<genexpr>") (S : GenS X.env scope x) (hi : PE X iter te) (hel : EltI X.prog X.w scope x elt pb)
    (hs : ∀ v, genFold iter X.env v = pure v) (I : Inv X pins σ H s) (h : te σ H fun v H1 => ∃ a ns, v = .ref a ∧ SqT X.K H1 a (ns.map V.int) ∧ Tabs T H1 ∧ R a ns H1)
    (hQ : ∀ a ns H1 g z, R a ns H1 → Ready X pins σ H1 T ns pb g z → Q' (.ref g) z) : wpAny (model X.prog X.w) X.A (eval (.GeneratorExp elt [⟨.Name x px, iter, [], 0⟩] scope gpos) X.env) Q' X.xe s := by
  refine wpAny_GeneratorExp_walksQ hr.hd S.co (closure_ok S.free) S.cell S.dot S.loc S.kind (by have := hr.dp; omega) (thn (hi.run pins s σ H _ I h) fun xv s1 ⟨v, H1, I1, r1, q1⟩ => ?_) hs
  obtain ⟨a, ns, rfl, hS, hT, q1⟩ := q1
  obtain ⟨its, rv, ht, _⟩ := I1.tuple hS
  cases r1
  have la : a < s1.heap.objs.size := by obtain ⟨o, ho, _⟩ := id ht; exact Heap.lt_size ho
  have hlen : its.toArray.size = ns.length := by have := rv.length; rw [List.length_map] at this; simp only [List.size_toArray]; omega
  have hval : ∀ (i : Nat) (u : Value), its.toArray[i]? = some u → ∃ b t, ns[i]? = some b ∧ u = .int b t := fun i u e => by
    have e' : its[i]? = some u := by simpa using e
    have hl : i < ns.length := by have := (List.getElem?_eq_some_iff.mp e').1; rw [← hlen]; simpa using this
    obtain ⟨u2, e2, r2⟩ := rv.get (i := i) (x := V.int ns[i]) (by rw [List.getElem?_map, List.getElem?_eq_getElem hl]; rfl)
    rw [e'] at e2
    cases e2
    obtain ⟨t, rfl⟩ := r2
    exact ⟨_, t, List.getElem?_eq_getElem hl, rfl⟩
  obtain ⟨ps, hP, htr, hnm⟩ := hT _ hm
  refine wpAny_pyIter_tuple ht ?_
  have hPs : s1.heap.get? P = some { cls := .none, data := .fields ps } := I1.hok P _ hP
  have haP : a ≠ P := fun z => by
    obtain ⟨o, ho, hc, _⟩ := id ht
    rw [z, hPs] at ho
    cases ho
    cases hc
  have hPlt : P < s1.heap.objs.size := Heap.lt_size hPs
  obtain ⟨N, eN⟩ : ∃ N : Nat, N = s1.heap.objs.size := ⟨_, rfl⟩
  obtain ⟨o, eo⟩ : ∃ o : Obj, o = { cls := .type "tuple_iterator", data := .fields #[.ref a, .int 0 0] } := ⟨_, rfl⟩
  rw [← eo]
  have sz2 : (s1.heap.push o).objs.size = N + 1 := by rw [Heap.size_push, ← eN]
  have kp2 : ∀ b u, s1.heap.get? b = some u → (s1.heap.push o).get? b = some u := fun b u e => Heap.get?_push_of_some _ e
  have hit : (s1.heap.push o).IsTupleIter N a 0 := by rw [eN, eo]; exact ⟨_, Heap.get?_push_size _ rfl, rfl, rfl⟩
  have cd : PySem.W.CodeHd (s1.heap.push o) c P := TB.code.keeps fun b u e => kp2 b u (I1.bk b u e)
  have lim2 : (s1.heap.push o).NoLimit := I1.nolimit.push o
  have W : ∀ B : Around, B.handled = none → Walks X.prog X.w B N [N, a] [N] its.toArray.size (fun i u => its.toArray[i]? = some u) (fun i hh => hh.IsTupleIter N a i ∧ hh.IsTuple a its.toArray) := fun B hB => Walks.tuple hB N a (by rw [eN]; exact Nat.ne_of_lt la) its.toArray
  have cont : ∀ (code : Value) (h3 : Heap) (tk : Nat), Heap.ExtBut P (s1.heap.push o) h3 → (s1.heap.push o).objs.size ≤ h3.objs.size →
      (∀ (h' : Heap) (t' : Nat), (∀ b u, b ≠ N → h3.get? b = some u → h'.get? b = some u) → ∃ H3, ExtN H1 H3 ∧ Tabs T H3 ∧ Inv X pins σ H3 { s1 with heap := h', toks := t' }) →
      wpAny (model X.prog X.w) X.A (builtinsFor X.env.globals X.env.builtins) (fun bi z =>
        ∃ Ia fp wr n₀ Pf St₀ pz F, Value.ref N = .ref Ia ∧ (∀ B : Around, B.handled = none → Walks X.prog X.w B Ia fp wr n₀ Pf St₀) ∧ St₀ 0 z.heap ∧ (∀ b ∈ fp, b < z.heap.objs.size) ∧ z.heap.NoLimit ∧ cStatics ∉ wr ∧
          (∀ hz : Heap, (∀ b o, z.heap.get? b = some o → hz.get? b = some o) →
            QuietGen X.prog X.w (genEnv scope (cloFrom X.env.cells scope.names []) z.heap.objs.size code bi X.env) x [] elt (List.range z.heap.objs.size) wr Pf pz F hz) ∧
          (∀ a h₅ tk gs, gs.bare = true → z.heap.objs.size < a → h₅.objs.size = a + 1 → (∀ b o, z.heap.get? b = some o → h₅.get? b = some o) →
            WalksS X.prog X.w X.A.in4 a (a :: z.heap.objs.size :: List.range z.heap.objs.size) (z.heap.objs.size :: wr) (GenOnlyQ z.gens.size) (passing pz n₀ 0).length
              (fun j y => ∃ i, (passing pz n₀ 0)[j]? = some i ∧ F i y) (GenAt X.prog X.w X.A.in4 a z.gens.size z.heap.objs.size (List.range z.heap.objs.size) wr pz n₀ F) →
            GenAt X.prog X.w X.A.in4 a z.gens.size z.heap.objs.size (List.range z.heap.objs.size) wr pz n₀ F 0 { z with gens := z.gens.push gs, toks := tk, heap := h₅ } →
            Q' (.ref a) { z with gens := z.gens.push gs, toks := tk, heap := h₅ })) X.xe { s1 with heap := h3, toks := tk } := by
    intro code h3 tk hx hsz hI
    obtain ⟨bm, ob, e1, e2, e3, e4, e5, e6, e7, e8⟩ := TB.bm
    have hsz' : N + 1 ≤ h3.objs.size := by rw [← sz2]; exact hsz
    have keep3 : ∀ b u, b ≠ P → s1.heap.get? b = some u → h3.get? b = some u := fun b u hb e => hx b u hb (kp2 b u e)
    have hclt : cStatics < N := by rw [eN]; exact let ⟨_, hns, _⟩ := I1.nolimit; hns.lt
    refine wpAny_builtinsFor (m := X.mg) (by rw [I1.ok.glob]; exact ((I1.mod.glob.keeps I1.bk).push o).extBut hx TB.gP) e1 e2 (keep3 _ _ e4 (I1.bk _ _ e5)) e6 e7 e8 ?_
    have itP : N ≠ P := fun z => by rw [eN] at z; exact Nat.ne_of_lt hPlt z.symm
    have hta : h3.IsTuple a its.toArray := by
      obtain ⟨o1, g1, r1⟩ := ht
      exact ⟨o1, keep3 a o1 haP g1, r1⟩
    obtain ⟨_, _, _, I3⟩ := hI h3 tk fun b u _ e => e
    refine ⟨N, [N, a], [N], its.toArray.size, _, _, (fun _ => true), (fun i y => ∃ b, ns[i]? = some b ∧ y = .bool (pb b)), rfl, W, ⟨hit.at fun u e => hx N u itP e, hta⟩, fun b hb => ?_, I3.nolimit, fun z => ?_, fun hz hhz => ?_, fun g h5 tk5 gs hgb hag hsz5 hk5 W5 hat => ?_⟩
    · show b < h3.objs.size
      rcases List.mem_cons.mp hb with z | hb
      · rw [z]; exact Nat.lt_of_lt_of_le (Nat.lt_succ_self N) hsz'
      · rw [List.mem_singleton.mp hb]; exact Nat.lt_of_lt_of_le (Nat.lt_succ_of_lt (eN ▸ la)) hsz'
    · rw [List.mem_singleton.mp z] at hclt
      exact Nat.lt_irrefl _ hclt
    · refine ⟨fun B F' i v s₂ m₂ hB hPv hn hm hk => ?_, fun B F' i v s₂ m₂ hB hPv hp hn hm hk => ?_⟩
      · simp only [List.forIn_nil]
        exact wpAny_pure ⟨rfl, keeps_refl _⟩
      · obtain ⟨b, u, hb, rfl⟩ := hval i v hPv
        exact wpAny_mono (hel _ B F' b u s₂ m₂ rfl hn hm) (fun y s3 r => ⟨⟨b, hb, r.1⟩, r.2⟩) fun _ _ e => e
    · simp only [GxR.passing_true, List.length_range, hlen] at W5
      refine hQ a ns H1 g _ q1 ⟨_, _, _, _, _, W5.in4_1, by rw [hlen] at hat; exact hat, fun j y sj Qj Ej hy hQj => ?_, fun z' hmv => ?_⟩
      · obtain ⟨i, hij, b, hb, rfl⟩ := hy
        obtain ⟨hj, ej⟩ := List.getElem?_eq_some_iff.mp hij
        rw [List.getElem_range] at ej
        subst ej
        have hQ2 : Qj (trI pb ns j) sj := hQj
        rw [trI_some hb] at hQ2
        exact wpAny_truthy_bool hQ2
      · obtain ⟨H3, eN3, hT3, I4⟩ := hI z'.heap z'.toks fun b u hb e => hmv.heap b u (fun z => by
          rcases List.mem_cons.mp z with z | z
          · rw [z] at e
            exact Nat.lt_irrefl _ (Heap.lt_size e)
          · exact hb (List.mem_singleton.mp z)) (hk5 b u e)
        have J := moved_inv (g' := z'.gens) (d' := z'.drawn) (t' := z'.toks) (h' := z'.heap) I4 (fun b u e => e) (AllBare.movedS (I1.bare.push hgb) hmv)
        have J2 := sh_eta { s1 with heap := h3, toks := tk } z' hmv.os
        rw [← J2]
        exact ⟨H3, eN3, hT3, J⟩
  subst eN
  refine ⟨lim2, ?_⟩
  have hP2 : (s1.heap.push o).get? P = some { cls := .none, data := .fields ps } := kp2 _ _ hPs
  have nN : ∀ b u, s1.heap.get? b = some u → b ≠ s1.heap.objs.size := fun b u e => Nat.ne_of_lt (Heap.lt_size e)
  cases hf : codeAmong gpos ps.toList with
  | none =>
    refine wpAny_genexprCodeX hcode (cd.code hP2 htr) (cd.tab hP2) hf fun c' h' tk hx hge hlt hco' hrec htab' _ => ?_
    obtain ⟨c2, oc, vs, t, e2, hoc, hd, hv⟩ := hrec
    cases e2
    have hge1 : s1.heap.objs.size + 1 ≤ c' := by rw [← sz2]; exact hge
    have hge' : s1.heap.objs.size ≤ c' := Nat.le_of_succ_le hge1
    have nC : H1 c' = none := I1.hok.fresh hge'
    have hE : ExtN H1 (upd (upd H1 P (.tbl (ps ++ #[rawInt gpos.line, rawInt gpos.col, .ref c']))) c' (CodeO c' (X.env.qual ++ "<genexpr>"))) := fun b u e n => by
      rw [upd_ne (ne_of_none e nC), upd_ne (fun z => n ps (Option.some.inj (e.symm.trans (by rw [z]; exact hP))))]
      exact e
    have eL : (ps ++ #[rawInt gpos.line, rawInt gpos.col, .ref c']).toList = ps.toList ++ [rawInt gpos.line, rawInt gpos.col, .ref c'] := by simp
    refine cont _ h' tk hx (Nat.le_trans hge (Nat.le_of_lt hlt)) fun h'' t'' k'' => ⟨_, hE, fun p hp => ?_, inv_table (t' := t'') (more := #[rawInt gpos.line, rawInt gpos.col, .ref c']) (h' := h'') I1 hP (fun b u hb e => k'' b u (nN b u e) (hx b u hb (kp2 b u e))) (k'' P _ (nN _ _ hPs) htab'.2) hge' ⟨oc, vs, t, k'' c' _ (Nat.ne_of_gt hge1) hoc, hd, hv⟩⟩
    by_cases hb : p.1 = P
    · rw [hu p hp hb, hb]
      refine ⟨_, by rw [upd_ne (ne_of_none hP nC), upd_same], by rw [eL]; exact PySem.TriplesOk_snoc _ _ _ _ htr, fun p' cv hcv => ?_⟩
      rw [eL] at hcv
      rcases among_app _ htr hcv with z | z
      · obtain ⟨c0, e1, e2⟩ := hnm p' cv z
        exact ⟨c0, e1, hE _ _ e2 codeO_ne⟩
      · exact ⟨c', z, upd_same⟩
    · obtain ⟨ps', a1, a2, a3⟩ := hT p hp
      refine ⟨ps', by rw [upd_ne (ne_of_none a1 nC), upd_ne hb]; exact a1, a2, fun p' cv hcv => ?_⟩
      obtain ⟨c0, e1, e2⟩ := a3 p' cv hcv
      exact ⟨c0, e1, hE _ _ e2 codeO_ne⟩
  | some cv =>
    refine wpAny_genexprCode_hit hcode (cd.code hP2 htr) hf ?_
    exact cont cv (s1.heap.push o) s1.toks (Heap.ExtBut.refl _ _) (Nat.le_refl _) fun h'' t'' k'' => ⟨H1, ExtN.refl H1, hT, I1.kept fun b u e => k'' b u (nN b u e) (kp2 b u e)⟩
/-- any(test for x in e), e a tuple of ints -/
def tAnyI (K : PySem.W.Frag) (T : List (Addr × Str)) (pb : Int → Bool) (te : TE) : TE := fun σ H Q => te σ H fun v H1 => ∃ (a : Addr) (ns : List Int), v = .ref a ∧ SqT K H1 a (ns.map V.int) ∧ Tabs T H1 ∧ ∀ H2, ExtN H1 H2 → Tabs T H2 → Q (.bl (ns.any pb)) H2
theorem pe_anyI {T : List (Addr × Str)} {c P : Addr} {elt iter : Expr} {x : Str} {px p pos gpos : Pos} {scope : Scope} {pb : Int → Bool} {te : TE} {k : Nat} (hr : Room k X.A) (hg : Gl X "any") (hma : X.mg "any" = none) (TB : TabB X.base X.mg c P) (hcode : X.env.code = .ref c)
    (hm : (P, X.env.qual ++ "<genexpr>") ∈ T) (hu : ∀ p ∈ T, p.1 = P → p.2 = X.env.qual ++ "<genexpr>") (S : GenS X.env scope x) (hi : PE X iter te) (hel : EltI X.prog X.w scope x elt pb) (hs : ∀ v, genFold iter X.env v = pure v)
    (he : starEach [.GeneratorExp elt [⟨.Name x px, iter, [], 0⟩] scope gpos] X.env = (false, eval (.GeneratorExp elt [⟨.Name x px, iter, [], 0⟩] scope gpos) X.env) :: starEach [] X.env := by rfl) :
    PE X (.Call (.Name "any" p) [.GeneratorExp elt [⟨.Name x px, iter, [], 0⟩] scope gpos] [] pos) (tAnyI X.K T pb te) := by
  refine ⟨fun pins s σ H Q I h => wpAny_Call_Name_kw (ld_blt I hg hma boot_any (PyProof.Rows.callWith_builtin1 ?_ he (by rfl)))⟩
  rw [he]
  show wpAny _ _ (spliced ((false, eval (.GeneratorExp elt [⟨.Name x px, iter, [], 0⟩] scope gpos) X.env) :: backTo pos (starEach [] X.env))) _ _ s
  refine Calls.spliced_cons (gen_ints (R := fun a ns H1 => ∀ H2, ExtN H1 H2 → Tabs T H2 → Q (.bl (ns.any pb)) H2) hr TB hcode hm hu S hi hel hs I h fun a ns H1 g z hR hG => Calls.spliced_nil ?_)
  obtain ⟨fp, wr, G, F, St, W, hst, htr, hI⟩ := hG
  refine call_any_walkS (W.self 0 _ _ _ hst ⟨g, fp, wr, G, _, F, St, _, rfl, W, hst, htr, fun s' hmv => ?_⟩)
  obtain ⟨H2, hE, hT, J⟩ := hI s' hmv
  exact ⟨.bl _, H2, J, rfl, by rw [any_trI ns pb]; exact hR H2 hE hT⟩
theorem w_anyI {K : PySem.W.Frag} {T : List (Addr × Str)} {pb : Int → Bool} {te : TE} {Q : VK} (h : te σ H fun v H1 => ∃ (a : Addr) (ns : List Int), v = .ref a ∧ SqT K H1 a (ns.map V.int) ∧ Tabs T H1 ∧ ∀ H2, ExtN H1 H2 → Tabs T H2 → Q (.bl (ns.any pb)) H2) : tAnyI K T pb te σ H Q := h
end GnI
end

section
-- part Fno
set_option Elab.async false
set_option linter.all false
set_option maxRecDepth 100000
set_option maxHeartbeats 2000000
/-! Fno: an instance without == of its own is not equal to a text -/
namespace NoS
open PySem PySem.Spec PyProof.Rows PySem.SeqAt L2
section
variable {M : Model} {prog : Program} {w : World} {A : Around} {E : Value → Shared → Prop} {s : Shared} {K : PySem.W.Frag} {x C : Addr} {ox : Obj} {od : Option Obj} {z : Str} {t : Tok}
theorem same_str {R : Bool → Shared → Prop} (h : R false s) : wpAny M A (isSame (.ref x) (.str z t)) R E s := wpAny_of_eq (rfl : isSame (.ref x) (.str z t) = pure false) h
theorem entryE {Q : Fin → Shared → Prop} (hq : Q (.done (.ret .notImplemented)) s) : wpAny M A (Builtin.«object.__eq__» ⟨[.ref x, .str z t], []⟩) Q E s := by
  unfold Builtin.«object.__eq__»
  repeat (first | with_reducible refine same_str ?_ | wp_step)
  exact hq
theorem callE {Q : Value → Shared → Prop} (X : K.In s.heap) (I : PySem.W.InstAt s.heap x ox C od) (hm : PySem.W.mroIn K C (.type "object") = some true) (hq : Q .notImplemented s) : wpAny (model prog w) A (call (.builtin "object.__eq__") [.ref x, .str z t]) Q E s :=
  wpAny_call (codeAny_call_builtin F.cmp_object.eq.plain F.cmpEntry_eq (PySem.W.check_slot F.cmpKind_eq F.cmpSplit_eq (I.type.andThen (PySem.W.looks_mroIn X hm)) (F.cmpArgs_eq _ _) (entryE hq)))
theorem ifBoundN {args : List Value} {Q : Option Value → Shared → Prop} (X : K.In s.heap) (I : PySem.W.InstAt s.heap x ox C od) (hs : PySem.W.findIn K (.ref C) "__ne__" = some (some (.builtin "object.__ne__")))
    (h : wpAny M A (call (.builtin "object.__ne__") (.ref x :: args)) (fun v => Q (some v)) E s) : wpAny M A (callSpecialIfBound? (.ref x) "__ne__" args) Q E s := by
  simp only [callSpecialIfBound?, bindSpecialIfBound?]
  refine wpAny_holding (wpAny_bind (wpAny_bind (wpAny_bind (I.type.here ((PySem.W.looks_findIn X hs).here (wpAny_bind (wpAny_askSetting (wpAny_ite ?_))))))))
  have fin : wpAny M A (call (.builtin "object.__ne__") ([.ref x] ++ args) >>= fun v => pure (some v)) Q E s := wpAny_bind (wpAny_mono h (fun v s' h' => wpAny_pure h') fun _ _ h' => h')
  split
  · exact wpAny_bind (wpAny_of_eq (F.cmp_object.ne.bind _) (wpAny_pure (by exact fin)))
  · exact wpAny_tryCatch (wpAny_bind (wpAny_of_eq (F.cmp_object.ne.bind _) (wpAny_pure (by exact fin))))
theorem entryN {Q : Fin → Shared → Prop} (hu : A.units < cLine) (X : K.In s.heap) (I : PySem.W.InstAt s.heap x ox C od) (hm : PySem.W.mroIn K C (.type "object") = some true) (hs : PySem.W.findIn K (.ref C) "__eq__" = some (some (.builtin "object.__eq__")))
    (hq : Q (.done (.ret .notImplemented)) s) : wpAny (model prog w) A (Builtin.«object.__ne__» ⟨[.ref x, .str z t], []⟩) Q E s := by
  unfold Builtin.«object.__ne__»
  repeat (first | with_reducible refine wpAny_cRoomFor hu ?_ | with_reducible refine HN.ifBound_objEq X I hs (callE X I hm ?_) | wp_step)
  exact hq
theorem callN {Q : Value → Shared → Prop} (hu : A.units + 1 < cLine) (X : K.In s.heap) (I : PySem.W.InstAt s.heap x ox C od) (hm : PySem.W.mroIn K C (.type "object") = some true) (hs : PySem.W.findIn K (.ref C) "__eq__" = some (some (.builtin "object.__eq__"))) (hq : Q .notImplemented s) :
    wpAny (model prog w) A (call (.builtin "object.__ne__") [.ref x, .str z t]) Q E s :=
  wpAny_call (codeAny_call_builtin F.cmp_object.ne.plain F.cmpEntry_ne (PySem.W.check_slot F.cmpKind_ne F.cmpSplit_ne (I.type.andThen (PySem.W.looks_mroIn X hm)) (F.cmpArgs_ne _ _) (entryN (A := A.in1) hu X I hm hs hq)))
theorem subS : PySem.W.subIn K (.type "str") (.ref C) = some false := by
  have e : fastBuiltinMro "str" = some [.type "str", .type "object"] := by decide +kernel
  show (fastBuiltinMro "str").map (·.contains (.ref C)) = some false
  rw [e]
  first
    | rfl
    | simp
theorem strNe {Q : Fin → Shared → Prop} {dx : Addr} (I : s.heap.get? x = some (PySem.W.instObj C dx)) (hq : Q (.done (.ret .notImplemented)) s) : wpAny (model prog w) A (Builtin.«str.__ne__» ⟨[.str z t, .ref x], []⟩) Q E s := by
  obtain ⟨hp, g, d, tk, os⟩ := s
  wp_walk
  exact hq
theorem rcNe {dx : Addr} {Q : Value → Shared → Prop} (hu : A.units + 1 < cLine) (X : K.In s.heap) (I : PySem.W.InstAt s.heap x (PySem.W.instObj C dx) C od) (hm : PySem.W.mroIn K C (.type "object") = some true) (he : PySem.W.findIn K (.ref C) "__eq__" = some (some (.builtin "object.__eq__")))
    (hn : PySem.W.findIn K (.ref C) "__ne__" = some (some (.builtin "object.__ne__"))) (h : Q (.bool true) s) : wpAny (model prog w) A (richCompare .NotEq (.ref x) (.str z t)) Q E s := by
  have hu0 : A.units < cLine := Nat.lt_of_succ_lt hu
  have one : wpAny (model prog w) A (tryCompare (.ref x) "__ne__" (.str z t)) (fun r s' => r = none ∧ s' = s) E s := by
    unfold tryCompare
    exact wpAny_bind (ifBoundN X I hn (callN hu X I hm he (wpAny_pure ⟨rfl, rfl⟩)))
  have hT : s.TypeIs (.str z t) "str" := typeIs_str s z t
  have two : wpAny (model prog w) A (tryCompare (.str z t) "__ne__" (.ref x)) (fun r s' => r = none ∧ s' = s) E s :=
    wpAny_tryCompare_declines hT F.slot_str_ne_refl (wpAny_call (codeAny_call_builtin F.slot_str_ne_refl.plain F.entry_str_ne (F.slot_str_ne_refl.check _ _ _ _ _ _ _ _ hT (F.args_str_ne_2 _ _) (strNe I.at_ ⟨rfl, rfl, rfl⟩))))
  simp only [richCompare, cmpInfo_NotEq, oneThing_ref]
  refine wpAny_holding (wpAny_bind (wpAny_cRoomFor hu0 ?_))
  refine wpAny_bind (I.type.here ?_)
  refine wpAny_bind (wpAny_typeOf hT ?_)
  split
  · refine wpAny_bind ((PySem.W.looks_subIn X subS).here ?_)
    simp only [Bool.false_eq_true, if_false, Bool.not_false, if_true]
    refine wpAny_bind (m := tryCompare (.ref x) _ (.str z t)) (wpAny_mono one (fun r s1 q => ?_) fun _ _ e => e)
    obtain ⟨q1, q2⟩ := q
    subst q1 q2
    refine wpAny_bind (m := tryCompare (.str z t) _ (.ref x)) (wpAny_mono two (fun r s2 q => ?_) fun _ _ e => e)
    obtain ⟨q1, q2⟩ := q
    subst q1 q2
    exact wpAny_bind (wpAny_rule (wpAny_bind (wpAny_of_eq (rfl : isSame (.ref x) (.str z t) = pure false) (wpAny_pure h))))
  · rename_i q
    exact absurd (by simp) q
end
end NoS
namespace L2
open PySem PySem.Spec PyProof.Rows
/-- the class C has no == of its own -/
structure NoEq (K : PySem.W.Frag) (C : Addr) : Prop where
  mro : PySem.W.mroIn K C (.type "object") = some true
  eq : PySem.W.findIn K (.ref C) "__eq__" = some (some (.builtin "object.__eq__"))
  ne : PySem.W.findIn K (.ref C) "__ne__" = some (some (.builtin "object.__ne__"))
/-- x != 't', x a text or an instance -/
def rNeO (K : PySem.W.Frag) : R2 := fun x y H Q => ∃ z, y = .str z ∧ ((∃ a, x = .str a ∧ Q (.bl (!decide (V.str a = V.str z))) H) ∨ ∃ a C dx fs, x = .ref a ∧ H a = some (.ins C dx fs) ∧ NoEq K C ∧ Q (.bl true) H)
theorem op_neO {X : Cx} (hu : X.A.units + 64 < cLine) : OpR X (compareOp .NotEq) (rNeO X.K) := by
  intro pins s σ H x y v u Q I rx ry h
  obtain ⟨z, rfl, h⟩ := h
  rcases h with ⟨a, rfl, q⟩ | ⟨a, C, dx, fs, rfl, ha, N, q⟩
  · exact op_ne pins s σ H _ _ v u Q I rx ry ⟨rfl, q⟩
  · cases rx
    obtain ⟨t, rfl⟩ := ry
    obtain ⟨mA, O, _⟩ := ins_get I.hok ha
    obtain ⟨od, J, _⟩ := O.look
    exact NoS.rcNe (by omega) I.kIn J N.mro N.eq N.ne ⟨.bl true, H, I, rfl, q⟩
theorem w_neOs {K : PySem.W.Frag} {a b : Str} {H : Hp} {Q : VK} (q : Q (.bl (!decide (V.str a = V.str b))) H) : rNeO K (.str a) (.str b) H Q := ⟨b, rfl, .inl ⟨a, rfl, q⟩⟩
theorem w_neOi {K : PySem.W.Frag} {a C dx : Addr} {fs : List (Str × V)} {b : Str} {H : Hp} {Q : VK} (h : H a = some (.ins C dx fs)) (n : NoEq K C) (q : Q (.bl true) H) : rNeO K (.ref a) (.str b) H Q := ⟨b, rfl, .inr ⟨a, C, dx, fs, rfl, h, n, q⟩⟩
end L2
end

section
-- part K10M
set_option Elab.async false
set_option linter.all false
set_option maxRecDepth 100000
set_option maxHeartbeats 2000000
/-! K10M: frames, records and groups of a log; core Lean -/
namespace M10
open M5
abbrev Img := Nat × List Int
abbrev Grp := Nat × List Img
def ckStep (s : Int × Int) (b : Int) : Int × Int := ((s.1 + b) % 65521, (s.2 + (s.1 + b) % 65521) % 65521)
def ck (d : List Int) : Int × Int := d.foldl ckStep (1, 0)
def sum4 (p : List Int) : List Int := fixedL (65536 * (ck p).2 + (ck p).1) 4
def frameL (p : List Int) : List Int := fixedL (p.length : Int) 4 ++ (p ++ sum4 p)
theorem frame_len (p : List Int) : (frameL p).length = p.length + 8 := by
  simp only [frameL, sum4, List.length_append, fixed_len]
  omega
theorem drop_lt {d : List Int} {n : Nat} (h : 4 ≤ d.length) : (d.drop (n + 8)).length < d.length := by
  rw [List.length_drop]
  omega
/-- the bytes of a log's records -/
def frs (d : List Int) : List (List Int) :=
  if h : 4 ≤ d.length then
    if d.length < (fromL (d.take 4)).toNat + 8 ∨ (d.drop ((fromL (d.take 4)).toNat + 4)).take 4 ≠ sum4 ((d.drop 4).take (fromL (d.take 4)).toNat) then []
    else (d.drop 4).take (fromL (d.take 4)).toNat :: frs (d.drop ((fromL (d.take 4)).toNat + 8))
  else []
termination_by d.length
decreasing_by exact drop_lt h
inductive Rc where
  | img (n : Nat) (b : List Int)
  | fin (n : Nat)
def recO : List Int → Option Rc
  | [] => none
  | b :: r => if b = 1 ∨ b = 2 then (match nf true r with
    | none => none
    | some (m, k) => if b = 1 then some (.img m (r.drop k)) else if k = r.length then some (.fin m) else none) else none
def grs : List (List Int) → List Img → List Grp
  | [], _ => []
  | p :: ps, im => match recO p with
    | none => []
    | some (.img n b) => grs ps (im ++ [(n, b)])
    | some (.fin n) => (n, im) :: grs ps []
def imgP (i : Img) : List Int := 1 :: (nat7 i.1 ++ i.2)
def endP (n : Nat) : List Int := 2 :: nat7 n
def grpB (g : Grp) : List Int := g.2.flatMap (fun i => frameL (imgP i)) ++ frameL (endP g.1)
def logB (gs : List Grp) : List Int := gs.flatMap grpB
def Fits (p : List Int) : Prop := p.length < 256 ^ 4
theorem frs_frame {p : List Int} (h : Fits p) (r : List Int) : frs (frameL p ++ r) = p :: frs r := by
  have e4 : (frameL p ++ r).take 4 = fixedL (p.length : Int) 4 := by
    rw [frameL, List.append_assoc, List.take_append_of_le_length (by rw [fixed_len]; exact Nat.le_refl _), List.take_of_length_le (by rw [fixed_len]; exact Nat.le_refl _)]
  have hp : ((p.length : Nat) : Int) < 256 ^ 4 := by
    have h : p.length < 256 ^ 4 := h
    have e : (256 : Nat) ^ 4 = 4294967296 := by decide
    have e2 : (256 : Int) ^ 4 = 4294967296 := by decide
    omega
  have en : (fromL ((frameL p ++ r).take 4)).toNat = p.length := by
    rw [e4, from_fixed 4 _ (by omega) hp]
    rfl
  have hl := frame_len p
  have d4 : (frameL p ++ r).drop 4 = p ++ (sum4 p ++ r) := by
    rw [frameL, List.append_assoc, List.drop_append_of_le_length (by rw [fixed_len]; exact Nat.le_refl _), List.drop_of_length_le (by rw [fixed_len]; exact Nat.le_refl _)]
    simp
  have dp : ((frameL p ++ r).drop 4).take p.length = p := by rw [d4]; simp
  have ds : ((frameL p ++ r).drop (p.length + 4)).take 4 = sum4 p := by
    rw [show p.length + 4 = 4 + p.length by omega, ← List.drop_drop, d4]
    have l4 : (sum4 p).length = 4 := fixed_len _ _
    simp [l4]
  have dr : (frameL p ++ r).drop (p.length + 8) = r := by
    rw [← hl]; simp
  rw [frs, en, dp, ds, dr, dif_pos (by rw [List.length_append]; omega), if_neg]
  rintro (z | z)
  · rw [List.length_append] at z; omega
  · exact z rfl
theorem frs_short {d : List Int} (h : d.length < 4) : frs d = [] := by rw [frs, dif_neg (by omega)]
/-- a record that is cut -/
theorem frs_cut {p : List Int} (h : Fits p) (r : List Int) {k : Nat} (hk : k < p.length + 8) : frs ((frameL p ++ r).take k) = [] := by
  by_cases c : 4 ≤ k
  · have hl := frame_len p
    have e4 : ((frameL p ++ r).take k).take 4 = fixedL (p.length : Int) 4 := by
      rw [List.take_take, Nat.min_eq_left c, frameL, List.append_assoc, List.take_append_of_le_length (by rw [fixed_len]; exact Nat.le_refl _), List.take_of_length_le (by rw [fixed_len]; exact Nat.le_refl _)]
    have hp : ((p.length : Nat) : Int) < 256 ^ 4 := by
      have h : p.length < 256 ^ 4 := h
      have e : (256 : Nat) ^ 4 = 4294967296 := by decide
      have e2 : (256 : Int) ^ 4 = 4294967296 := by decide
      omega
    have en : (fromL (((frameL p ++ r).take k).take 4)).toNat = p.length := by
      rw [e4, from_fixed 4 _ (by omega) hp]
      rfl
    rw [frs, en]
    split
    · rw [if_pos (.inl (by rw [List.length_take]; omega))]
    · rfl
  · exact frs_short (by rw [List.length_take]; omega)
def okI (i : Img) : Prop := Fits (imgP i)
def okG (g : Grp) : Prop := (∀ i ∈ g.2, okI i) ∧ Fits (endP g.1)
def recsG (g : Grp) : List (List Int) := g.2.map imgP ++ [endP g.1]
theorem rec_img (i : Img) : recO (imgP i) = some (.img i.1 i.2) := by
  simp [recO, imgP, nf_nat7 i.1 true i.2 (.inl rfl)]
theorem rec_end (n : Nat) : recO (endP n) = some (.fin n) := by
  have := nf_nat7 n true [] (.inl rfl)
  rw [List.append_nil] at this
  simp [recO, endP, this]
theorem grs_imgs : ∀ (is : List Img) (ps : List (List Int)) (im : List Img), grs (is.map imgP ++ ps) im = grs ps (im ++ is)
  | [], ps, im => by simp
  | i :: is, ps, im => by
    rw [List.map_cons, List.cons_append, grs, rec_img]
    show grs (is.map imgP ++ ps) (im ++ [(i.1, i.2)]) = _
    rw [grs_imgs is ps]
    simp
theorem grs_group (g : Grp) (ps : List (List Int)) : grs (recsG g ++ ps) [] = g :: grs ps [] := by
  rw [recsG, List.append_assoc, grs_imgs, List.nil_append, List.singleton_append, grs, rec_end]
/-- the whole log -/
theorem frs_imgs : ∀ (is : List Img) (r : List Int), (∀ i ∈ is, okI i) → frs (is.flatMap (fun i => frameL (imgP i)) ++ r) = is.map imgP ++ frs r
  | [], r, _ => rfl
  | i :: is, r, h => by
    rw [List.flatMap_cons, List.append_assoc, frs_frame (h i List.mem_cons_self), frs_imgs is r fun j hj => h j (List.mem_cons_of_mem _ hj)]
    rfl
theorem frs_group {g : Grp} (h : okG g) (r : List Int) : frs (grpB g ++ r) = recsG g ++ frs r := by
  rw [grpB, List.append_assoc, frs_imgs _ _ h.1, frs_frame h.2, recsG]
  simp
theorem frs_log : ∀ {gs : List Grp} (r : List Int), (∀ g ∈ gs, okG g) → frs (logB gs ++ r) = gs.flatMap recsG ++ frs r
  | [], r, _ => rfl
  | g :: gs, r, h => by
    show frs (grpB g ++ logB gs ++ r) = _
    rw [List.append_assoc, frs_group (h g List.mem_cons_self), frs_log r fun j hj => h j (List.mem_cons_of_mem _ hj), List.flatMap_cons, List.append_assoc]
theorem grs_log : ∀ (gs : List Grp) (ps : List (List Int)), grs (gs.flatMap recsG ++ ps) [] = gs ++ grs ps []
  | [], ps => rfl
  | g :: gs, ps => by
    rw [List.flatMap_cons, List.append_assoc, grs_group, grs_log gs ps]
    rfl
theorem read_log {gs : List Grp} (h : ∀ g ∈ gs, okG g) : grs (frs (logB gs)) [] = gs := by
  have := frs_log (gs := gs) [] h
  rw [List.append_nil, frs_short (d := []) (by decide), List.append_nil] at this
  have g2 := grs_log gs []
  rw [List.append_nil] at g2
  rw [this, g2]
  exact List.append_nil gs
/-- a log that is cut -/
theorem grs_imgs_cut : ∀ (is : List Img) (n : Nat) (r : List Int) (im : List Img) (k : Nat), (∀ i ∈ is, okI i) → Fits (endP n) → k < (is.flatMap (fun i => frameL (imgP i)) ++ frameL (endP n)).length →
    grs (frs ((is.flatMap (fun i => frameL (imgP i)) ++ frameL (endP n) ++ r).take k)) im = []
  | [], n, r, im, k, _, hn, hk => by
    rw [List.flatMap_nil, List.nil_append] at hk ⊢
    rw [frs_cut hn r (by rw [← frame_len]; exact hk)]
    rfl
  | i :: is, n, r, im, k, h, hn, hk => by
    have hi := h i List.mem_cons_self
    rw [List.flatMap_cons, List.append_assoc, List.append_assoc] at *
    by_cases c : k < (imgP i).length + 8
    · rw [frs_cut hi _ c]
      rfl
    · have hl := frame_len (imgP i)
      obtain ⟨j, rfl⟩ : ∃ j, k = (frameL (imgP i)).length + j := ⟨k - (frameL (imgP i)).length, by omega⟩
      rw [List.take_length_add_append, frs_frame hi, grs, rec_img]
      show grs _ (im ++ [(i.1, i.2)]) = []
      rw [← List.append_assoc]
      refine grs_imgs_cut is n r _ j (fun x hx => h x (List.mem_cons_of_mem _ hx)) hn ?_
      rw [List.length_append] at hk
      omega
def cutG : List Grp → Nat → List Grp
  | [], _ => []
  | g :: gs, c => if (grpB g).length ≤ c then g :: cutG gs (c - (grpB g).length) else []
theorem read_cut : ∀ {gs : List Grp} (c : Nat), (∀ g ∈ gs, okG g) → grs (frs ((logB gs).take c)) [] = cutG gs c
  | [], c, _ => by
    rw [show (logB []).take c = [] by simp [logB], frs_short (by decide)]
    rfl
  | g :: gs, c, h => by
    have hg := h g List.mem_cons_self
    show grs (frs ((grpB g ++ logB gs).take c)) [] = _
    rw [cutG]
    split
    · rename_i hc
      obtain ⟨j, rfl⟩ : ∃ j, c = (grpB g).length + j := ⟨c - (grpB g).length, by omega⟩
      rw [List.take_length_add_append, frs_group hg, grs_group, read_cut j fun x hx => h x (List.mem_cons_of_mem _ hx)]
      rw [show (grpB g).length + j - (grpB g).length = j by omega]
    · rename_i hc
      exact grs_imgs_cut g.2 g.1 _ [] c hg.1 hg.2 (by show c < (grpB g).length; omega)
/-- as the law reads -/
def lrd (d : List Int) (im : List Img) : List Grp :=
  if h : 8 ≤ d.length then
    if d.length < (fromL (d.take 4)).toNat + 8 ∨ sum4 ((d.drop 4).take (fromL (d.take 4)).toNat) ≠ (d.drop ((fromL (d.take 4)).toNat + 4)).take 4 then []
    else match recO ((d.drop 4).take (fromL (d.take 4)).toNat) with
      | none => []
      | some (.img n b) => lrd (d.drop ((fromL (d.take 4)).toNat + 8)) (im ++ [(n, b)])
      | some (.fin n) => (n, im) :: lrd (d.drop ((fromL (d.take 4)).toNat + 8)) []
  else []
termination_by d.length
decreasing_by all_goals exact drop_lt (by omega)
theorem lrd_eq (d : List Int) (im : List Img) : lrd d im = grs (frs d) im := by
  generalize hn : d.length = n
  induction n using Nat.strongRecOn generalizing d im with
  | _ n ih =>
    rw [lrd, frs]
    by_cases c8 : 8 ≤ d.length
    · rw [dif_pos c8, dif_pos (by omega : 4 ≤ d.length)]
      by_cases c : d.length < (fromL (d.take 4)).toNat + 8 ∨ (d.drop ((fromL (d.take 4)).toNat + 4)).take 4 ≠ sum4 ((d.drop 4).take (fromL (d.take 4)).toNat)
      · rw [if_pos c, if_pos (c.imp id fun z => Ne.symm z)]
        rfl
      · rw [if_neg c, if_neg (fun z => c (z.imp id fun z => Ne.symm z)), grs]
        have hlt := drop_lt (d := d) (n := (fromL (d.take 4)).toNat) (by omega)
        cases recO ((d.drop 4).take (fromL (d.take 4)).toNat) with
        | none => rfl
        | some r =>
          cases r with
          | img n b => exact ih _ (by omega) _ _ rfl
          | fin n =>
            show (n, im) :: _ = (n, im) :: _
            rw [ih _ (by omega) _ _ rfl]
    · rw [dif_neg c8]
      split
      · rw [if_pos (.inl (by omega))]
        rfl
      · rfl
end M10
end

section
-- part Gk
set_option Elab.async false
set_option linter.all false
set_option maxRecDepth 100000
set_option maxHeartbeats 2000000
/-! Gk: what the laws share: ints as data, slices, heaps -/
namespace Gk
open PySem PySem.Spec PyProof.Rows L2 Fw M5 M10 LamX
section
variable {P : Program} {w : World} {K : PySem.W.Frag} {mg : Str → Option Value} {base : Heap} {X : Cx} {σ : L2.St} {H : Hp} {Q : VK} {a b : Addr} {d e : List Int} {te : TE} {vs : List Nat} {tt : TT} {g : TG} {ta : TA}
def Cin (mg : Str → Option Value) (x : Str) (n : Int) : Prop := ∃ u, mg x = some u ∧ RelV (.int n) u
structure Ex (K : PySem.W.Frag) (mg : Str → Option Value) (x : Str) (C : Addr) : Prop where
  ox : PySem.W.excIn K C [.type "ValueError", .type "Exception", .type "BaseException", .type "object"] "ValueError.__new__" = true
  og : mg x = some (.ref C)
  ok : PySem.W.keepIn K (.ref C) = true
  ob : PySem.W.subIn K (.ref C) (.type "BaseException") = some true
  ot : PySem.W.typeIn K (.ref C) = some (.type "type")
theorem same_upd {H H' : Hp} {L : Addr} {o : HO} (s : Same H H') (hL : H L = none) : Same H (upd H' L o) := fun b u e => by rw [upd_ne (ne_of_none e hL)]; exact s _ _ e
/-- a new tuple of ints -/
def GivesT (H : Hp) (Q : VK) (d : List Int) : Prop := ∀ (p : Addr) (H' : Hp), Same H H' → H p = none → H' p = some (.tup (d.map V.int)) → Q (.ref p) H'
def spFixed : Sp := fun vs H Q _ => ∃ (n : Int) (k : Nat), vs = [.int n, .int (k : Int)] ∧ k ≤ 64 ∧ GivesT H Q (fixedL n k)
def spNumF (K : PySem.W.Frag) : Sp := fun vs H Q _ => ∃ (a : Addr) (d : List Int), vs = [.ref a] ∧ SqT K H a (d.map V.int) ∧ Q (.int (fromL d)) H
theorem fromL_take {d : List Int} {i : Nat} {b : Int} (h : d[i]? = some b) : fromL (d.take (i + 1)) = fromL (d.take i) * 256 + b := by
  rw [List.take_add_one, h]
  exact fromL_snoc _ _
theorem ints_get {d : List Int} {i : Nat} {x : V} (h : (d.map V.int)[i]? = some x) : ∃ b, d[i]? = some b ∧ x = .int b := by
  rw [List.getElem?_map] at h
  cases e : d[i]? with
  | none => rw [e] at h; cases h
  | some b => rw [e] at h; exact ⟨b, rfl, (Option.some.inj h).symm⟩
/-- a new pair (value, place) -/
def Pair (H : Hp) (Q : VK) (v : V) (e : Nat) : Prop := ∀ (q : Addr) (H' : Hp), Same H H' → H q = none → H' q = some (.tup [v, .int (e : Int)]) → Q (.ref q) H'
def Fails (H : Hp) (E : XK) (C : Addr) : Prop := ∀ H', Same H H' → E (.ref C) none H'
theorem int_get {d : List Int} {i : Nat} {b : Int} (h : d[i]? = some b) : atI (d.map V.int) (i : Int) = some (.int b) := atI_nat (by rw [List.getElem?_map, h]; rfl)
theorem w_ixT {K : PySem.W.Frag} {a : Addr} {d : List Int} {i : Nat} {b : Int} {H : Hp} {Q : VK} (hS : SqT K H a (d.map V.int)) (h : d[i]? = some b) (q : Q (.int b) H) : rIxT K (.ref a) (.int (i : Int)) H Q := ⟨a, _, _, _, rfl, rfl, hS, int_get h, q⟩
theorem w_lenT {K : PySem.W.Frag} {a : Addr} {d : List Int} {H : Hp} {R : V → Hp → Prop} (hS : SqT K H a (d.map V.int)) (q : R (.int (d.length : Int)) H) : ∃ p xs, [V.ref a] = [.ref p] ∧ (SqL K H p xs ∨ SqT K H p xs) ∧ R (.int (xs.length : Int)) H :=
  ⟨a, d.map V.int, rfl, .inr hS, by rw [List.length_map]; exact q⟩
def spNat : Sp := fun vs H Q _ => ∃ n : Nat, vs = [.int (n : Int)] ∧ n < 128 ^ 200 ∧ GivesT H Q (nat7 n)
theorem ck_gen : ∀ (d : List Int) (a b : Int), d.foldl ckStep (a % 65521, b % 65521) = ((a + d.sum) % 65521, (b + d.length * a + accI 0 d) % 65521)
  | [], a, b => by simp [accI]
  | x :: r, a, b => by
    have e : ckStep (a % 65521, b % 65521) x = ((a + x) % 65521, (b + (a + x)) % 65521) := by
      unfold ckStep
      congr 1 <;> omega
    rw [List.foldl_cons, e, ck_gen r (a + x) (b + (a + x)), List.sum_cons]
    have e2 : accI 0 (x :: r) = x + (r.length * x + accI 0 r) := by
      show 0 + x + accI (0 + x) r = _
      rw [accI_add (0 + x) r, Int.zero_add]
    rw [e2, List.length_cons, Int.natCast_add, Int.add_mul, Int.mul_add, Int.natCast_one, Int.one_mul]
    congr 1 <;> congr 1 <;> omega
theorem ck_sums (d : List Int) : ck d = ((1 + d.sum) % 65521, ((d.length : Int) + accI 0 d) % 65521) := by
  have := ck_gen d 1 0
  rw [Int.mul_one, Int.zero_add] at this
  exact this
theorem sqT_same {H H' : Hp} {a : Addr} {xs : List V} (h : SqT K H a xs) (s : Same H H') : SqT K H' a xs := by
  rcases h with (h | ⟨o, h⟩) | h
  · exact .inl (.inl (s _ _ h))
  · exact .inl (.inr ⟨o, s _ _ h⟩)
  · exact .inr h
theorem sqL_same {H H' : Hp} {a : Addr} {xs : List V} (h : SqL K H a xs) (s : Same H H') : SqL K H' a xs := by
  rcases h with (h | ⟨o, h⟩) | h
  · exact .inl (.inl (s _ _ h))
  · exact .inl (.inr ⟨o, s _ _ h⟩)
  · exact .inr h
theorem w_gtupS {n : Nat} {t : TGs} {xs : List V} {Q : L2.St → Hp → Prop} (h : SqT K H a xs) (hn : xs.length = n) (q : t xs σ H Q) : gTup K n t (.ref a) σ H Q := ⟨a, xs, rfl, h, hn, q⟩
theorem sqT_ex {H H' : Hp} {a : Addr} {xs : List V} (h : SqT K H a xs) (s : ExtN H H') : SqT K H' a xs := by
  rcases h with (h | ⟨o, h⟩) | h
  · exact .inl (.inl (s _ _ h (fun ps e => by cases e)))
  · exact .inl (.inr ⟨o, s _ _ h (fun ps e => by cases e)⟩)
  · exact .inr h
theorem sqL_ex {H H' : Hp} {a : Addr} {xs : List V} (h : SqL K H a xs) (s : ExtN H H') : SqL K H' a xs := by
  rcases h with (h | ⟨o, h⟩) | h
  · exact .inl (.inl (s _ _ h (fun ps e => by cases e)))
  · exact .inl (.inr ⟨o, s _ _ h (fun ps e => by cases e)⟩)
  · exact .inr h
theorem lenR {xs : List Int} {f : Int → V} : (xs.map f).length = xs.length := List.length_map ..
theorem ints_shaped (ns : List Int) : SeqAt.shaped (.tuple (ns.map PyData.int)) = true := by
  have h1 : PyData.canLayAll0 (ns.map PyData.int) = true := by
    induction ns with
    | nil => rfl
    | cons n r ih => rw [List.map_cons, PyData.canLayAll0, ih]; rfl
  have h2 : PyData.depthAll (ns.map PyData.int) ≤ 1 := by
    induction ns with
    | nil => simp [PyData.depthAll]
    | cons n r ih =>
      have h3 := ih (by rw [List.map_cons, PyData.canLayAll0, Bool.and_eq_true] at h1; exact h1.2)
      simp only [List.map_cons, PyData.depthAll, PyData.depth]
      omega
  unfold SeqAt.shaped
  rw [Bool.and_eq_true]
  refine ⟨h1, decide_eq_true ?_⟩
  simp only [PyData.depth]
  omega
theorem ints_eqv : ∀ ns ms : List Int, PyData.eqvAll (ns.map PyData.int) (ms.map PyData.int) = decide (ns = ms)
  | [], [] => rfl
  | n :: r, [] => by simp [PyData.eqvAll]
  | [], m :: t => by simp [PyData.eqvAll]
  | n :: r, m :: t => by
    rw [List.map_cons, List.map_cons, PyData.eqvAll, ints_eqv r t, PyData.eqv]
    by_cases c : n = m <;> by_cases c2 : r = t <;> simp [c, c2]
theorem w_neInts (ha : SqT K H a (d.map V.int)) (hb : SqT K H b (e.map V.int)) (q : Q (.bl (!decide (d = e))) H) : rNeD K (.ref a) (.ref b) H Q :=
  ⟨_, _, .tup ha (dp_ints d), .tup hb (dp_ints e), ints_shaped d, ints_shaped e, by
    show Q (.bl (!PyData.eqvAll (d.map PyData.int) (e.map PyData.int))) H
    rw [ints_eqv]
    exact q⟩
theorem cut_mid (xs : List V) {i j : Nat} : cutV xs (some (i : Int)) (some (j : Int)) = (xs.drop i).take (j - i) := by
  unfold cutV
  rw [HT.sIx_nat, HT.sIx_nat]
  by_cases h : i ≤ xs.length
  · rw [Nat.min_eq_left h]
    by_cases h2 : j ≤ xs.length
    · rw [Nat.min_eq_left h2]
    · rw [Nat.min_eq_right (by omega), List.take_of_length_le (by rw [List.length_drop]; omega), List.take_of_length_le (by rw [List.length_drop]; omega)]
  · rw [Nat.min_eq_right (by omega : xs.length ≤ i), List.drop_eq_nil_of_le (Nat.le_refl _), List.drop_eq_nil_of_le (by omega), List.take_nil, List.take_nil]
theorem w_slMid {i j : Nat} (e : SqT K H a (d.map V.int)) (q : ∀ p H', Same H H' → SqT K H' p (((d.drop i).take (j - i)).map V.int) → Q (.ref p) H') : rSlA K (.ref a) (some (i : Int)) (some (j : Int)) H Q := by
  refine ⟨a, _, rfl, e, fun hw => ?_, fun _ p hp => ?_⟩
  · rw [HT.sIx_nat, HT.sIx_nat, List.length_map] at hw
    have : (d.drop i).take (j - i) = d := by
      by_cases c : d.length = 0
      · rw [List.eq_nil_of_length_eq_zero c]; simp
      · obtain rfl : i = 0 := by omega
        rw [List.drop_zero, List.take_of_length_le (by omega)]
    refine q a H (Same.refl H) ?_
    rw [this]
    exact e
  · refine q p _ (same_new hp _) (SqT.of ?_)
    rw [upd_same, cut_mid, List.map_take, List.map_drop]
def Tups (H : Hp) : List Addr → List (List Int) → Prop := Paired fun z p => H z = some (.tup (p.map V.int))
def TupsK (K : PySem.W.Frag) (H : Hp) : List Addr → List (List Int) → Prop := Paired fun z p => SqT K H z (p.map V.int)
theorem TupsK.sm {H H' : Hp} (s : Same H H') : ∀ {zs : List Addr} {ps : List (List Int)}, TupsK K H zs ps → TupsK K H' zs ps
  | _, _, .nil => .nil
  | _, _, .cons h r => .cons (sqT_same h s) (TupsK.sm s r)
/-- the object L alone is another list -/
theorem sqT_wr {H : Hp} {L a : Addr} {xs ys : List V} {o : HO} (h : SqT K H a xs) (hL : H L = some (.lst ys)) : SqT K (upd H L o) a xs := by
  rcases h with (h | ⟨u, h⟩) | h
  · exact .inl (.inl (by rw [upd_ne (fun z => by rw [z, hL] at h; cases h)]; exact h))
  · exact .inl (.inr ⟨u, by rw [upd_ne (fun z => by rw [z, hL] at h; cases h)]; exact h⟩)
  · exact .inr h
theorem TupsK.wr {H : Hp} {L : Addr} {ys : List V} {o : HO} (hL : H L = some (.lst ys)) : ∀ {zs : List Addr} {ps : List (List Int)}, TupsK K H zs ps → TupsK K (upd H L o) zs ps
  | _, _, .nil => .nil
  | _, _, .cons h r => .cons (sqT_wr h hL) (TupsK.wr hL r)
theorem map_get {α : Type} {f : α → V} {l : List α} {i : Nat} {x : V} (h : (l.map f)[i]? = some x) : ∃ b, l[i]? = some b ∧ x = f b := by
  rw [List.getElem?_map] at h
  cases e : l[i]? with
  | none => rw [e] at h; cases h
  | some b => rw [e] at h; exact ⟨b, rfl, (Option.some.inj h).symm⟩
theorem cut_drop {xs : List V} {n : Nat} : cutV xs (some (n : Int)) none = xs.drop n := by
  unfold cutV
  rw [HT.sIx_nat, HT.sIx_none]
  by_cases h : n ≤ xs.length
  · rw [Nat.min_eq_left h, List.take_of_length_le (by rw [List.length_drop]; omega)]
  · rw [Nat.min_eq_right (by omega), List.drop_eq_nil_of_le (Nat.le_refl _), List.drop_eq_nil_of_le (by omega)]
    exact List.take_nil
theorem w_slFrom {a : Addr} {d : List Int} {n : Nat} {H : Hp} {Q : VK} (e : SqT K H a (d.map V.int)) (q : ∀ p H', Same H H' → SqT K H' p ((d.drop n).map V.int) → Q (.ref p) H') : rSlA K (.ref a) (some (n : Int)) none H Q := by
  refine ⟨a, _, rfl, e, fun hw => ?_, fun _ p hp => ?_⟩
  · rw [HT.sIx_nat, List.length_map] at hw
    refine q a H (Same.refl H) ?_
    have : d.drop n = d := by
      by_cases c : d.length = 0
      · rw [List.eq_nil_of_length_eq_zero c]; simp
      · obtain rfl : n = 0 := by omega
        rfl
    rw [this]
    exact e
  · refine q p _ (same_new hp _) (SqT.of ?_)
    rw [upd_same, cut_drop, List.map_drop]
theorem tup_wr {H : Hp} {L a : Addr} {xs ys : List V} {o : HO} (h : H a = some (.tup xs)) (hL : H L = some (.lst ys)) : (upd H L o) a = some (.tup xs) := by
  rw [upd_ne (fun z => by rw [z, hL] at h; cases h)]
  exact h
theorem sum_eq (f s : Int) (hf : 0 ≤ f ∧ f < 65521) (hs : 0 ≤ s ∧ s < 65521) : fixedL (65536 * s + f) 4 = [(s * 65536 + f) / 16777216 % 256, (s * 65536 + f) / 65536 % 256, (s * 65536 + f) / 256 % 256, (s * 65536 + f) % 256] := by
  simp only [fixedL, List.nil_append, List.cons_append]
  congr 1
  · omega
  congr 1
  · omega
  congr 1
  · omega
  congr 1
  omega
theorem ck_take {d : List Int} {i : Nat} {b : Int} (h : d[i]? = some b) : ck (d.take (i + 1)) = ckStep (ck (d.take i)) b := by
  rw [List.take_add_one, h]
  simp [ck]
theorem ck_b (d : List Int) : (0 ≤ (ck d).1 ∧ (ck d).1 < 65521) ∧ 0 ≤ (ck d).2 ∧ (ck d).2 < 65521 := by
  rw [← List.reverse_reverse d]
  generalize d.reverse = e
  induction e with
  | nil => exact ⟨⟨by decide, by decide⟩, by decide, by decide⟩
  | cons b e ih =>
    rw [List.reverse_cons]
    have : ck (e.reverse ++ [b]) = ckStep (ck e.reverse) b := by simp [ck]
    rw [this]
    simp only [ckStep]
    omega
theorem len4 (n : Nat) (h : n ≤ 900) : fixedL (n : Int) 4 = [(n : Int) / 16777216, (n : Int) / 65536 % 256, (n : Int) / 256 % 256, (n : Int) % 256] := by
  simp only [fixedL, List.nil_append, List.cons_append]
  have h1 : (n : Int) / 256 / 256 / 256 % 256 = (n : Int) / 16777216 := by omega
  have h2 : (n : Int) / 256 / 256 % 256 = (n : Int) / 65536 % 256 := by omega
  rw [h1, h2]
theorem w_catInts {a b : Addr} {d e : List Int} {H : Hp} {Q : VK} (ha : SqT K H a (d.map V.int)) (hb : SqT K H b (e.map V.int)) (hl : d.length + e.length ≤ 2000) (q : ∀ p H', Same H H' → SqT K H' p ((d ++ e).map V.int) → Q (.ref p) H') : rCatA K (.ref a) (.ref b) H Q := by
  refine ⟨a, b, _, _, rfl, rfl, ha, hb, ?_, fun z => ?_, fun _ z => ?_, fun _ _ p hp => ?_⟩
  · rw [List.length_map, List.length_map]
    exact Nat.le_trans hl (by decide)
  · have := List.map_eq_nil_iff.mp z
    subst this
    exact q b H (Same.refl H) hb
  · have := List.map_eq_nil_iff.mp z
    subst this
    rw [List.append_nil] at q
    exact q a H (Same.refl H) ha
  · exact q p _ (same_new hp _) (SqT.of (by rw [upd_same, List.map_append]))
/-- a tuple of ints, new or not -/
def GivesS (K : PySem.W.Frag) (H : Hp) (Q : VK) (d : List Int) : Prop := ∀ p H', Same H H' → SqT K H' p (d.map V.int) → Q (.ref p) H'
def spSum (K : PySem.W.Frag) : Sp := fun vs H Q _ => ∃ (a : Addr) (d : List Int), vs = [.ref a] ∧ SqT K H a (d.map V.int) ∧ GivesT H Q (sum4 d)
theorem w_break {D : Ends} {σ : L2.St} {H : Hp} (h : D.bk σ H) : tBreak D σ H := h
theorem sums_eq (f s : Int) (hf : 0 ≤ f ∧ f < 65521) (hs : 0 ≤ s ∧ s < 65521) : fixedL (65536 * s + f) 4 = [s / 256, s % 256, f / 256, f % 256] := by
  simp only [fixedL, List.nil_append, List.cons_append]
  have h1 : (65536 * s + f) / 256 / 256 / 256 % 256 = s / 256 := by omega
  have h2 : (65536 * s + f) / 256 / 256 % 256 = s % 256 := by omega
  have h3 : (65536 * s + f) / 256 % 256 = f / 256 := by omega
  have h4 : (65536 * s + f) % 256 = f % 256 := by omega
  rw [h1, h2, h3, h4]
theorem w_par3 {i j l : Nat} {ta : TA} {D : Ends} {σ : L2.St} {H : Hp} (h : ta σ H fun vs H1 => ∃ u v w, vs = [u, v, w] ∧ D.nx (((σ.set i (some u)).set j (some v)).set l (some w)) H1) : tPar3 i j l ta D σ H := h
theorem w_ixZ {a : Addr} {d : List Int} {i : Nat} {b z : Int} {H : Hp} {Q : VK} (hS : SqT K H a (d.map V.int)) (hz : z = (i : Int)) (h : d[i]? = some b) (q : Q (.int b) H) : rIxT K (.ref a) (.int z) H Q := by
  subst hz
  exact w_ixT hS h q
theorem w_slZ {a : Addr} {d : List Int} {i j : Nat} {x y : Int} {H : Hp} {Q : VK} (e : SqT K H a (d.map V.int)) (hx : x = (i : Int)) (hy : y = (j : Int)) (q : ∀ p H', Same H H' → SqT K H' p (((d.drop i).take (j - i)).map V.int) → Q (.ref p) H') : rSlA K (.ref a) (some x) (some y) H Q := by
  subst hx hy
  exact w_slMid e q
theorem w_eqInts {a b : Addr} {d e : List Int} {H : Hp} {Q : VK} (ha : SqT K H a (d.map V.int)) (hb : SqT K H b (e.map V.int)) (q : Q (.bl (decide (d = e))) H) : rEqD K (.ref a) (.ref b) H Q :=
  ⟨_, _, .tup ha (dp_ints d), .tup hb (dp_ints e), ints_shaped d, ints_shaped e, by
    show Q (.bl (PyData.eqvAll (d.map PyData.int) (e.map PyData.int))) H
    rw [ints_eqv]
    exact q⟩
theorem w_catL {a b : Addr} {xs ys : List V} {H : Hp} {Q : VK} (ha : H a = some (.lst xs)) (hb : H b = some (.lst ys)) (hl : xs.length + ys.length ≤ 2000) (q : ∀ p, H p = none → Q (.ref p) (upd H p (.lst (xs ++ ys)))) : rCat (.ref a) (.ref b) H Q :=
  ⟨a, b, xs, ys, rfl, rfl, ha, hb, Nat.le_trans hl (by decide), q⟩
theorem in12 (b : Int) : inV (.int b) [.int 1, .int 2] = decide (b = 1 ∨ b = 2) := by
  by_cases c3 : b = 1
  · subst c3; rfl
  · by_cases c4 : b = 2
    · subst c4; rfl
    · rw [decide_eq_false (by omega)]
      show ((1 == b) || ((2 == b) || false)) = false
      rw [beq_eq_false_iff_ne.mpr (fun z => c3 z.symm), beq_eq_false_iff_ne.mpr (fun z => c4 z.symm)]
      rfl
/-- all objects but lists are kept -/
def Tk (H H' : Hp) : Prop := ∀ b u, H b = some u → (∀ zs, u ≠ .lst zs) → H' b = some u
theorem Tk.of {H H' : Hp} (s : Same H H') : Tk H H' := fun b u e _ => s b u e
theorem Tk.kp {d : Addr} {H H' : Hp} (k : Kp d H H') (h : Dice H d) : Tk H H' := fun b u e n => k b u (fun z => by
  obtain ⟨x, y, z', q⟩ := h
  rw [z, q] at e
  cases e
  exact n _ rfl) e
theorem Tk.wr {L : Addr} {H : Hp} {zs : List V} {o : HO} (h : H L = some (.lst zs)) : Tk H (upd H L o) := fun b u e n => by
  rw [upd_ne (fun z => by rw [z, h] at e; cases e; exact n _ rfl)]
  exact e
theorem Tk.trans {H H1 H2 : Hp} (a : Tk H H1) (b : Tk H1 H2) : Tk H H2 := fun c u e n => b c u (a c u e n) n
theorem sqT_tk {K : PySem.W.Frag} {H H' : Hp} {a : Addr} {xs : List V} (h : SqT K H a xs) (s : Tk H H') : SqT K H' a xs := by
  rcases h with (h | ⟨o, h⟩) | h
  · exact .inl (.inl (s _ _ h (fun zs e => by cases e)))
  · exact .inl (.inr ⟨o, s _ _ h (fun zs e => by cases e)⟩)
  · exact .inr h
theorem tup_tk {H H' : Hp} {a : Addr} {xs : List V} (h : H a = some (.tup xs)) (s : Tk H H') : H' a = some (.tup xs) := s _ _ h (fun zs e => by cases e)
theorem Kp.wr {d L : Addr} {H0 Hc : Hp} {o : HO} (k : Kp d H0 Hc) (h : H0 L = none) : Kp d H0 (upd Hc L o) := fun b u n e => by
  rw [upd_ne (ne_of_none e h)]
  exact k b u n e
theorem Dice.wr {d L : Addr} {Hc : Hp} {o : HO} (k : Dice Hc d) (h : L ≠ d) : Dice (upd Hc L o) d := by
  obtain ⟨a, b, c, e⟩ := k
  exact ⟨a, b, c, by rw [upd_ne h.symm]; exact e⟩
theorem Dice.sm {H H' : Hp} {d : Addr} (h : Dice H d) (s : Same H H') : Dice H' d := by
  obtain ⟨a, b, c, e⟩ := h
  exact ⟨a, b, c, s _ _ e⟩
theorem all_lay {ds : List PyData} (h : ∀ d ∈ ds, d.canLay0 = true) : PyData.canLayAll0 ds = true := by
  induction ds with
  | nil => rfl
  | cons d r ih => rw [PyData.canLayAll0, h d List.mem_cons_self, ih fun x hx => h x (List.mem_cons_of_mem _ hx)]; rfl
theorem all_depth {ds : List PyData} {k : Nat} (h : ∀ d ∈ ds, d.depth ≤ k) : PyData.depthAll ds ≤ k := by
  induction ds with
  | nil => simp [PyData.depthAll]
  | cons d r ih =>
    have h1 := h d List.mem_cons_self
    have h2 := ih fun x hx => h x (List.mem_cons_of_mem _ hx)
    rw [PyData.depthAll]
    omega
theorem all_eqv {ds : List PyData} (h : ∀ d ∈ ds, PyData.eqv d d = true) : PyData.eqvAll ds ds = true := by
  induction ds with
  | nil => rfl
  | cons d r ih => rw [PyData.eqvAll, h d List.mem_cons_self, ih fun x hx => h x (List.mem_cons_of_mem _ hx)]; rfl
/-- what may be compared with itself -/
def Fine (k : Nat) (d : PyData) : Prop := d.canLay0 = true ∧ d.depth ≤ k ∧ PyData.eqv d d = true
theorem Fine.int (n : Int) : Fine 0 (.int n) := ⟨rfl, by simp [PyData.depth], by simp [PyData.eqv]⟩
theorem Fine.le {j k : Nat} {d : PyData} (h : Fine j d) (hk : j ≤ k) : Fine k d := ⟨h.1, Nat.le_trans h.2.1 hk, h.2.2⟩
theorem Fine.tup {k : Nat} {ds : List PyData} (h : ∀ d ∈ ds, Fine k d) : Fine (k + 1) (.tuple ds) := by
  refine ⟨all_lay fun d hd => (h d hd).1, ?_, all_eqv fun d hd => (h d hd).2.2⟩
  have := all_depth fun d hd => (h d hd).2.1
  rw [PyData.depth]
  omega
theorem Fine.lst {k : Nat} {ds : List PyData} (h : ∀ d ∈ ds, Fine k d) : Fine (k + 1) (.list ds) := by
  refine ⟨all_lay fun d hd => (h d hd).1, ?_, all_eqv fun d hd => (h d hd).2.2⟩
  have := all_depth fun d hd => (h d hd).2.1
  rw [PyData.depth]
  omega
theorem Fine.shaped {k : Nat} {d : PyData} (h : Fine k d) (hk : k ≤ 64) : SeqAt.shaped d = true := by
  unfold SeqAt.shaped
  rw [Bool.and_eq_true]
  exact ⟨h.1, decide_eq_true (Nat.le_trans h.2.1 hk)⟩
theorem fine_ints (ns : List Int) : Fine 1 (.tuple (ns.map PyData.int)) := Fine.tup fun d hd => by
  obtain ⟨n, _, rfl⟩ := List.mem_map.mp hd
  exact Fine.int n
theorem byt_app {a b : List Int} (ha : Byt a) (hb : Byt b) : Byt (a ++ b) := fun x hx => (List.mem_append.mp hx).elim (ha x) (hb x)
theorem byt_take {a : List Int} (h : Byt a) (k : Nat) : Byt (a.take k) := fun b hb => h b (List.mem_of_mem_take hb)
theorem byt_cons {x : Int} {a : List Int} (hx : 0 ≤ x ∧ x < 256) (ha : Byt a) : Byt (x :: a) := fun b hb => by
  rcases List.mem_cons.mp hb with rfl | hb
  · exact hx
  · exact ha b hb
theorem flat_byt {α : Type} {f : α → List Int} : ∀ {l : List α}, (∀ x ∈ l, Byt (f x)) → Byt (l.flatMap f)
  | [], _ => fun b hb => by cases hb
  | x :: r, h => by
    rw [List.flatMap_cons]
    exact byt_app (h x List.mem_cons_self) (flat_byt fun y hy => h y (List.mem_cons_of_mem _ hy))
theorem w_iEnum {R : It → Hp → Prop} (h : ta σ H fun vs H1 => ∃ a xs, vs = [.ref a] ∧ SqL K H1 a xs ∧ R (Ite K a) H1) : iEnum K ta σ H R := h
/-- a comprehension over enumerate of a list -/
theorem w_lcEn {p : Addr} {xs : List V} {R : Addr → Hp → Prop} (hS : SqL K H p xs) (h : ∀ D, H D = none → ∃ Pv : Nat → Hp → Prop, Pv 0 (upd H D (.lst [])) ∧ (∀ i H2, i ≤ xs.length → Pv i H2 → SqL K H2 p xs) ∧
      (∀ (i : Nat) x T H2, xs[i]? = some x → Pv i H2 → H2 T = none → g (.ref T) (wipe σ vs) (upd H2 T (.tup [.int (i : Nat), x])) fun σ2 H2 => wipe σ2 vs = wipe σ vs ∧ tt σ2 H2 fun b H3 =>
        if b = true then te σ2 H3 fun y H4 => ∃ acc, H4 D = some (.lst acc) ∧ acc.length < sizeLine ∧ Pv (i + 1) (upd H4 D (.lst (acc ++ [y]))) else Pv (i + 1) H3) ∧ (∀ H2, Pv xs.length H2 → R D H2)) :
    ∃ a ys, [V.ref p] = [V.ref a] ∧ SqL K H a ys ∧ ∀ D, H D = none → ∃ W : Nat → Nat → Hp → Prop, (∃ m, W 0 m (upd H D (.lst []))) ∧ ∀ i m H, W i m H →
      ((Ite K a).stop i H ∧ R D H) ∨ ((Ite K a).go i H ∧ ∃ Nx : Hp → Prop, (∀ H', Nx H' → ∃ m', m' < m ∧ W (i + 1) m' H') ∧ ∀ x H', (Ite K a).yld i H x H' → g x (wipe σ vs) H' fun σ2 H2 => wipe σ2 vs = wipe σ vs ∧ tt σ2 H2 fun b H3 =>
        if b = true then te σ2 H3 fun y H4 => ∃ acc, H4 D = some (.lst acc) ∧ acc.length < sizeLine ∧ Nx (upd H4 D (.lst (acc ++ [y]))) else Nx H3) := by
  refine ⟨p, xs, rfl, hS, fun D hD => ?_⟩
  obtain ⟨Pv, h0, hl, hs, hd⟩ := h D hD
  refine ⟨fun i m H => m + i = xs.length ∧ Pv i H, ⟨xs.length, rfl, h0⟩, ?_⟩
  rintro i m H2 ⟨hm, p2⟩
  have q := hl i H2 (by omega) p2
  by_cases h1 : i < xs.length
  · refine .inr ⟨⟨xs, xs[i], q, List.getElem?_eq_getElem h1⟩, Pv (i + 1), fun H' p' => ⟨m - 1, by omega, by omega, p'⟩, ?_⟩
    rintro v H' ⟨T, x, rfl, hT, rfl, hx⟩
    exact hs i x T H2 (hx xs q) p2 hT
  · obtain rfl : i = xs.length := by omega
    exact .inl ⟨⟨xs, q, Nat.le_refl _⟩, hd H2 p2⟩
theorem cut_to10 (xs : List V) (n : Nat) : cutV xs none (some (n : Int)) = xs.take n := by
  unfold cutV
  rw [HT.sIx_nat, HT.sIx_none, List.drop_zero, Nat.sub_zero]
  by_cases h : n ≤ xs.length
  · rw [Nat.min_eq_left h]
  · rw [Nat.min_eq_right (by omega), List.take_length, List.take_of_length_le (by omega)]
theorem w_slTo {a : Addr} {d : List Int} {n : Nat} {H : Hp} {Q : VK} (e : SqT K H a (d.map V.int)) (q : ∀ p H', Same H H' → SqT K H' p ((d.take n).map V.int) → Q (.ref p) H') : rSlA K (.ref a) none (some (n : Int)) H Q := by
  refine ⟨a, _, rfl, e, fun hw => ?_, fun _ p hp => ?_⟩
  · rw [HT.sIx_nat, List.length_map] at hw
    have : d.take n = d := List.take_of_length_le (by omega)
    refine q a H (Same.refl H) ?_
    rw [this]
    exact e
  · refine q p _ (same_new hp _) (SqT.of ?_)
    rw [upd_same, cut_to10, List.map_take]
theorem Fine.str {x : Str} (h : PyData.strOk x = true) : Fine 0 (.str x) := ⟨by rw [PyData.canLay0]; exact h, by simp [PyData.depth], by simp [PyData.eqv]⟩
/-- two tuples of the same data -/
theorem w_neSame {a b : Addr} {xs ys : List V} {ds : List PyData} {k : Nat} (ha : SqT K H a xs) (hb : SqT K H b ys) (h1 : DpAll K H xs ds) (h2 : DpAll K H ys ds) (f : Fine k (.tuple ds)) (hk : k ≤ 64) (q : Q (.bl false) H) : rNeD K (.ref a) (.ref b) H Q :=
  ⟨_, _, .tup ha h1, .tup hb h2, f.shaped hk, f.shaped hk, by
    rw [f.2.2]
    exact q⟩
theorem w_eqSame {a b : Addr} {xs ys : List V} {ds : List PyData} {k : Nat} (ha : SqT K H a xs) (hb : SqT K H b ys) (h1 : DpAll K H xs ds) (h2 : DpAll K H ys ds) (f : Fine k (.tuple ds)) (hk : k ≤ 64) (q : Q (.bl true) H) : rEqD K (.ref a) (.ref b) H Q :=
  ⟨_, _, .tup ha h1, .tup hb h2, f.shaped hk, f.shaped hk, by
    rw [f.2.2]
    exact q⟩
theorem fine_pair {x : Str} {n : Int} (h : PyData.strOk x = true) : Fine 1 (.tuple [.str x, .int n]) := Fine.tup fun d hd => by
  rcases List.mem_cons.mp hd with rfl | hd
  · exact Fine.str h
  · rw [List.mem_singleton.mp hd]; exact Fine.int n
theorem passLam {A : Around} {outer : List Env} {s : Shared} {H : Hp} {E : XK} {scope : Scope} {f c' : Addr} : Passes (L2.CX (lamCx X A outer s H E scope f c').prog (lamCx X A outer s H E scope f c').w) (lamCx X A outer s H E scope f c') E := passes_call (takes_of rfl rfl rfl rfl) fun _ _ _ _ h => h
theorem op_neDK (K0 : PySem.W.Frag) (hK : X.K = K0) (hu : X.A.units + 64 < cLine) : OpR X (compareOp .NotEq) (rNeD K0) := by
  subst hK
  exact op_neD hu
theorem op_eqDK (K0 : PySem.W.Frag) (hK : X.K = K0) (hu : X.A.units + 64 < cLine) : OpR X (compareOp .Eq) (rEqD K0) := by
  subst hK
  exact op_eqD hu
theorem tabs_kp {T : List (Addr × Str)} {H H' : Hp} {d : Addr} (t : Tabs T H) (k : Kp d H H') (hd : Dice H d) : Tabs T H' := fun p hp => by
  obtain ⟨ps, h1, h2, h3⟩ := t p hp
  obtain ⟨x, y, z, e⟩ := hd
  refine ⟨ps, k _ _ (fun n => by rw [n, e] at h1; cases h1) h1, h2, fun pos cv hc => ?_⟩
  obtain ⟨c, e1, e2⟩ := h3 pos cv hc
  refine ⟨c, e1, k _ _ (fun n => ?_) e2⟩
  rw [n, e] at e2
  unfold CodeO at e2
  cases e2
theorem ne_dice {H : Hp} {L d : Addr} (h : H L = none) (k : Dice H d) : L ≠ d := fun z => by
  obtain ⟨a, b, c, e⟩ := k
  rw [z, e] at h
  cases h
theorem free_kp {d p : Addr} {H0 Hc : Hp} (k : Kp d H0 Hc) (hd : Dice Hc d) (hp : Hc p = none) : H0 p = none := (newl (o := .lst []) k hd hp rfl).2.2.2.2.1
theorem w_ifRest {c : TT} {a b : TS} {D : Ends} {σ : L2.St} {H : Hp} (I : L2.St → Hp → Prop) (h1 : ∀ N : L2.St → Hp → Prop, (∀ σ' H', I σ' H' → N σ' H') → tIfS c a b { D with nx := N } σ H) (h2 : ∀ σ' H', I σ' H' → D.nx σ' H') : tIfS c a b D σ H := h1 D.nx h2
theorem lst_kp {H H' : Hp} {L d : Addr} {o : HO} (k : Kp d H H') (h : H L = some o) (n : L ≠ d) : H' L = some o := k _ _ n h
theorem ext_lst {H H' : Hp} {L : Addr} {xs : List V} (x : ExtN H H') (h : H L = some (.lst xs)) : H' L = some (.lst xs) := x _ _ h fun q z => by cases z
theorem ext_tup {H H' : Hp} {L : Addr} {xs : List V} (x : ExtN H H') (h : H L = some (.tup xs)) : H' L = some (.tup xs) := x _ _ h fun q z => by cases z
theorem Tups.sm {H H' : Hp} (s : Same H H') : ∀ {zs : List Addr} {ps : List (List Int)}, Tups H zs ps → Tups H' zs ps
  | _, _, .nil => .nil
  | _, _, .cons h r => .cons (s _ _ h) (Tups.sm s r)
theorem Tups.ex {H H' : Hp} (s : ExtN H H') : ∀ {zs : List Addr} {ps : List (List Int)}, Tups H zs ps → Tups H' zs ps
  | _, _, .nil => .nil
  | _, _, .cons h r => .cons (ext_tup s h) (Tups.ex s r)
theorem w_lamT {cLF : Addr} {ret : Str} {tl : XK → Hp → VK → Prop} {H : Hp} {Q : VK} (h : tl (fun cls _ H' => ∃ b, PySem.W.exmOne K cls (.ref cLF) = some b ∧ (b = true → Q (.str ret) H') ∧ (b = false → False)) H Q) : TTold K cLF ret tl H Q := h
theorem sIx_neg {n k : Nat} {z : Int} (hz : z = -(k : Int)) (h0 : 0 < k) (h : k ≤ n) (d0 : Nat) : HT.sIx n d0 (some z) = n - k := by
  show (if z < 0 then (z + (n : Int)).toNat else min z.toNat n) = n - k
  rw [if_pos (by omega)]
  omega
theorem w_slToN {n : Nat} {z : Int} (hz : z = -(n : Int)) (h0 : 0 < n) (hn : n ≤ d.length) (e : SqT K H a (d.map V.int)) (q : ∀ p H', Same H H' → SqT K H' p ((d.take (d.length - n)).map V.int) → Q (.ref p) H') : rSlA K (.ref a) none (some z) H Q := by
  have hl : n ≤ (d.map V.int).length := by rw [List.length_map]; exact hn
  refine ⟨a, _, rfl, e, fun hw => ?_, fun _ p hp => ?_⟩
  · rw [sIx_neg hz h0 hl, List.length_map] at hw
    omega
  · refine q p _ (same_new hp _) (SqT.of ?_)
    rw [upd_same]
    unfold cutV
    rw [sIx_neg hz h0 hl, HT.sIx_none, List.drop_zero, Nat.sub_zero, List.map_take, List.length_map]
theorem w_slFromN {n : Nat} {z : Int} (hz : z = -(n : Int)) (h0 : 0 < n) (hn : n ≤ d.length) (e : SqT K H a (d.map V.int)) (q : ∀ p H', Same H H' → SqT K H' p ((d.drop (d.length - n)).map V.int) → Q (.ref p) H') : rSlA K (.ref a) (some z) none H Q := by
  have hl : n ≤ (d.map V.int).length := by rw [List.length_map]; exact hn
  refine ⟨a, _, rfl, e, fun hw => ?_, fun _ p hp => ?_⟩
  · rw [sIx_neg hz h0 hl, List.length_map] at hw
    have : d.drop (d.length - n) = d := by rw [show d.length - n = 0 by omega]; rfl
    refine q a H (Same.refl H) ?_
    rw [this]
    exact e
  · refine q p _ (same_new hp _) (SqT.of ?_)
    rw [upd_same]
    unfold cutV
    rw [sIx_neg hz h0 hl, HT.sIx_none, List.map_drop, List.length_map, List.take_of_length_le (by rw [List.length_drop, List.length_map]; omega)]
theorem tup_once (l : Addr) (items : Array Value) (n : Nat) (dd : Option Addr) (sl : Array (Option Value)) (u : Tok) :
    Meets (Builtin.«tuple.__mul__» ⟨[.ref l, .int 1 u], []⟩) (fun _ R s => s.heap.get? l = some { cls := .type "tuple", dict := dd, data := .seq items n, slots := sl } ∧ R (.ok (.ret (.ref l))) s) :=
  .of_wp fun prog w A R s h => by
    obtain ⟨hp, g, d, tk, os⟩ := s
    obtain ⟨hl, h⟩ := h
    have f1 := AutoSeq1.idx_int
    wp_walk using wpAny_loadPart' hl
    exact ⟨_, rfl, h⟩
theorem rep_one {α : Type} (x : α) (n : Nat) : (List.replicate n [x]).flatten = List.replicate n x := by
  induction n with
  | zero => rfl
  | succ n ih => rw [List.replicate_succ, List.flatten_cons, ih, List.replicate_succ]; rfl
/-- t * k, for k from 1 on: once is t itself -/
def rRepA (K : PySem.W.Frag) : R2 := fun x y H Q => ∃ l k xs, x = .ref l ∧ y = .int k ∧ SqT K H l xs ∧ xs ≠ [] ∧ 1 ≤ k ∧ k ≤ 1000 ∧ xs.length ≤ 1000 ∧ (k = 1 → Q (.ref l) H) ∧ (2 ≤ k → ∀ p, H p = none → Q (.ref p) (upd H p (.tup (List.replicate k.toNat xs).flatten)))
theorem op_repA : OpR X (binaryOp .Mult) (rRepA X.K) := by
  intro pins s σ H x y v u Q I rx ry h
  obtain ⟨l, k, xs, rfl, rfl, hT, hne, h1, h2, hz, q1, q2⟩ := h
  by_cases c : 2 ≤ k
  · exact op_repT pins s σ H _ _ v u Q I rx ry ⟨l, k, xs, rfl, rfl, hT, hne, c, h2, hz, q2 c⟩
  obtain rfl : k = 1 := by omega
  cases rx
  obtain ⟨t, rfl⟩ := ry
  obtain ⟨its, r, ⟨⟨cls, dd, data, sl⟩, ho, hc, n, hd⟩, hs⟩ := I.tuple hT
  simp only at hc hd
  subst hc hd
  refine wpAny_binaryOp_repeat_ref (T := "tuple") (U := "int") (by decide) ⟨_, ho, rfl⟩ (fun s' => typeIs_int s' 1 t) noFill_tuple_mul F.fills_int_mul F.slot_int_rmul repeat_tuple F.slot_int_index.lookup
    (call_meets F.slot_int_rmul (typeIs_int s 1 t) F.entry_int_rmul (F.args_int_rmul_2 _ _) (int_rmul_tuple 1 t l its.toArray n dd sl)
      ⟨ho, rfl, ⟨_, ho, rfl⟩, call_meets F.slot_tuple_mul ⟨_, ho, rfl⟩ F.entry_tuple_mul (F.args_tuple_mul_2 _ _) (tup_once l its.toArray n dd sl t) ⟨ho, ?_⟩⟩)
  exact ⟨.ref l, H, I, rfl, q1 rfl⟩
theorem op_repAK (K : PySem.W.Frag) (h : X.K = K) : OpR X (binaryOp .Mult) (rRepA K) := by subst h; exact op_repA
theorem w_repInts {z k : Int} (ha : SqT K H a [.int z]) (h1 : 1 ≤ k) (h2 : k ≤ 1000) (q : ∀ p H', Same H H' → SqT K H' p ((List.replicate k.toNat z).map V.int) → Q (.ref p) H') : rRepA K (.ref a) (.int k) H Q := by
  refine ⟨a, k, _, rfl, rfl, ha, List.cons_ne_nil _ _, h1, h2, (by show 1 ≤ 1000; decide), fun z => ?_, fun _ p hp => ?_⟩
  · subst z
    exact q a H (fun _ _ h => h) ha
  · refine q p _ (same_new hp _) (SqT.of ?_)
    rw [upd_same, rep_one, List.map_replicate]
theorem w_rU {f : Int → V} {i : Int} (q : Q (f i) H) : rU f (.int i) H Q := ⟨i, rfl, q⟩
theorem w_slToZ {n : Nat} {z : Int} (hz : z = (n : Int)) (e : SqT K H a (d.map V.int)) (q : ∀ p H', Same H H' → SqT K H' p ((d.take n).map V.int) → Q (.ref p) H') : rSlA K (.ref a) none (some z) H Q := by
  subst hz
  exact w_slTo e q
theorem w_slFromZ {n : Nat} {z : Int} (hz : z = (n : Int)) (e : SqT K H a (d.map V.int)) (q : ∀ p H', Same H H' → SqT K H' p ((d.drop n).map V.int) → Q (.ref p) H') : rSlA K (.ref a) (some z) none H Q := by
  subst hz
  exact w_slFrom e q
def spCk2 (K : PySem.W.Frag) : Sp := fun vs H Q _ => ∃ (a : Addr) (d : List Int), vs = [.ref a] ∧ (SqL K H a (d.map V.int) ∨ SqT K H a (d.map V.int)) ∧ GivesT H Q (sum4 d)
end
end Gk
end

section
-- part Fll
set_option Elab.async false
set_option linter.all false
set_option maxRecDepth 100000
set_option maxHeartbeats 2000000
/-! Fll: lambdas as values: made, held in a list, handed to a def that calls them -/
namespace LmV
open PySem PySem.Spec PyProof.Rows L2 LamX
structure LamK where
  params : Arguments
  body : Expr
  scope : Scope
  q : Str
  cl : List (Str × Addr)
  c : Addr
/-- at f: such a lambda -/
def LamO (f : Addr) (m : LamK) : HO := .ext fun h => ∃ pm ctv : Value, h.get? f = some (PySem.W.kla_obj "<lambda>" m.q m.params m.body m.scope m.cl pm m.c ctv)
theorem lamO_ne {f : Addr} {m : LamK} (ps : Array Value) : LamO f m ≠ .tbl ps := fun z => by
  unfold LamO at z
  cases z
section
variable {X : Cx} {pins : List (Addr × Obj)} {σ : L2.St} {H : Hp} {s : Shared}
theorem inv_lam {m : LamK} {t' : Nat} {pm ctv : Value} (I : Inv X pins σ H s) : Inv X pins σ (upd H s.heap.objs.size (LamO s.heap.objs.size m)) { s with heap := s.heap.push (PySem.W.kla_obj "<lambda>" m.q m.params m.body m.scope m.cl pm m.c ctv), toks := t' } := by
  refine I.laid (a := s.heap.objs.size) (fun b u e => Heap.get?_push_of_some _ e) (Nat.le_refl _) ?_
  have e : (s.heap.push (PySem.W.kla_obj "<lambda>" m.q m.params m.body m.scope m.cl pm m.c ctv)).get? s.heap.objs.size = some (PySem.W.kla_obj "<lambda>" m.q m.params m.body m.scope m.cl pm m.c ctv) := Heap.get?_push_size _ rfl
  exact ⟨⟨pm, ctv, e⟩, ⟨_, e⟩, fun h1 h2 ⟨p, t, z⟩ st => ⟨p, t, st _ z⟩⟩
/-- the lambda is made, and known from now on -/
theorem lam_make3 {T : List (Addr × Str)} {c P : Addr} {params : Arguments} {body : Expr} {scope : Scope} {pos : Pos} {E : Value → Shared → Prop} {Q : Value → Shared → Prop} (I : Inv X pins σ H s) (TB : TabB X.base X.mg c P) (hcode : X.env.code = .ref c)
    (hm : (P, X.env.qual ++ "<lambda>") ∈ T) (hu : ∀ p ∈ T, p.1 = P → p.2 = X.env.qual ++ "<lambda>") (hT : Tabs T H) (hdef : defaultsOf params X.env = ([], [])) (hfree : ∀ y ∈ scope.names, y.2 = .free → ∃ c, X.env.cells.lookup y.1 = some c)
    (h : ∀ (f c' : Addr) (H1 : Hp) (z : Shared), Inv X pins σ H1 z → ExtN H H1 → Tabs T H1 → H f = none → H1 f = some (LamO f ⟨params, body, scope, X.env.qual ++ "<lambda>", cloFrom X.env.cells scope.names [], c'⟩) → H1 c' = some (CodeO c' (X.env.qual ++ "<lambda>")) → Q (.ref f) z) :
    wpAny (model X.prog X.w) X.A (eval (.Lambda params body scope pos) X.env) Q E s := by
  obtain ⟨ps, hP, htr, hnm⟩ := hT _ hm
  refine PySem.W.kla_eval hdef ?_
  have hPs : s.heap.get? P = some { cls := .none, data := .fields ps } := I.hok P _ hP
  have bP : s.heap.BuiltinsAt X.mg P := TB.bm.keeps I.bk
  cases hc : codeAmong pos ps.toList with
  | none =>
    refine PySem.W.kla_makeFunction (mg := X.mg) (c := c) (P := P) (ps := ps) (closure_ok hfree) I.ok.glob (I.mod.glob.keeps I.bk) hcode (TB.code.keeps I.bk) hPs htr hc TB.gP bP fun c' ctv h' tk hx hge hlt hrec htb => ?_
    obtain ⟨c2, oc, vs, t, e2, hoc, hd, hv⟩ := hrec
    cases e2
    have nC : H c' = none := I.hok.fresh hge
    have I1 := inv_table (t' := tk) (more := #[rawInt pos.line, rawInt pos.col, .ref c']) (h' := h') I hP (fun b o hb e => hx b o hb e) htb hge ⟨oc, vs, t, hoc, hd, hv⟩
    have hE : ExtN H (upd (upd H P (.tbl (ps ++ #[rawInt pos.line, rawInt pos.col, .ref c']))) c' (CodeO c' (X.env.qual ++ "<lambda>"))) := fun b u e n => by
      rw [upd_ne (ne_of_none e nC), upd_ne (fun z => n ps (Option.some.inj (e.symm.trans (by rw [z]; exact hP))))]
      exact e
    have eL : (ps ++ #[rawInt pos.line, rawInt pos.col, .ref c']).toList = ps.toList ++ [rawInt pos.line, rawInt pos.col, .ref c'] := by simp
    have T1 : Tabs T (upd (upd H P (.tbl (ps ++ #[rawInt pos.line, rawInt pos.col, .ref c']))) c' (CodeO c' (X.env.qual ++ "<lambda>"))) := fun p hp => by
      by_cases hb : p.1 = P
      · rw [hu p hp hb, hb]
        refine ⟨_, by rw [upd_ne (ne_of_none hP nC), upd_same], by rw [eL]; exact PySem.TriplesOk_snoc _ _ _ _ htr, fun p' cv hcv => ?_⟩
        rw [eL] at hcv
        rcases among_app _ htr hcv with z | z
        · obtain ⟨c0, e1, e2⟩ := hnm p' cv z
          exact ⟨c0, e1, hE _ _ e2 codeO_ne⟩
        · exact ⟨c', z, upd_same⟩
      · obtain ⟨ps', a1, a2, a3⟩ := hT p hp
        refine ⟨ps', by rw [upd_ne (ne_of_none a1 nC), upd_ne hb]; exact a1, a2, fun p' cv hcv => ?_⟩
        obtain ⟨c0, e1, e2⟩ := a3 p' cv hcv
        exact ⟨c0, e1, hE _ _ e2 codeO_ne⟩
    have eC : upd (upd H P (.tbl (ps ++ #[rawInt pos.line, rawInt pos.col, .ref c']))) c' (CodeO c' (X.env.qual ++ "<lambda>")) c' = some (CodeO c' (X.env.qual ++ "<lambda>")) := upd_same
    generalize upd (upd H P (.tbl (ps ++ #[rawInt pos.line, rawInt pos.col, .ref c']))) c' (CodeO c' (X.env.qual ++ "<lambda>")) = HA at I1 hE T1 eC
    have nF : HA h'.objs.size = none := I1.hok.fresh (Nat.le_refl _)
    have I2 := inv_lam (m := ⟨params, body, scope, X.env.qual ++ "<lambda>", cloFrom X.env.cells scope.names [], c'⟩) (t' := tk) (pm := (X.mg "__name__").getD .none) (ctv := ctv) I1
    exact h h'.objs.size c' _ _ I2 (fun b o e n => (upd_ne (ne_of_none (hE b o e n) nF)).trans (hE b o e n)) (T1.ext fun b o e => (upd_ne (ne_of_none e nF)).trans e) (I.hok.fresh (Nat.le_trans hge (Nat.le_of_lt hlt))) upd_same ((upd_ne (ne_of_none eC nF)).trans eC)
  | some cv =>
    obtain ⟨c', e, hco⟩ := hnm pos cv hc
    subst e
    refine PySem.W.kla_makeFunctionHit (mg := X.mg) (c := c) (P := P) (ps := ps) (closure_ok hfree) I.ok.glob (I.mod.glob.keeps I.bk) hcode (TB.code.keeps I.bk) hPs htr hc bP fun ctv h' tk hx hsz => ?_
    have I1 : Inv X pins σ H { s with heap := h', toks := tk } := I.kept hx
    have nF : H h'.objs.size = none := I1.hok.fresh (Nat.le_refl _)
    have I2 := inv_lam (m := ⟨params, body, scope, X.env.qual ++ "<lambda>", cloFrom X.env.cells scope.names [], c'⟩) (t' := tk) (pm := (X.mg "__name__").getD .none) (ctv := ctv) I1
    exact h h'.objs.size c' _ _ I2 (fun b o e n => (upd_ne (ne_of_none e nF)).trans e) (hT.ext fun b o e => (upd_ne (ne_of_none e nF)).trans e) nF upd_same ((upd_ne (ne_of_none hco nF)).trans hco)
end
/-- what the lambda's body does -/
structure LamR (X : Cx) (params : Arguments) (body : Expr) (scope : Scope) (t : XK → TE) (k : Nat) : Prop where
  names : LamS X.env.scope scope
  bind : ∀ (q : Str) (cl : List (Str × Addr)) (pm cv ctv : Value), bindArgs (PySem.W.kla_fn "<lambda>" q params body scope cl pm cv ctv) ⟨[], []⟩ = pure []
  does : ∀ (A : Around) (outer : List Env) (s : Shared) (H : Hp) (E : XK) (f c' : Addr), Room k (A.deeper (lamEnv X scope s.heap.objs.size f c')) → PE (lamCx X A outer s H E scope f c') body (t E)
/-- at f: a lambda of the running def that does t -/
def LamV (X : Cx) (k : Nat) (H : Hp) (f : Addr) (t : XK → TE) : Prop := ∃ params body scope c', LamR X params body scope t k ∧
  H f = some (LamO f ⟨params, body, scope, X.env.qual ++ "<lambda>", cloFrom X.env.cells scope.names [], c'⟩) ∧ H c' = some (CodeO c' (X.env.qual ++ "<lambda>"))
theorem LamV.at_ {X : Cx} {k : Nat} {H H' : Hp} {f : Addr} {t : XK → TE} (v : LamV X k H f t) (e : ∀ b o, H b = some o → (∀ ps, o ≠ .tbl ps) → (∀ xs, o ≠ .lst xs) → (∀ xs, o ≠ .dK xs) → (∀ C dx fs, o ≠ .ins C dx fs) → H' b = some o) : LamV X k H' f t := by
  obtain ⟨params, body, scope, c', h1, h2, h3⟩ := v
  exact ⟨params, body, scope, c', h1, e _ _ h2 lamO_ne (fun _ z => by unfold LamO at z; cases z) (fun _ z => by unfold LamO at z; cases z) (fun _ _ _ z => by unfold LamO at z; cases z),
    e _ _ h3 codeO_ne (fun _ z => by unfold CodeO at z; cases z) (fun _ z => by unfold CodeO at z; cases z) (fun _ _ _ z => by unfold CodeO at z; cases z)⟩
theorem LamV.ex {X : Cx} {k : Nat} {H H' : Hp} {f : Addr} {t : XK → TE} (v : LamV X k H f t) (e : ExtN H H') : LamV X k H' f t := v.at_ fun b o h n _ _ _ => e b o h n
def tLamV (X : Cx) (k : Nat) (T : List (Addr × Str)) (t : XK → TE) : TE := fun σ H Q => Tabs T H ∧ ∀ (f : Addr) (H1 : Hp), ExtN H H1 → Tabs T H1 → H f = none → LamV X k H1 f t → Q (.ref f) H1
section
variable {X : Cx}
/-- lambda: body -/
theorem pe_lamV {T : List (Addr × Str)} {c P : Addr} {k : Nat} {params : Arguments} {body : Expr} {scope : Scope} {t : XK → TE} {lpos : Pos} (TB : TabB X.base X.mg c P) (hcode : X.env.code = .ref c) (hm : (P, X.env.qual ++ "<lambda>") ∈ T) (hu : ∀ p ∈ T, p.1 = P → p.2 = X.env.qual ++ "<lambda>")
    (sc : Scope) (hsc : X.env.scope = sc) (L : lamSB sc scope = true) (hdef : defaultsOf params X.env = ([], [])) (hbind : ∀ (q : Str) (cl : List (Str × Addr)) (pm cv ctv : Value), bindArgs (PySem.W.kla_fn "<lambda>" q params body scope cl pm cv ctv) ⟨[], []⟩ = pure [])
    (hbody : ∀ (A : Around) (outer : List Env) (s : Shared) (H : Hp) (E : XK) (f c' : Addr), Room k (A.deeper (lamEnv X scope s.heap.objs.size f c')) → PE (lamCx X A outer s H E scope f c') body (t E)) :
    PE X (.Lambda params body scope lpos) (tLamV X k T t) := by
  refine ⟨fun pins s σ H Q I h => ?_⟩
  obtain ⟨hT, h⟩ := h
  have LS : LamS X.env.scope scope := hsc ▸ lamS_by L
  refine lam_make3 I TB hcode hm hu hT hdef (LS.has I.ok) fun f c' H1 z I1 eN T1 nf hf hc => ?_
  exact ⟨.ref f, H1, I1, rfl, h f H1 eN T1 nf ⟨params, body, scope, c', ⟨LS, hbind, hbody⟩, hf, hc⟩⟩
section
variable {pins : List (Addr × Obj)} {σ : L2.St} {H : Hp} {s : Shared}
/-- x(), in the def that got such a lambda -/
theorem pe_act3 {CXg : CXT} {Eg : XK} {Ng : List Str} {qg : Str} {sg : Scope} {g f c' : Addr} {cdg : Value} {params : Arguments} {body : Expr} {scope : Scope} {k i : Nat} {a : Str} {pn : List (Addr × Obj)} {xe : Value → Shared → Prop} {W : WX} {E : XK} {t : XK → TE} {p1 p2 : Pos}
    (I : Inv X pins σ H s) (R : LamR X params body scope t k)
    (tk : Takes ((cxOf CXg X.prog X.w X.K X.mg X.base Ng qg sg g cdg X.A X.stack s H Eg).tr pn xe) W) (hW : ∀ cls d σ' H', E cls d H' → W cls d σ' H') (hr : Room (k + 1) (X.A.deeper (envOfC qg sg s.heap.objs.size g cdg)))
    (hN : Ng[i]? = some a) (hv : Vis sg a) (hd : (a == ("__debug__" : Str)) = false := by decide) (hcd : (a == ("__classdict__" : Str)) = false := by decide) :
    PE ((cxOf CXg X.prog X.w X.K X.mg X.base Ng qg sg g cdg X.A X.stack s H Eg).tr pn xe) (.Call (.Name a p1) [] [] p2)
      (fun σZ HZ Q => σZ[i]? = some (some (.ref f)) ∧ HZ c' = some (CodeO c' (X.env.qual ++ "<lambda>")) ∧ HZ f = some (LamO f ⟨params, body, scope, X.env.qual ++ "<lambda>", cloFrom X.env.cells scope.names [], c'⟩) ∧ t E σ HZ Q) := by
  refine ⟨fun pinsZ sZ σZ HZ Q IZ h => ?_⟩
  obtain ⟨hs, hc, hf, ht⟩ := h
  refine wpAny_Call_Name_kw (thn ((pe_var (pos := p1) (i := i) hN hv hd hcd).run pinsZ sZ σZ HZ (fun v H1 => v = .ref f ∧ H1 = HZ) IZ ⟨.ref f, hs, rfl, rfl⟩) fun u s1 ⟨v, H1, I1, r1, ev, eH⟩ => ?_)
  subst ev
  rw [eH] at I1
  obtain rfl : u = Value.ref f := r1
  obtain ⟨⟨pm, ctv, of1⟩, _, _⟩ := I1.hok f _ hf
  refine PySem.W.callWith_F0 ⟨_, _, _, _, of1⟩ ?_
  have un : Un (frs X.stack) [] H HZ s.heap s1.heap := I1.base
  obtain ⟨⟨oc, vs, tt, hoc, hdc, hvc⟩, _, _⟩ := I1.hok c' _ hc
  have rc : codeAny (model X.prog X.w) (X.A.deeper (envOfC qg sg s.heap.objs.size g cdg)) (.call (.ref f) ⟨[], []⟩) (CR (L2.CX X.prog X.w) (envOfC qg sg s.heap.objs.size g cdg :: X.stack) X.prog X.w HZ s1 Q E) s1 := by
    refine PySem.W.kla_callFunE hr.depth of1 rfl R.names.co R.names.gen rfl ⟨c', oc, vs, tt, rfl, hoc, hdc, hvc⟩ ?_
    rw [R.bind]
    refine wpAny_pure (wpAny_newFunctionEnv (fun y hy => (R.names.own y hy).2) (fun y hy => absurd hy (by simp)) (fun h₁ hns hsb => ⟨I1.nolimit.fresh _ hsb, ?_⟩) R.names.kind)
    show codeAny _ _ (.expr body (lamEnv X scope s1.heap.objs.size f c')) _ _
    have kp : ∀ b o, s1.heap.get? b = some o → h₁.get? b = some o := fun b o e => hsb.extBut b o (Nat.ne_of_lt (Heap.lt_size e)) (Heap.get?_push_of_some _ e)
    have J : Inv (lamCx X (X.A.deeper (envOfC qg sg s.heap.objs.size g cdg)) (envOfC qg sg s.heap.objs.size g cdg :: X.stack) s1 HZ E scope f c') [] σ HZ { s1 with heap := h₁, toks := s1.toks + ([] : List (Str × Value)).length } := lam_start2 I R.names I1.env0 hr.hd un hns kp
    refine PySem.W.kla_codeExpr (wpAny_mono ((R.does _ _ s1 HZ E f c' (hr.deeper _)).run [] _ _ HZ Q J ht) (fun v z ⟨w', H', J', rv, q⟩ => ⟨w', H', J'.os, J'.bare, J'.base, J'.hok, rv, q⟩) fun e z hq => hq)
  have hx : Passes (L2.CX X.prog X.w) ((cxOf CXg X.prog X.w X.K X.mg X.base Ng qg sg g cdg X.A X.stack s H Eg).tr pn xe) E := passes_call tk hW
  refine wpAny_call (codeAny_mono rc fun r z hq => ?_)
  cases r with
  | error e => exact hx pinsZ σZ HZ s1 e z I1 hq
  | ok fl =>
    cases fl with
    | ret u => exact I1.after hq
    | next => exact False.elim hq
    | brk => exact False.elim hq
    | cont => exact False.elim hq
end
/-- told(e), e such a lambda -/
def tToldV (X : Cx) (k : Nat) (CS : Addr) (ret : Str) (te : TE) : TE := fun σ H Q => te σ H fun v H1 => ∃ f t, [v] = [V.ref f] ∧ LamV X k H1 f t ∧ TTold X.K CS ret (fun E H' Q' => t E σ H' Q') H1 Q
theorem pe_toldV {x a e e2 ret : Str} {te : TE} {ex : Expr} {g CS : Addr} {k j : Nat} {pg : Arguments} {sg : Scope} {dV kV doc pm cdv ct oc : Value} {an od : Option Addr} {osl : Array (Option Value)} {Ng : List Str} {p pos p1 p2 p3 p4 p5 p6 p7 p8 : Pos}
    (hg : Gl X x) (hm : X.mg x = some (.ref g)) (hk : PySem.W.keepIn X.K (.ref g) = true) (he : PE X ex te)
    (lk : X.K.lookup g = some ⟨oc, od, .func (PySem.W.fnOf x x pg [.Try [.Return (some (.Call (.Name a p1) [] [] p2)) p3] [.ExceptHandler (some (.Name e p4)) none [.Return (some (.Constant (.str ret) j p5)) p6] p7] [] [] p8] sg dV kV doc pm an cdv ct), osl⟩) (hcg : PySem.W.codeIn X.K cdv x = true)
    (hb : L2.Binds X.K (PySem.W.fnOf x x pg [.Try [.Return (some (.Call (.Name a p1) [] [] p2)) p3] [.ExceptHandler (some (.Name e p4)) none [.Return (some (.Constant (.str ret) j p5)) p6] p7] [] [] p8] sg dV kV doc pm an cdv ct) [a] []) (Sg : FnScope Ng [a] sg) (hNg : Ng[0]? = some a) (hva : Vis sg a) (hr : Room (k + 2) X.A)
    (hge : sg.names.lookup e = some .globalImplicit) (hme : X.mg e = some (.ref CS)) (hde : (e == ("__debug__" : Str)) = false) (h0 : ∀ f : Addr, (L2.start Ng [V.ref f])[0]? = some (some (V.ref f)))
    (hdb : (x == ("__debug__" : Str)) = false := by decide) (hd : (a == ("__debug__" : Str)) = false := by decide) (hcd : (a == ("__classdict__" : Str)) = false := by decide)
    (hst : starEach [ex] X.env = (false, eval ex X.env) :: starEach [] X.env := by rfl) (hpl : (backTo pos (starEach [] X.env)).any (·.1) = false := by rfl) :
    PE X (.Call (.Name x p) [ex] [] pos) (tToldV X k CS ret te) := by
  refine ⟨fun pins s σ H Q I h => ?_⟩
  have args : PA X [ex] (tCons te tNil) := pa_cons he pa_nil hst
  refine wpAny_Call_Name_kw (ld_glob I hg hm (PySem.W.callWith_K (h₀ := X.base) I.ok.mod.kin hk (thn (args.run pos pins s σ H (fun vs H1 => ∃ f t, vs = [V.ref f] ∧ LamV X k H1 f t ∧ TTold X.K CS ret (fun E H' Q' => t E σ H' Q') H1 Q) I h) ?_) hst hpl) hdb)
  rintro us z ⟨vs, H1, I1, rv, f, t, rfl, ⟨params, body, scope, c', R, hf, hc⟩, q⟩
  refine ⟨I1.kIn, ?_⟩
  rw [Vals.ref1 rv]
  have rc : codeAny (model X.prog X.w) X.A (.call (.ref g) ⟨[.ref f], []⟩) (CR C8.CX0 X.stack X.prog X.w H1 z Q C8.E0) z := by
    refine run_ofS (N := Ng) (ps := [a]) (us := [.ref f]) (vs := [.ref f]) lk hcg Sg hr I1.env0 (hb z [.ref f] I1.kIn rfl) (.cons rfl .nil) rfl fun hr' => ?_
    have G := told_gives (X := X) (Ng := Ng) (x := x) (a := a) (e := e) (q := X.env.qual ++ "<lambda>") (ret := ret) (sg := sg) (g := g) (CS := CS) (cdg := cdv) (j := j) (p1 := p1) (p2 := p2) (p3 := p3) (p4 := p4) (p5 := p5) (p6 := p6) (p7 := p7) (p8 := p8) hge hme hde h0
    obtain ⟨t', ht', hq'⟩ := G f c' z H1 Q (fun E H' Q' => H' f = some (LamO f ⟨params, body, scope, X.env.qual ++ "<lambda>", cloFrom X.env.cells scope.names [], c'⟩) ∧ t E σ H' Q')
      (fun W pn xe E p1 p2 tk hW => pe_act3 (i := 0) I1 R tk hW hr' hNg hva hd hcd) hc ⟨hf, q⟩
    exact ⟨t', ht'.nox, hq'⟩
  refine wpAny_call (codeAny_mono rc fun r s2 hq => ?_)
  cases r with
  | error e => exact (show False from hq).elim
  | ok fl =>
    cases fl with
    | ret u => exact I1.after hq
    | next => exact False.elim hq
    | brk => exact False.elim hq
    | cont => exact False.elim hq
end
end LmV
end

section
-- part Dq
set_option Elab.async false
set_option linter.all false
set_option maxRecDepth 100000
set_option maxHeartbeats 2000000
/-! Dq: classes with defaults; dicts: copied, compared, walked; heaps of which some objects are foreign -/
namespace Dq
open PySem PySem.Spec PyProof.Rows L2 Fw Gk
/-! ### a class made by its name, defaults behind -/
structure Mcd (P : Program) (w : World) (K : PySem.W.Frag) (mg : Str → Option Value) (base : Heap) (k : Nat) (x : Str) (C : Addr) (sp : Sp) (dvs : List V) : Prop where
  ex : ∃ (f : Addr) (fd : FuncData) (ps : List Str) (ds : List Value), Mk K C f ∧ FnOk P w K mg base (L2.CX P w) k f fd ps sp ∧ mg x = some (.ref C) ∧ Binds K fd ps ds ∧ Vals dvs ds
def tMkD (C : Addr) (sp : Sp) (dvs : List V) (E : XK) (t : TA) : TE := fun σ H Q => t σ H fun vs H1 => ∀ x dx, H1 x = none → H1 dx = none → dx ≠ x → sp (.ref x :: (vs ++ dvs)) (upd (upd H1 dx (.own x)) x (.ins C dx [])) (fun v H2 => v = .non ∧ Q (.ref x) H2) E
section
variable {X : Cx} {k j : Nat} {C : Addr} {x : Str} {sp : Sp} {dvs : List V} {E : XK} {p pos : Pos} {e : Expr} {es : List Expr} {t : TA}
theorem pe_mcd (c : Mcd X.prog X.w X.K X.mg X.base k x C sp dvs) (hr : Room j X.A) (hk : k + 1 ≤ j) (hg : Gl X x) (hx : Passes (L2.CX X.prog X.w) X E) (ha : PA X (e :: es) t)
    (hdb : (x == ("__debug__" : Str)) = false := by decide) (he : starEach (e :: es) X.env = (false, eval e X.env) :: starEach es X.env := by rfl) (hpl : (backTo pos (starEach es X.env)).any (·.1) = false := by rfl) :
    PE X (.Call (.Name x p) (e :: es) [] pos) (tMkD C sp dvs E t) := by
  obtain ⟨f, fd, ps, ds, M, F, hm, b, d⟩ := c.ex
  exact ⟨fun pins s σ H Q I h => (pe_make M F (hr.mono hk) hg hm b d hx ha hdb he hpl).run pins s σ H Q I h⟩
theorem w_mkd {σ : L2.St} {H : Hp} {Q : VK} (h : t σ H fun vs H1 => ∀ x dx, H1 x = none → H1 dx = none → dx ≠ x → sp (.ref x :: (vs ++ dvs)) (upd (upd H1 dx (.own x)) x (.ins C dx [])) (fun v H2 => v = .non ∧ Q (.ref x) H2) E) : tMkD C sp dvs E t σ H Q := h
end
section
variable {P : Program} {w : World} {K : PySem.W.Frag} {mg : Str → Option Value} {base : Heap} {x qual : Str} {st : Stmt} {C : Addr} {dvs : List V}
/-- n values are given (self counted), the defaults behind the first j fill up -/
theorem mcd_mk {N ps : List Str} {k : Nat} {sp : Sp} (n j : Nat) (F : ∃ (f : Addr) (fd : FuncData), FunD K "__init__" qual (defArgs st) (defBody st) (defScope st) dvs [] f fd ∧ Mk K C f) (hm : mg x = some (.ref C)) (S : FnScope N ps (defScope st)) (hd : dvs ≠ []) (hn : n + (dvs.length - j) = ps.length)
    (b : ∀ (T : Addr) (kV doc pm : Value) (an : Option Addr) (cdv ct : Value) (us its : List Value), us.length = n → its.length = dvs.length →
      ∃ k, bindArgs (PySem.W.fnOf "__init__" qual (defArgs st) (defBody st) (defScope st) (.ref T) kV doc pm an cdv ct) ⟨us, []⟩ = seqItems? (.ref T) >>= k ∧ k (some its.toArray) = pure (ps.zip (us ++ its.drop j)))
    (len : ∀ vs H Q E, sp vs H Q E → vs.length = ps.length)
    (hbody : ∀ (f : Addr) (cdv : Value) (A : Around) (outer : List Env) (s : Shared) (H : Hp) (vs : List V) (Q : VK) (E : XK), Room k (A.deeper (envOfC qual (defScope st) s.heap.objs.size f cdv)) → sp vs H Q E →
      ∃ t, PSs (cxOf (L2.CX P w) P w K mg base N qual (defScope st) f cdv A outer s H E) (defBody st) t ∧ t { nx := fun _ H' => Q .non H', rt := Q } (start N vs) H) : Mcd P w K mg base (k + 1) x C sp (dvs.drop j) := by
  obtain ⟨f, fd, F, M⟩ := F
  obtain ⟨ds, h1, h2⟩ := F.binds1 n j hd hn b
  exact ⟨f, fd, ps, ds, M, F.ok S len (hbody f), hm, h2, h1⟩
end
/-! ### dict(d) -/
section
variable {X : Cx}
def rCopy : List V → Hp → VK → Prop := fun xs H Q => ∃ (a : Addr) (kvs : List (Key × V)), xs = [.ref a] ∧ Rd H a (.dK kvs) ∧ ∀ p, H p = none → Q (.ref p) (upd H p (.dK kvs))
theorem call_dictC : CallR X (.type "dict") rCopy := by
  intro pins s σ H xs us Q I r q
  obtain ⟨a, kvs, ex, hq, q⟩ := q
  subst ex
  obtain ⟨u, eu, rx⟩ := vals1 r
  subst eu
  cases rx
  exact d_copyOf I hq fun p s' hp I' => ⟨.ref p, _, I', rfl, q p hp⟩
/-! ### dicts compared whose values are tuples of ints -/
def BlkEq (K : PySem.W.Frag) (H : Hp) (x y : V) : Prop := ∃ (a b : Addr) (d : List Int), x = .ref a ∧ y = .ref b ∧ SqT K H a (d.map V.int) ∧ SqT K H b (d.map V.int)
theorem hits_blk {pins : List (Addr × Obj)} {σ : L2.St} {H : Hp} {s : Shared} (I : Inv X pins σ H s) {A : Around} (hu : A.units + 1 < cLine) {ls : List (Key × V)} {vb : List (Key × Value)} (rb : KV ls vb) {ks : List (Key × V)} {va : List (Key × Value)} (ra : KV ks va) :
    (∀ p ∈ ks, ∃ u, valV ls p.1 = some u ∧ BlkEq X.K H p.2 u) → PySem.W.KeqHits A s vb va true := by
  unfold KV at ra
  induction ra with
  | nil => intro _; exact .nil
  | @cons p q ps qs h t ih =>
    intro hp
    obtain ⟨h1, h2⟩ := h
    obtain ⟨u, e, a, b, d, e1, e2, sa, sb⟩ := hp p List.mem_cons_self
    have rr : RelO (some u) (valueAt vb p.1) := by rw [← e]; exact rb.val p.1
    obtain ⟨y, hy, ry⟩ := rr.some_of
    obtain ⟨key, v⟩ := q
    have h1' : p.1 = key := h1
    rw [h1'] at hy
    show PySem.W.KeqHits A s vb ((key, v) :: qs) (true && true)
    subst e2
    have h2' : RelV p.2 v := h2
    rw [e1] at h2'
    obtain ⟨as, r1⟩ := Dp.reads I _ _ _ (Dp.tup sa (dp_ints d)) h2'
    obtain ⟨bs, r2⟩ := Dp.reads I _ _ _ (Dp.tup sb (dp_ints d)) ry
    have f := fine_ints d
    have dep : (PyData.tuple (d.map PyData.int)).depth ≤ 1 := f.2.1
    have k := SeqAt.eqAt_reads _ _ A s v y as bs r1 r2 f.1 f.1 (by omega)
    rw [f.2.2] at k
    exact .hit hy k (ih fun p' hm => hp p' (List.mem_cons_of_mem _ hm))
def rNeDV (K : PySem.W.Frag) : R2 := fun x y H Q => ∃ a b ks ls, x = .ref a ∧ y = .ref b ∧ H a = some (.dK ks) ∧ H b = some (.dK ls) ∧ ks.length = ls.length ∧ (∀ p ∈ ks, ∃ u, valV ls p.1 = some u ∧ BlkEq K H p.2 u) ∧ Q (.bl false) H
theorem op_ne_dictV (hu : X.A.units + 64 < cLine) : OpR X (compareOp .NotEq) (rNeDV X.K) := by
  intro pins s σ H x y v u Q I rx ry h
  obtain ⟨a, b, ks, ls, rfl, rfl, ea, eb, hlen, hp, q⟩ := h
  obtain rfl : v = Value.ref a := rx
  obtain rfl : u = Value.ref b := ry
  obtain ⟨_, ya, va, ra, da⟩ := (show ObjOk X.prog X.w H s.heap a (.dK ks) from I.hok a _ ea)
  obtain ⟨_, yb, vb, rb, db⟩ := (show ObjOk X.prog X.w H s.heap b (.dK ls) from I.hok b _ eb)
  have hl : va.length = vb.length := by rw [← ra.length, ← rb.length]; exact hlen
  exact PySem.W.keq_ne (knd := mixKind X.prog X.w) (r := true) ya yb da db (by omega) (fun _ => hits_blk I (A := X.A.in1) (by show X.A.units + 1 + 1 < cLine; omega) rb ra hp) (fin_bl I q (by simp [hl]))
end
/-! ### steps of the walk -/
section
variable {X : Cx} {K : PySem.W.Frag} {σ : L2.St} {H : Hp} {Q : VK} {td ty tx tv tk : TE} {tt : TT} {g : TG} {vs : List Nat} {D : Ends}
theorem w_dget (h : td σ H fun x H1 => ty σ H1 fun y H2 => ∃ a v, x = .ref a ∧ DGet H2 a y (some v) ∧ Q v H2) : tDGet td ty σ H Q := h
theorem w_din (h : ty σ H fun y H1 => td σ H1 fun x H2 => ∃ a o, x = .ref a ∧ DGet H2 a y o ∧ Q (.bl o.isSome) H2) : tDIn ty td σ H Q := h
theorem w_dnotin (h : ty σ H fun y H1 => td σ H1 fun x H2 => ∃ a o, x = .ref a ∧ DGet H2 a y o ∧ Q (.bl (!o.isSome)) H2) : tDNotIn ty td σ H Q := h
theorem w_dget2 (h : td σ H fun x H1 => ∃ a, x = .ref a ∧ IsD H1 a ∧ ty σ H1 fun y H2 => tx σ H2 fun z H3 => ∃ o, DGet H3 a y o ∧ Q (o.getD z) H3) : tDGet2 td ty tx σ H Q := h
theorem w_dnew (h : ∀ p, H p = none → Q (.ref p) (upd H p (.dK []))) : tDNewK σ H Q := h
theorem w_fldaug {ta : TE} {rd : V → V → Hp → VK → Prop} {f : Str} (h : ta σ H fun x H1 => ∃ a C dx fs v, x = .ref a ∧ H1 a = some (.ins C dx fs) ∧ Cls K C ∧ NoAttr K C f ∧ fs.lookup f = some v ∧
  tv σ H1 fun y H2 => rd v y H2 fun z H3 => ∃ dx' fs', H3 a = some (.ins C dx' fs') ∧ fs'.length < 1000 ∧ D.nx σ (upd H3 a (.ins C dx' (putF f z fs')))) : sFldAug K ta tv rd f D σ H := h
/-- {k: v for k in d} -/
theorem w_dcK {i : Nat} {d : Addr} {kvs : List (Key × V)} (hv : σ[i]? = some (some (.ref d))) (hd : H d = some (.dK kvs)) (h : ∀ o D, upd H d (.frz o (.dK kvs)) D = none → ∃ Pv : Nat → Hp → Prop, Pv 0 (upd (upd H d (.frz o (.dK kvs))) D (.dK [])) ∧ (∀ i H, i ≤ kvs.length → Pv i H → H d = some (.frz o (.dK kvs))) ∧
      (∀ i k v H, kvs[i]? = some (k, v) → Pv i H → g (kV k) (wipe σ vs) H fun σ2 H2 => wipe σ2 vs = wipe σ vs ∧ tt σ2 H2 fun b H3 =>
        if b = true then tk σ2 H3 fun y H4 => tv σ2 H4 fun z H5 => ∃ kvs k, y = kV k ∧ H5 D = some (.dK kvs) ∧ kvs.length < sizeLine ∧ Pv (i + 1) (upd H5 D (.dK (putK kvs k z))) else Pv (i + 1) H3) ∧
      (∀ H, Pv kvs.length H → Q (.ref D) (upd H d (.dK kvs)))) : tLockE (tDc (iKeys (tVar i)) g tt tk tv vs) σ H Q := by
  refine ⟨d, .dK kvs, hd, trivial, fun o => ?_⟩
  refine ⟨.ref d, hv, d, o, rfl, .inl ⟨kvs, upd_same, fun D hD => ?_⟩⟩
  obtain ⟨Pv, h0, hl, hs, hq⟩ := h o D hD
  refine ⟨fun i m H => m = kvs.length - i ∧ i ≤ kvs.length ∧ Pv i H, ⟨kvs.length, by simp, Nat.zero_le _, h0⟩, ?_⟩
  rintro i m H ⟨rfl, hi, p⟩
  have q := hl i H hi p
  by_cases hlt : i < kvs.length
  · refine .inr ⟨walk_keys.goes i H hlt q, Pv (i + 1), fun H' p' => ⟨kvs.length - (i + 1), by omega, rfl, hlt, p'⟩, fun x H' y => ?_⟩
    obtain ⟨rfl, k, v, e, rfl⟩ := walk_keys.yields i H x H' hlt q y
    exact hs i k v _ e p
  · have e : i = kvs.length := by omega
    subst e
    exact .inl ⟨walk_keys.stops H q, q, hq H p⟩
end
section
variable {K : PySem.W.Frag} {σ : L2.St} {H : Hp}
theorem for_enumL {g : TG} {tb : TS} {D : Ends} {a : Addr} {xs : List V} (Pv : Nat → L2.St → Hp → Prop) (h0 : Pv 0 σ H) (hq : ∀ i σ H, Pv i σ H → SqL K H a xs)
    (hs : ∀ (i : Nat) (x : V) (T : Addr) (σ : L2.St) (H : Hp), xs[i]? = some x → Pv i σ H → H T = none → g (.ref T) σ (upd H T (.tup [.int (i : Nat), x])) fun σ2 H2 => tb { D with nx := Pv (i + 1), ct := Pv (i + 1), bk := D.nx } σ2 H2)
    (hd : ∀ σ H, Pv xs.length σ H → D.nx σ H) :
    ∃ W : Nat → Nat → L2.St → Hp → Prop, (∃ m, W 0 m σ H) ∧ ∀ i m σ H, W i m σ H →
      ((Ite K a).stop i H ∧ D.nx σ H) ∨ ((Ite K a).go i H ∧ ∃ N : L2.St → Hp → Prop, (∀ σ' H', N σ' H' → ∃ m', m' < m ∧ W (i + 1) m' σ' H') ∧ ∀ x H', (Ite K a).yld i H x H' → g x σ H' fun σ2 H2 => tb { D with nx := N, ct := N, bk := D.nx } σ2 H2) :=
  for_it walk_enum Pv h0 (fun i σ H _ p => hq i σ H p) (fun i v σ H H' _ p y => by
    obtain ⟨T, x, y, rfl, hT, rfl, e1, e2⟩ := y
    cases e1
    exact hs i _ T σ H e2 p hT) hd
end
/-! ### foreign objects -/
/-- all but the objects of L are kept -/
def Fr (L : List Addr) (H H' : Hp) : Prop := ∀ b o, b ∉ L → H b = some o → H' b = some o
theorem Fr.refl (L : List Addr) (H : Hp) : Fr L H H := fun _ _ _ h => h
theorem Fr.trans {L : List Addr} {H H1 H2 : Hp} (a : Fr L H H1) (b : Fr L H1 H2) : Fr L H H2 := fun c o n h => b c o n (a c o n h)
theorem Fr.of {L : List Addr} {H H' : Hp} (s : Same H H') : Fr L H H' := fun b o _ e => s b o e
theorem Fr.up {L : List Addr} {H H' : Hp} {a : Addr} {o : HO} (k : Fr L H H') (h : a ∈ L) : Fr L H (upd H' a o) := fun b u n e => by
  rw [upd_ne (fun z : b = a => n (by rw [z]; exact h))]
  exact k b u n e
theorem Fr.new {L : List Addr} {H H' : Hp} {a : Addr} {o : HO} (k : Fr L H H') (h : H a = none) : Fr L H (upd H' a o) := fun b u n e => by
  rw [upd_ne (ne_of_none e h)]
  exact k b u n e
theorem Fr.le {L M : List Addr} {H H' : Hp} (k : Fr L H H') (h : ∀ a ∈ L, a ∈ M) : Fr M H H' := fun b u n e => k b u (fun z => n (h b z)) e
/-- tuples stay -/
def Tu (H H' : Hp) : Prop := ∀ a xs, H a = some (.tup xs) → H' a = some (.tup xs)
end Dq
namespace Dq
open PySem PySem.Spec PyProof.Rows L2 Fw Gk
section
variable {H : Hp} {Q : VK} {v : V}
theorem w_isNb {b : Bool} (hd : decide (v = V.non) = b) (q : Q (.bl b) H) : rIsN v V.non H Q := ⟨rfl, by rw [hd]; exact q⟩
theorem w_notNb {b : Bool} (hd : decide (v = V.non) = b) (q : Q (.bl (!b)) H) : rNotN v V.non H Q := ⟨rfl, by rw [hd]; exact q⟩
theorem w_notN0 (q : Q (.bl false) H) : rNotN .non V.non H Q := w_notNb rfl q
theorem w_isN0 (q : Q (.bl true) H) : rIsN .non V.non H Q := w_isNb rfl q
theorem w_notNR {a : Addr} (q : Q (.bl true) H) : rNotN (.ref a) V.non H Q := w_notNb (b := false) (decide_eq_false (fun z => by cases z)) q
theorem w_isNR {a : Addr} (q : Q (.bl false) H) : rIsN (.ref a) V.non H Q := w_isNb (decide_eq_false (fun z => by cases z)) q
theorem w_notNI {a : Int} (q : Q (.bl true) H) : rNotN (.int a) V.non H Q := w_notNb (b := false) (decide_eq_false (fun z => by cases z)) q
theorem w_isNI {a : Int} (q : Q (.bl false) H) : rIsN (.int a) V.non H Q := w_isNb (decide_eq_false (fun z => by cases z)) q
theorem look1 {f g : Str} {x : V} {r : List (Str × V)} (h : (g == f) = true) : List.lookup g ((f, x) :: r) = some x := by rw [List.lookup_cons, h]
theorem look0 {f g : Str} {x : V} {r : List (Str × V)} (h : (g == f) = false) : List.lookup g ((f, x) :: r) = r.lookup g := by rw [List.lookup_cons, h]
theorem w_aSub {i j : Int} (q : Q (.int (i - j)) H) : rSub (.int i) (.int j) H Q := ⟨i, j, rfl, rfl, q⟩
theorem w_aAdd {i j : Int} (q : Q (.int (i + j)) H) : rAdd (.int i) (.int j) H Q := ⟨i, j, rfl, rfl, q⟩
theorem w_orV {ta tb : TE} {σ : L2.St} (h : ta σ H fun x H1 => ∃ c, x = .bl c ∧ if c = true then Q (.bl true) H1 else tb σ H1 Q) : tOrV ta tb σ H Q := h
theorem w_andV {ta tb : TE} {σ : L2.St} (h : ta σ H fun x H1 => ∃ c, x = .bl c ∧ if c = true then tb σ H1 Q else Q (.bl false) H1) : tAndV ta tb σ H Q := h
theorem w_js {t : TE} {ts : List TE} {acc : Str} {σ : L2.St} {R : Str → Hp → Prop} (h : t σ H fun x H1 => ∃ y : Str, x = .str y ∧ (acc ++ y).length ≤ sizeLine ∧ tJs ts (acc ++ y) σ H1 R) : tJs (t :: ts) acc σ H R := h
theorem w_js0 {acc : Str} {σ : L2.St} {R : Str → Hp → Prop} (q : R acc H) : tJs [] acc σ H R := q
theorem w_fm {te : TE} {σ : L2.St} (h : te σ H fun x H1 => (∃ y : Str, x = .str y ∧ y.length ≤ sizeLine ∧ Q (.str y) H1) ∨ ∃ i : Int, x = .int i ∧ i.natAbs.log2 < 1920 ∧ Q (.str (toString i)) H1) : tFmt te σ H Q := h
theorem fmt_n {n : Nat} (h : n < 10 ^ 7) {acc : Str} (ha : acc.length ≤ 1000) {R : Str → Prop} {B : Prop} (q : ∀ z, R z) : B ∨ ∃ i : Int, V.int (n : Int) = .int i ∧ i.natAbs.log2 < 1920 ∧ ∃ y : Str, V.str (toString i) = .str y ∧ (acc ++ y).length ≤ sizeLine ∧ R (acc ++ y) := by
  refine .inr ⟨(n : Int), rfl, ?_, ⟨_, rfl, ?_, q _⟩⟩
  · by_cases h0 : n = 0
    · subst h0
      decide
    · rw [Int.natAbs_natCast]
      have := (Nat.log2_lt h0 (k := 24)).mpr (Nat.lt_of_lt_of_le h (by decide))
      omega
  · rw [str_len_app]
    exact Nat.le_trans (Nat.add_le_add ha (num_short h)) (by decide)
theorem fmt_j {n : Nat} (h : n < 10 ^ 7) {acc : Str} (ha : acc.length ≤ 1000) {σ : L2.St} {R : Str → Hp → Prop} {B : Prop} (q : ∀ z, R z H) : B ∨ ∃ i : Int, V.int (n : Int) = .int i ∧ i.natAbs.log2 < 1920 ∧ ∃ y : Str, V.str (toString i) = .str y ∧ (acc ++ y).length ≤ sizeLine ∧ tJs [] (acc ++ y) σ H R :=
  fmt_n (R := fun z => tJs [] z σ H R) h ha fun z => q z
theorem w_ifV {tt : TT} {ta tb : TE} {σ : L2.St} {R : VK} (G : V → Hp → Prop) (h1 : ∀ R' : VK, (∀ v H', G v H' → R' v H') → tIf tt ta tb σ H R') (h2 : ∀ v H', G v H' → R v H') : tIf tt ta tb σ H R := h1 R h2
theorem putF_ne {f g : Str} {v x : V} {r : List (Str × V)} (h : (g == f) = false) : putF f v ((g, x) :: r) = (g, x) :: putF f v r := by
  rw [putF, if_neg (fun z => by rw [z] at h; simp at h)]
theorem putF_eq {f : Str} {v x : V} {r : List (Str × V)} : putF f v ((f, x) :: r) = (f, v) :: r := by rw [putF, if_pos rfl]
theorem pc1 {p : Str × V} {r s : List (Str × V)} (h : r = s) : p :: r = p :: s := by rw [h]
end
end Dq
end

section
-- part Ftx
set_option Elab.async false
set_option linter.all false
set_option maxRecDepth 100000
set_option maxHeartbeats 2000000
/-! Ftx: find between two places, is True, == of data at any depth beside a flat one, int(text), join -/
namespace Ftx
open PySem PySem.Spec PyProof.Rows L2 Fw
open SX (S_len S_inj S_cat)
open Builtin.Str PySem.StrLaws
theorem toIx {n q : Nat} : toIndexW n (q : Int) = min q n := by
  unfold toIndexW
  rw [if_neg (by omega)]
  omega
/-- a sign's place among those below hi -/
theorem occ_in (x y : Str) (lo hi : Nat) :
    (occurrences x y lo hi 1 = [] ∧ ∀ i, lo ≤ i → ¬ At x y hi i) ∨ ∃ i r, occurrences x y lo hi 1 = i :: r ∧ lo ≤ i ∧ At x y hi i ∧ ∀ k, lo ≤ k → k < i → ¬ At x y hi k := by
  rw [occ_eq]
  rcases occ_first x y hi 1 (by decide) (List.range' lo (hi + 1 - lo)) lo (fun i hi => by have := List.mem_range'_1.mp hi; omega) with ⟨h0, hn⟩ | ⟨pre, a, post, e, h0, ha, hn⟩
  · exact .inl ⟨by rw [h0], fun i hlo hi => hn i (by have := hi.1; rw [List.mem_range'_1]; omega) hi⟩
  · have hs := range'_split_from e
    refine .inr ⟨a, ((forIn (List.range' lo (hi + 1 - lo)) ((#[] : Array Nat), lo) (occBody x y hi 1)).run.fst.toList).tail, ?_, hs.1, ha, fun k hk0 hk => hn k (hs.2 k hk0 hk)⟩
    generalize (forIn (List.range' lo (hi + 1 - lo)) ((#[] : Array Nat), lo) (occBody x y hi 1)).run.fst = arr at h0
    have h1 : arr.toList[0]? = some a := by simpa using h0
    cases hL : arr.toList with
    | nil => rw [hL] at h1; cases h1
    | cons b r => rw [hL] at h1; cases h1; rfl
theorem find4_one (l : List Nat) (c p n : Nat) (hp : p ≤ l.length) : Txt.findIn (S l) (S [c]) (p : Int) ((p + n : Nat) : Int) = (match ((l.drop p).take n).findIdx? (· == c) with | some k => ((p + k : Nat) : Int) | none => -1) := by
  unfold Txt.findIn
  rw [fromIx, toIx, S_len]
  have one : ∀ i, p ≤ i → (At (S l) (S [c]) (min (p + n) l.length) i ↔ ((l.drop p).take n)[i - p]? = some c) := by
    intro i hpi
    unfold At
    rw [S_len, subAt_eq, S_len]
    simp only [SX.S, List.length_singleton]
    rw [List.getElem?_take, List.getElem?_drop]
    constructor
    · rintro ⟨h1, h2⟩
      have hi : i < l.length := by omega
      rw [if_pos (by omega), show p + (i - p) = i by omega, List.getElem?_eq_getElem hi]
      have h3 : List.take 1 (List.drop i l) = [c] := by simpa using h2
      rw [List.drop_eq_getElem_cons hi] at h3
      exact congrArg some (List.cons.inj h3).1
    · intro h
      by_cases hn : i - p < n
      · rw [if_pos hn, show p + (i - p) = i by omega] at h
        obtain ⟨hi, e⟩ := List.getElem?_eq_some_iff.mp h
        refine ⟨by omega, ?_⟩
        have h3 : List.take 1 (List.drop i l) = [c] := by rw [List.drop_eq_getElem_cons hi, e]; rfl
        simpa using h3
      · rw [if_neg hn] at h
        cases h
  rcases occ_in (S l) (S [c]) p (min (p + n) l.length) with ⟨h0, hn⟩ | ⟨i, r, h0, hi, ha, hn⟩
  · rw [h0]
    have : ((l.drop p).take n).findIdx? (· == c) = none := by
      rw [List.findIdx?_eq_none_iff]
      intro x hx
      obtain ⟨k, hk, e⟩ := List.getElem_of_mem hx
      cases q : x == c with
      | false => rfl
      | true =>
        refine absurd ((one (p + k) (by omega)).mpr ?_) (hn (p + k) (by omega))
        rw [show p + k - p = k by omega, List.getElem?_eq_getElem hk, e, eq_of_beq q]
    rw [this]
  · rw [h0]
    have hk : ((l.drop p).take n).findIdx? (· == c) = some (i - p) := by
      rw [List.findIdx?_eq_some_iff_getElem]
      obtain ⟨hl, e⟩ := List.getElem?_eq_some_iff.mp ((one i hi).mp ha)
      refine ⟨hl, by simp [e], fun j hj => ?_⟩
      have := hn (p + j) (by omega) (by omega)
      rw [one _ (by omega), show p + j - p = j by omega, List.getElem?_eq_getElem (by omega)] at this
      intro q
      exact this (congrArg some (eq_of_beq (by simpa using q)))
    rw [hk]
    show (i : Int) = ((p + (i - p) : Nat) : Int)
    omega
theorem find4_some {l : List Nat} {c p n k : Nat} (hp : p ≤ l.length) (h : ((l.drop p).take n).findIdx? (· == c) = some k) : Txt.findIn (S l) (S [c]) (p : Int) ((p + n : Nat) : Int) = ((p + k : Nat) : Int) := by rw [find4_one l c p n hp, h]
theorem find4_none {l : List Nat} {c p n : Nat} (hp : p ≤ l.length) (h : ((l.drop p).take n).findIdx? (· == c) = none) : Txt.findIn (S l) (S [c]) (p : Int) ((p + n : Nat) : Int) = -1 := by rw [find4_one l c p n hp, h]
theorem starts_one (l : List Nat) (c : Nat) : Txt.startswith (S l) (S [c]) = decide (l.head? = some c) := by
  have h := starts3 l [c] 0
  have e : Txt.startswith3 (S l) (S [c]) ((0 : Nat) : Int) = Txt.startswith (S l) (S [c]) := by
    unfold Txt.startswith3 Txt.startswith
    rw [fromIx]
  rw [← e, h]
  cases l with
  | nil => simp
  | cons a r => simp
section
variable {X : Cx}
/-- x is True, x is False -/
def rIsT : R2 := fun x y H Q => ∃ b, y = .bl b ∧ Q (.bl (decide (x = .bl b))) H
theorem op_isT : OpR X (compareOp .Is) rIsT := by
  intro pins s σ H x y v u Q I rx ry h
  obtain ⟨b, rfl, q⟩ := h
  cases (show u = Value.bool b from ry)
  have e : (v == Value.bool b) = decide (x = V.bl b) := by
    cases x with
    | bl a => cases rx; cases a <;> cases b <;> rfl
    | non => cases rx; rfl
    | ref a => cases rx; rfl
    | ty n => cases rx; rfl
    | int i => obtain ⟨t, rfl⟩ := rx; rfl
    | str i => obtain ⟨t, rfl⟩ := rx; rfl
    | byt i => obtain ⟨t, rfl⟩ := rx; rfl
    | flt i => obtain ⟨t, rfl⟩ := rx; rfl
  by_cases c : x = V.bl b
  · subst c
    cases (show v = Value.bool b from rx)
    exact wpAny_is_self rfl ⟨.bl true, H, I, rfl, by simpa using q⟩
  · rw [decide_eq_false c] at e
    rw [decide_eq_false c] at q
    have pl : plainIs v (Value.bool b) = true := by
      cases x with
      | bl a => cases rx; rfl
      | non => cases rx; rfl
      | ref a => cases rx; rfl
      | ty n => cases rx; rfl
      | int i => obtain ⟨t, rfl⟩ := rx; rfl
      | str i => obtain ⟨t, rfl⟩ := rx; rfl
      | byt i => obtain ⟨t, rfl⟩ := rx; rfl
      | flt i => obtain ⟨t, rfl⟩ := rx; rfl
    exact wpAny_is_other pl (fun z => by rw [z] at e; simp at e) ⟨.bl false, H, I, rfl, q⟩
/-- == and != of data, one of the two not deep -/
def rEqC (K : PySem.W.Frag) : R2 := fun x y H Q => ∃ d e, Dp K H x d ∧ Dp K H y e ∧ d.canLay0 = true ∧ e.canLay0 = true ∧ min d.depth e.depth ≤ 64 ∧ Q (.bl (PyData.eqv d e)) H
def rNeC (K : PySem.W.Frag) : R2 := fun x y H Q => ∃ d e, Dp K H x d ∧ Dp K H y e ∧ d.canLay0 = true ∧ e.canLay0 = true ∧ min d.depth e.depth ≤ 64 ∧ Q (.bl (!PyData.eqv d e)) H
theorem op_eqC (hu : X.A.units + 64 < cLine) : OpR X (compareOp .Eq) (rEqC X.K) := by
  intro pins s σ H x y v u Q I rx ry h
  obtain ⟨d, e, hd, he, sd, se, hm, q⟩ := h
  obtain ⟨as, r1⟩ := Dp.reads I d x v hd rx
  obtain ⟨bs, r2⟩ := Dp.reads I e y u he ry
  exact SeqAt.compareEq_reads r1 r2 sd se (by omega) (fin_bl I q rfl)
theorem op_neC (hu : X.A.units + 64 < cLine) : OpR X (compareOp .NotEq) (rNeC X.K) := by
  intro pins s σ H x y v u Q I rx ry h
  obtain ⟨d, e, hd, he, sd, se, hm, q⟩ := h
  obtain ⟨as, r1⟩ := Dp.reads I d x v hd rx
  obtain ⟨bs, r2⟩ := Dp.reads I e y u he ry
  exact SeqAt.compareNe_reads r1 r2 sd se (by omega) (fin_bl I q rfl)
end
end Ftx
end

section
-- part K07P
set_option Elab.async false
set_option linter.all false
set_option maxRecDepth 100000
set_option maxHeartbeats 2000000
/-! K07P: the text of a tree, and a tree from a text -/
namespace M7
open PySem PySem.Spec PyProof.Rows L2 Fw
open SX (S_len S_inj S_cat)
open TL (numL numL_digits numL_ne numL_val numL_free)
/-- a whole number's signs -/
def intL (i : Int) : List Nat := if i < 0 then 45 :: numL i.natAbs else numL i.natAbs
mutual
def tx : PyData → List Nat
  | .none => [110]
  | .bool b => if b = true then [116] else [102]
  | .str x => numL x.cps.toList.length ++ 58 :: x.cps.toList
  | .tuple ds => 40 :: (txs ds ++ [41])
  | .int i => 35 :: (intL i ++ [59])
  | .list _ => []
  | .dict _ => []
def txs : List PyData → List Nat
  | [] => []
  | d :: ds => tx d ++ txs ds
end
/-- a tree of less than b open at once -/
def OkB : Nat → PyData → Prop
  | 0, _ => False
  | _ + 1, .none => True
  | _ + 1, .bool _ => True
  | _ + 1, .str x => (numL x.cps.toList.length).length ≤ 30
  | _ + 1, .int i => (intL i).length ≤ 30
  | b + 1, .tuple ds => ∀ d ∈ ds, OkB b d
  | _ + 1, .list _ => False
  | _ + 1, .dict _ => False
theorem OkB.up : ∀ {b : Nat} {d : PyData}, OkB b d → OkB (b + 1) d
  | 0, _, h => h.elim
  | _ + 1, .none, _ => trivial
  | _ + 1, .bool _, _ => trivial
  | _ + 1, .str _, h => h
  | _ + 1, .int _, h => h
  | b + 1, .tuple ds, h => fun d hd => OkB.up (h d hd)
  | _ + 1, .list _, h => h.elim
  | _ + 1, .dict _, h => h.elim
theorem OkB.le {b c : Nat} {d : PyData} (h : OkB b d) (hc : b ≤ c) : OkB c d := by
  induction hc with
  | refl => exact h
  | step _ ih => exact ih.up
/-! ### numbers -/
def isD (c : Nat) : Bool := decide (48 ≤ c) && decide (c ≤ 57)
def digs (w : List Nat) : List Nat := if w.head? = some 45 then w.tail else w
def valI (w : List Nat) : Int := if w.head? = some 45 then -((NumText.digitsVal w.tail : Nat) : Int) else ((NumText.digitsVal w : Nat) : Int)
def numB (e : Nat) (r : List Nat) : Option (Int × List Nat) :=
  match (r.take 31).findIdx? (· == e) with
  | none => none
  | some k => if digs (r.take k) = [] ∨ (digs (r.take k)).all isD = false then none else some (valI (r.take k), r.drop (k + 1))
def ctB (r : List Nat) : Option (List Nat × List Nat) :=
  match numB 58 r with
  | none => none
  | some (n, r') => if n < 0 ∨ (r'.length : Int) < n then none else some (r'.take n.toNat, r'.drop n.toNat)
def its (it : List Nat → Option (PyData × List Nat)) : Nat → List Nat → Option (List PyData × List Nat)
  | 0, _ => none
  | _ + 1, [] => none
  | f + 1, c :: r => if c = 41 then some ([], r) else match it (c :: r) with
    | none => none
    | some (d, r') => match its it f r' with
      | none => none
      | some (ds, r'') => some (d :: ds, r'')
def item : Nat → List Nat → Option (PyData × List Nat)
  | 0, _ => none
  | _ + 1, [] => none
  | b + 1, c :: r => if c = 110 then some (.none, r) else if c = 116 then some (.bool true, r) else if c = 102 then some (.bool false, r)
    else if c = 40 then (its (item b) (r.length + 1) r).map fun p => (.tuple p.1, p.2)
    else if c = 35 then (numB 59 r).map fun p => (.int p.1, p.2)
    else (ctB (c :: r)).map fun p => (.str (S p.1), p.2)
/-! ### each number's signs are read back -/
theorem intL_last (i : Int) (e : Nat) (he : e ≠ 45) (h : e < 48 ∨ 57 < e) : e ∉ intL i := by
  unfold intL
  split
  · intro z
    rcases List.mem_cons.mp z with z | z
    · exact he z
    · exact numL_free h z
  · exact numL_free h
theorem numL_head (n : Nat) : (numL n).head? ≠ some 45 := fun z => by
  cases q : numL n with
  | nil => rw [q] at z; cases z
  | cons a r =>
    rw [q] at z
    cases z
    have := numL_digits n 45 (by rw [q]; exact List.mem_cons_self)
    omega
theorem digs_int (i : Int) : digs (intL i) = numL i.natAbs := by
  unfold digs intL
  split
  · rfl
  · exact if_neg (numL_head _)
theorem val_int (i : Int) : valI (intL i) = i := by
  unfold valI intL
  by_cases h : i < 0
  · rw [if_pos h]
    show -((NumText.digitsVal (numL i.natAbs) : Nat) : Int) = i
    rw [numL_val]
    omega
  · rw [if_neg h, if_neg (numL_head _), numL_val]
    omega
theorem all_num (n : Nat) : (numL n).all isD = true := List.all_eq_true.mpr fun c hc => by
  have := numL_digits n c hc
  unfold isD
  rw [decide_eq_true this.1, decide_eq_true this.2]
  rfl
theorem idx_app {w r : List Nat} {e : Nat} (hw : e ∉ w) (hl : w.length ≤ 30) : ((w ++ e :: r).take 31).findIdx? (· == e) = some w.length := by
  rw [List.findIdx?_eq_some_iff_getElem]
  have h1 : ((w ++ e :: r).take 31)[w.length]? = some e := by
    rw [List.getElem?_take, if_pos (by omega), List.getElem?_append_right (Nat.le_refl _)]
    simp
  obtain ⟨h2, h3⟩ := List.getElem?_eq_some_iff.mp h1
  refine ⟨h2, by simp [h3], fun j hj => ?_⟩
  have h4 : ((w ++ e :: r).take 31)[j]? = some w[j] := by
    rw [List.getElem?_take, if_pos (by omega), List.getElem?_append_left hj, List.getElem?_eq_getElem hj]
  obtain ⟨h5, h6⟩ := List.getElem?_eq_some_iff.mp h4
  intro q
  have q2 : w[j] = e := by rw [← h6]; exact eq_of_beq (by simpa using q)
  exact hw (q2 ▸ List.getElem_mem hj)
theorem numB_int (i : Int) (e : Nat) (r : List Nat) (he : e = 59 ∨ e = 58) (hl : (intL i).length ≤ 30) : numB e (intL i ++ e :: r) = some (i, r) := by
  unfold numB
  rw [idx_app (intL_last i e (by omega) (by omega)) hl]
  show (if digs ((intL i ++ e :: r).take (intL i).length) = [] ∨ _ then _ else _) = _
  rw [List.take_left', digs_int, if_neg, val_int]
  · rw [show (intL i ++ e :: r).drop ((intL i).length + 1) = r from by rw [← List.drop_drop, List.drop_left']; rfl; rfl]
  · rintro (h | h)
    · exact numL_ne _ h
    · rw [all_num] at h; cases h
  · rfl
theorem numB_nat (n : Nat) (r : List Nat) (hl : (numL n).length ≤ 30) : numB 58 (numL n ++ 58 :: r) = some ((n : Int), r) := by
  have h := numB_int (n : Int) 58 r (.inr rfl) (by unfold intL; rw [if_neg (by omega)]; exact hl)
  unfold intL at h
  rw [if_neg (by omega)] at h
  exact h
theorem ctB_str (l r : List Nat) (hl : (numL l.length).length ≤ 30) : ctB (numL l.length ++ 58 :: (l ++ r)) = some (l, r) := by
  unfold ctB
  rw [numB_nat _ _ hl]
  show (if _ then _ else _) = _
  rw [if_neg (by rw [List.length_append]; omega), Int.toNat_natCast, List.take_left' rfl, List.drop_left' rfl]
theorem num_cons (n : Nat) : ∃ c r, numL n = c :: r ∧ 48 ≤ c ∧ c ≤ 57 := by
  cases q : numL n with
  | nil => exact absurd q (numL_ne n)
  | cons c r =>
    have := numL_digits n c (by rw [q]; exact List.mem_cons_self)
    exact ⟨c, r, rfl, this⟩
/-- a tree's text begins with another sign than a closed bracket -/
theorem tx_head {b : Nat} {d : PyData} (h : OkB b d) : ∃ c r, tx d = c :: r ∧ c ≠ 41 := by
  cases b with
  | zero => exact h.elim
  | succ b =>
    cases d with
    | none => exact ⟨110, [], by rw [tx], by decide⟩
    | bool k => cases k with
      | true => exact ⟨116, [], by simp [tx], by decide⟩
      | false => exact ⟨102, [], by simp [tx], by decide⟩
    | str x =>
      obtain ⟨c, r, e, h1, h2⟩ := num_cons x.cps.toList.length
      exact ⟨c, r ++ 58 :: x.cps.toList, by rw [tx, e]; rfl, by omega⟩
    | int i => exact ⟨35, _, by rw [tx], by decide⟩
    | tuple ds => exact ⟨40, _, by rw [tx], by decide⟩
    | list _ => exact h.elim
    | dict _ => exact h.elim
theorem its_back {it : List Nat → Option (PyData × List Nat)} : ∀ (ds : List PyData) (f : Nat) (r : List Nat), (∀ d ∈ ds, (∃ c q, tx d = c :: q ∧ c ≠ 41) ∧ ∀ r, it (tx d ++ r) = some (d, r)) → (txs ds).length < f → its it f (txs ds ++ 41 :: r) = some (ds, r)
  | [], 0, _, _, h => by omega
  | [], f + 1, r, _, _ => by rw [txs]; rfl
  | d :: ds, 0, _, _, h => by omega
  | d :: ds, f + 1, r, H, h => by
    obtain ⟨⟨c, q, e, hc⟩, hi⟩ := H d List.mem_cons_self
    rw [txs, List.append_assoc]
    have hh := hi (txs ds ++ 41 :: r)
    rw [txs, List.length_append] at h
    rw [e] at hh h ⊢
    rw [List.cons_append] at hh ⊢
    show (if c = 41 then _ else _) = _
    rw [if_neg hc, hh]
    show (match its it f (txs ds ++ 41 :: r) with | none => none | some (ds', r'') => some (d :: ds', r'')) = _
    rw [its_back ds f r (fun d hd => H d (List.mem_cons_of_mem _ hd)) (by simp only [List.length_cons] at h; omega)]
theorem item_back : ∀ (b : Nat) (d : PyData) (r : List Nat), OkB b d → item b (tx d ++ r) = some (d, r)
  | 0, _, _, h => h.elim
  | b + 1, .none, r, _ => by rw [tx]; rfl
  | b + 1, .bool true, r, _ => by rw [tx]; rfl
  | b + 1, .bool false, r, _ => by rw [tx]; rfl
  | b + 1, .str x, r, h => by
    obtain ⟨c, q, e, h1, h2⟩ := num_cons x.cps.toList.length
    have hc := ctB_str x.cps.toList r h
    rw [tx, List.append_assoc, List.cons_append]
    rw [e, List.cons_append] at hc ⊢
    show (if c = 110 then _ else _) = _
    rw [if_neg (by omega), if_neg (by omega), if_neg (by omega), if_neg (by omega), if_neg (by omega), hc]
    show some (PyData.str (S x.cps.toList), r) = _
    rw [show S x.cps.toList = x from SX.S_tl x]
  | b + 1, .int i, r, h => by
    rw [tx, List.cons_append, List.append_assoc]
    show (numB 59 (intL i ++ 59 :: r)).map _ = _
    rw [numB_int i 59 r (.inl rfl) h]
    rfl
  | b + 1, .tuple ds, r, h => by
    rw [tx, List.cons_append, List.append_assoc]
    show (its (item b) ((txs ds ++ 41 :: r).length + 1) (txs ds ++ 41 :: r)).map _ = _
    rw [its_back ds _ r (fun d hd => ⟨tx_head (h d hd), fun r => item_back b d r (h d hd)⟩) (by simp only [List.length_append]; omega)]
    rfl
  | b + 1, .list _, _, h => h.elim
  | b + 1, .dict _, _, h => h.elim
/-! ### what is read is a tree, and no longer than its text -/
theorem digits_lt {w : List Nat} (ha : w.all isD = true) : NumText.digitsVal w < 10 ^ w.length := by
  have key : ∀ (w : List Nat) (a k : Nat), w.all isD = true → a < 10 ^ k → w.foldl (fun acc c => acc * 10 + (c - 48)) a < 10 ^ (k + w.length) := by
    intro w
    induction w with
    | nil => intro a k _ h; exact h
    | cons c w ih =>
      intro a k ha h
      rw [List.all_cons, Bool.and_eq_true] at ha
      have hc : c ≤ 57 := by
        have := ha.1
        unfold isD at this
        rw [Bool.and_eq_true] at this
        exact of_decide_eq_true this.2
      rw [List.foldl_cons, List.length_cons, show k + (w.length + 1) = (k + 1) + w.length by omega]
      refine ih _ (k + 1) ha.2 ?_
      rw [Nat.pow_succ]
      omega
  have h := key w 0 0 ha (by decide)
  rwa [Nat.zero_add] at h
theorem digits_len {w : List Nat} (hw : w ≠ []) (ha : w.all isD = true) : (numL (NumText.digitsVal w)).length ≤ w.length := TL.numL_len (List.length_pos_iff.mpr hw) (digits_lt ha)
theorem num_lt (n : Nat) : n < 10 ^ (numL n).length := by
  have h := digits_lt (all_num n)
  rwa [numL_val] at h
theorem int_lt {i : Int} (h : (intL i).length ≤ 30) : i.natAbs < 10 ^ 30 := by
  have h1 := num_lt i.natAbs
  have h2 : (numL i.natAbs).length ≤ 30 := by
    unfold intL at h
    split at h
    · rw [List.length_cons] at h; omega
    · exact h
  exact Nat.lt_of_lt_of_le h1 (Nat.pow_le_pow_right (by decide) h2)
theorem val_len {w : List Nat} (h1 : digs w ≠ []) (h2 : (digs w).all isD = true) : (intL (valI w)).length ≤ w.length := by
  unfold digs at h1 h2
  unfold valI intL
  by_cases c : w.head? = some 45
  · rw [if_pos c] at h1 h2 ⊢
    have hw : w.length = w.tail.length + 1 := by
      cases w with
      | nil => cases c
      | cons a r => rfl
    have hl := digits_len h1 h2
    split
    · rw [List.length_cons, show (-((NumText.digitsVal w.tail : Nat) : Int)).natAbs = NumText.digitsVal w.tail by omega]; omega
    · rw [show (-((NumText.digitsVal w.tail : Nat) : Int)).natAbs = NumText.digitsVal w.tail by omega]; omega
  · rw [if_neg c] at h1 h2 ⊢
    rw [if_neg (by omega), Int.natAbs_natCast]
    exact digits_len h1 h2
theorem numB_some {e : Nat} {r r' : List Nat} {n : Int} (h : numB e r = some (n, r')) : ∃ k, k ≤ 30 ∧ k < r.length ∧ (r.take 31).findIdx? (· == e) = some k ∧ digs (r.take k) ≠ [] ∧ (digs (r.take k)).all isD = true ∧ n = valI (r.take k) ∧ r' = r.drop (k + 1) ∧ (intL n).length ≤ k := by
  unfold numB at h
  cases q : (r.take 31).findIdx? (· == e) with
  | none => rw [q] at h; cases h
  | some k =>
    rw [q] at h
    have hk : k < (r.take 31).length := (List.findIdx?_eq_some_iff_getElem.mp q).1
    rw [List.length_take] at hk
    by_cases c : digs (r.take k) = [] ∨ (digs (r.take k)).all isD = false
    · exact absurd (show (none : Option (Int × List Nat)) = some (n, r') by rw [← h]; exact (if_pos c).symm) (by intro z; cases z)
    · have h2 : some (valI (r.take k), r.drop (k + 1)) = some (n, r') := by rw [← h]; exact (if_neg c).symm
      cases h2
      have c1 : digs (r.take k) ≠ [] := fun z => c (.inl z)
      have c2 : (digs (r.take k)).all isD = true := by
        cases z : (digs (r.take k)).all isD with
        | true => rfl
        | false => exact absurd (.inr z) c
      refine ⟨k, by omega, by omega, rfl, c1, c2, rfl, rfl, ?_⟩
      have := val_len c1 c2
      rw [List.length_take] at this
      omega
/-- what an item read must be -/
def Rd (b : Nat) (r : List Nat) (o : Option (PyData × List Nat)) : Prop := ∀ d r', o = some (d, r') → OkB b d ∧ ∃ k, 0 < k ∧ k ≤ r.length ∧ r' = r.drop k ∧ (tx d).length ≤ k
theorem its_ok {b : Nat} {it : List Nat → Option (PyData × List Nat)} (H : ∀ r, Rd b r (it r)) : ∀ (f : Nat) (r r' : List Nat) (ds : List PyData), its it f r = some (ds, r') → (∀ d ∈ ds, OkB b d) ∧ ∃ k, 0 < k ∧ k ≤ r.length ∧ r' = r.drop k ∧ (txs ds).length + 1 ≤ k
  | 0, _, _, _, h => by cases h
  | f + 1, [], _, _, h => by cases h
  | f + 1, c :: r, r', ds, h => by
    unfold its at h
    by_cases hc : c = 41
    · rw [if_pos hc] at h
      cases h
      exact ⟨fun d hd => (nomatch hd), 1, by omega, by rw [List.length_cons]; omega, rfl, by rw [txs]; decide⟩
    · rw [if_neg hc] at h
      cases q : it (c :: r) with
      | none => rw [q] at h; cases h
      | some p =>
        obtain ⟨d, r1⟩ := p
        rw [q] at h
        obtain ⟨hd, k, h0, h1, rfl, h2⟩ := H _ d r1 q
        cases q2 : its it f ((c :: r).drop k) with
        | none => rw [show (match some (d, (c :: r).drop k) with | none => none | some (d, r') => match its it f r' with | none => none | some (ds, r'') => some (d :: ds, r'')) = none by show (match its it f ((c :: r).drop k) with | none => none | some (ds, r'') => some (d :: ds, r'')) = none; rw [q2]] at h; cases h
        | some p2 =>
          obtain ⟨ds2, r2⟩ := p2
          have h3 : some (d :: ds2, r2) = some (ds, r') := by rw [← h]; show _ = (match its it f ((c :: r).drop k) with | none => none | some (ds, r'') => some (d :: ds, r'')); rw [q2]
          cases h3
          obtain ⟨hds, k2, g0, g1, rfl, g2⟩ := its_ok H f _ _ _ q2
          rw [List.length_drop] at g1
          refine ⟨fun e he => ?_, k + k2, by omega, by omega, by rw [List.drop_drop], by rw [txs, List.length_append]; omega⟩
          rcases List.mem_cons.mp he with z | z
          · rw [z]; exact hd
          · exact hds e z
theorem item_ok : ∀ (b : Nat) (r : List Nat), Rd b r (item b r)
  | 0, _ => fun _ _ h => by cases h
  | b + 1, [] => fun _ _ h => by cases h
  | b + 1, c :: r => fun d r' h => by
    unfold item at h
    have one : ∀ (e : PyData), OkB (b + 1) e → (tx e).length ≤ 1 → some (e, r) = some (d, r') → OkB (b + 1) d ∧ ∃ k, 0 < k ∧ k ≤ (c :: r).length ∧ r' = (c :: r).drop k ∧ (tx d).length ≤ k := fun e h1 h2 h3 => by
      cases h3
      exact ⟨h1, 1, by omega, by rw [List.length_cons]; omega, rfl, h2⟩
    by_cases c1 : c = 110
    · rw [if_pos c1] at h; exact one .none trivial (by rw [tx]; decide) h
    rw [if_neg c1] at h
    by_cases c2 : c = 116
    · rw [if_pos c2] at h; exact one (.bool true) trivial (by rw [tx]; decide) h
    rw [if_neg c2] at h
    by_cases c3 : c = 102
    · rw [if_pos c3] at h; exact one (.bool false) trivial (by rw [tx]; decide) h
    rw [if_neg c3] at h
    by_cases c4 : c = 40
    · rw [if_pos c4] at h
      obtain ⟨⟨ds, r1⟩, q, z⟩ := Option.map_eq_some_iff.mp h
      cases z
      obtain ⟨hds, k, h0, h1, rfl, h2⟩ := its_ok (item_ok b) _ _ _ _ q
      exact ⟨hds, k + 1, by omega, by rw [List.length_cons]; omega, rfl, by rw [tx, List.length_cons, List.length_append]; simp only [List.length_singleton]; omega⟩
    rw [if_neg c4] at h
    by_cases c5 : c = 35
    · rw [if_pos c5] at h
      obtain ⟨⟨n, r1⟩, q, z⟩ := Option.map_eq_some_iff.mp h
      cases z
      obtain ⟨k, h0, h1, _, _, _, _, rfl, h2⟩ := numB_some q
      exact ⟨Nat.le_trans h2 h0, k + 2, by omega, by rw [List.length_cons]; omega, rfl, by rw [tx, List.length_cons, List.length_append]; simp only [List.length_singleton]; omega⟩
    rw [if_neg c5] at h
    obtain ⟨⟨l, r1⟩, q, z⟩ := Option.map_eq_some_iff.mp h
    cases z
    unfold ctB at q
    cases q2 : numB 58 (c :: r) with
    | none => rw [q2] at q; cases q
    | some p =>
      obtain ⟨n, r2⟩ := p
      rw [q2] at q
      by_cases hn : n < 0 ∨ (r2.length : Int) < n
      · exact absurd (show (none : Option (List Nat × List Nat)) = some (l, r1) by rw [← q]; exact (if_pos hn).symm) (by intro z; cases z)
      · have q3 : some (r2.take n.toNat, r2.drop n.toNat) = some (l, r1) := by rw [← q]; exact (if_neg hn).symm
        cases q3
        obtain ⟨k, h0, h1, _, _, _, _, rfl, h2⟩ := numB_some q2
        have hl : ((c :: r).drop (k + 1)).length = (c :: r).length - (k + 1) := List.length_drop
        have e1 : ((List.take n.toNat ((c :: r).drop (k + 1)))).length = n.toNat := by rw [List.length_take]; omega
        have e2 : (numL n.toNat).length ≤ k := by
          unfold intL at h2
          rw [if_neg (by omega)] at h2
          rw [show n.toNat = n.natAbs by omega]
          exact h2
        refine ⟨?_, k + 1 + n.toNat, by omega, by omega, by rw [List.drop_drop], ?_⟩
        · show (numL (List.take n.toNat ((c :: r).drop (k + 1))).length).length ≤ 30
          rw [e1]
          omega
        · rw [tx, List.length_append, List.length_cons]
          show (numL (List.take n.toNat ((c :: r).drop (k + 1))).length).length + ((List.take n.toNat ((c :: r).drop (k + 1))).length + 1) ≤ _
          rw [e1]
          omega
/-! ### brackets in brackets -/
theorem deep_none : ∀ (b m : Nat) (r : List Nat), b < m → item b (List.replicate m 40 ++ r) = none
  | 0, _, _, _ => rfl
  | b + 1, 0, _, h => by omega
  | b + 1, m + 1, r, h => by
    rw [List.replicate_succ, List.cons_append]
    show (its (item b) _ (List.replicate m 40 ++ r)).map _ = none
    have hi := deep_none b m r (by omega)
    cases m with
    | zero => omega
    | succ m =>
      rw [List.replicate_succ, List.cons_append] at hi ⊢
      show (its (item b) (_ + 1) (40 :: (List.replicate m 40 ++ r))).map _ = none
      unfold its
      rw [if_neg (by decide), hi]
      rfl
def nest : Nat → PyData
  | 0 => .none
  | 1 => .tuple []
  | m + 2 => .tuple [nest (m + 1)]
theorem tx_nest : ∀ m, tx (nest (m + 1)) = List.replicate (m + 1) 40 ++ List.replicate (m + 1) 41
  | 0 => by rw [nest, tx, txs]; rfl
  | m + 1 => by
    rw [nest, tx, txs, txs, tx_nest m, List.append_nil, List.append_assoc, show ([41] : List Nat) = List.replicate 1 41 from rfl, List.replicate_append_replicate, ← List.cons_append, ← List.replicate_succ]
theorem ok_nest : ∀ m, OkB (m + 1) (nest (m + 1))
  | 0 => fun d hd => (nomatch hd)
  | m + 1 => fun d hd => by rw [List.mem_singleton.mp hd]; exact ok_nest m
/-- two trees of one text are one -/
theorem tx_inj {b : Nat} {d e : PyData} (hd : OkB b d) (he : OkB b e) (h : tx d = tx e) : d = e := by
  have h1 := item_back b d [] hd
  have h2 := item_back b e [] he
  rw [h, h2] at h1
  cases h1
  rfl
end M7
end

section
-- part Ftw
set_option Elab.async false
set_option linter.all false
set_option maxRecDepth 100000
set_option maxHeartbeats 2000000
/-! Ftw: readings for Ftx -/
namespace Ftw
open PySem PySem.Spec PyProof.Rows L2 Fw Ftx
open SX (S_len S_inj S_cat)
section
variable {K : PySem.W.Frag} {H : Hp} {Q : VK} {σ : L2.St} {i : Int} {x : Str} {a : Addr} {b : Bool}
theorem isT_no {v : V} (h : v ≠ .bl b) (q : Q (.bl false) H) : rIsT v (.bl b) H Q := ⟨b, rfl, by rw [decide_eq_false h]; exact q⟩
theorem w_isTI (q : Q (.bl false) H) : rIsT (.int i) (.bl b) H Q := isT_no (fun z => by cases z) q
theorem w_isTS (q : Q (.bl false) H) : rIsT (.str x) (.bl b) H Q := isT_no (fun z => by cases z) q
theorem w_isTR (q : Q (.bl false) H) : rIsT (.ref a) (.bl b) H Q := isT_no (fun z => by cases z) q
theorem w_isTN (q : Q (.bl false) H) : rIsT .non (.bl b) H Q := isT_no (fun z => by cases z) q
theorem w_isTtt (q : Q (.bl true) H) : rIsT (.bl b) (.bl b) H Q := ⟨b, rfl, by rw [decide_eq_true rfl]; exact q⟩
theorem w_isTft (q : Q (.bl false) H) : rIsT (.bl false) (.bl true) H Q := isT_no (fun z => by cases z) q
theorem w_isTtf (q : Q (.bl false) H) : rIsT (.bl true) (.bl false) H Q := isT_no (fun z => by cases z) q
theorem w_isNS (q : Q (.bl false) H) : rIsN (.str x) V.non H Q := Dq.w_isNb (decide_eq_false (fun z => by cases z)) q
theorem w_isNB (q : Q (.bl false) H) : rIsN (.bl b) V.non H Q := Dq.w_isNb (decide_eq_false (fun z => by cases z)) q
theorem ty_sqT {xs : List V} (h : SqT K H a xs) : TyX K H (.ref a) (.type "tuple") := by
  rcases h with (h | ⟨o, h⟩) | ⟨o, its, n, h1, h2, _⟩
  · exact .base (.tup h)
  · exact .fTuple h
  · exact .kTuple h1 h2
theorem w_isiRS {xs : List V} (h : SqT K H a xs) (q : Q (.bl false) H) : L2.rIsi K [.ref a, .ty "str"] H Q := ⟨_, _, _, _, _, rfl, .ty _, ty_sqT h, rfl, q⟩
theorem w_isiRT {xs : List V} (h : SqT K H a xs) (q : Q (.bl true) H) : L2.rIsi K [.ref a, .ty "tuple"] H Q := ⟨_, _, _, _, _, rfl, .ty _, ty_sqT h, rfl, q⟩
theorem w_isiRI {xs : List V} (h : SqT K H a xs) (q : Q (.bl false) H) : L2.rIsi K [.ref a, .ty "int"] H Q := ⟨_, _, _, _, _, rfl, .ty _, ty_sqT h, rfl, q⟩
theorem w_isiIT (q : Q (.bl false) H) : L2.rIsi K [.int i, .ty "tuple"] H Q := ⟨_, _, _, _, _, rfl, .ty _, .base (.int i), rfl, q⟩
theorem w_isiII (q : Q (.bl true) H) : L2.rIsi K [.int i, .ty "int"] H Q := ⟨_, _, _, _, _, rfl, .ty _, .base (.int i), rfl, q⟩
theorem ofString_app (a b : String) : Str.ofString (a ++ b) = Str.ofString a ++ Str.ofString b := by
  refine TL.ext_tl ?_
  rw [TL.tl_append, Str.ofString_eq_toList, Str.ofString_eq_toList, Str.ofString_eq_toList]
  simp [TL.tl, String.toList_append]
/-- str(a whole number) -/
theorem int_S (i : Int) : Str.ofString (toString i) = S (M7.intL i) := by
  unfold M7.intL
  split
  · rename_i h
    rw [PyProof.Rows.toString_neg h, show (0 - i : Int) = ((i.natAbs : Nat) : Int) by omega]
    have e : ∀ s : String, Str.ofString ("-" ++ s) = S [45] ++ Str.ofString s := fun s => by
      have h := ofString_app "-" s
      exact h
    rw [e, SX.num_S]
    exact S_cat [45] _
  · rw [show i = ((i.natAbs : Nat) : Int) by omega, SX.num_S, Int.natAbs_natCast]
theorem log_small {i : Int} (h : (M7.intL i).length ≤ 30) : i.natAbs.log2 < 1920 := by
  have h1 := M7.int_lt h
  exact Nat.lt_of_lt_of_le (PySem.Flt.log2_lt_of (k := 100) (by decide) (Nat.lt_of_lt_of_le h1 (by decide))) (by decide)
theorem w_strI (h : i.natAbs.log2 < 1920) (q : Q (.str (S (M7.intL i))) H) : (fun xs H Q => ∃ i, xs = [V.int i] ∧ i.natAbs.log2 < 1920 ∧ Q (.str (toString i)) H : List V → Hp → VK → Prop) [.int i] H Q := ⟨i, rfl, h, by
  rw [show ((toString i : String) : Str) = Str.ofString (toString i) from rfl, int_S]; exact q⟩
theorem w_strN {n : Nat} (h : n < 2 ^ 1000) (q : Q (.str (S (TL.numL n))) H) : (fun xs H Q => ∃ i, xs = [V.int i] ∧ i.natAbs.log2 < 1920 ∧ Q (.str (toString i)) H : List V → Hp → VK → Prop) [.int (n : Int)] H Q := ⟨n, rfl, by
  rw [Int.natAbs_natCast]
  exact Nat.lt_of_lt_of_le (PySem.Flt.log2_lt_of (k := 1000) (by decide) h) (by decide), by
  rw [show ((toString (n : Int) : String) : Str) = Str.ofString (toString (n : Int)) from rfl, SX.num_S]; exact q⟩
/-- ''.join of texts -/
theorem join_len (ls : List (List Nat)) : ((ls.map S).map (·.length)).sum + (ls.map S).length * (S []).length = ls.flatten.length := by
  rw [List.map_map, S_len, List.length_nil, Nat.mul_zero, Nat.add_zero, show ((fun x : Str => x.length) ∘ S) = (fun l : List Nat => l.length) from funext fun l => S_len l, ← List.length_flatten]
theorem join_eq (ls : List (List Nat)) : Txt.join (S []) (ls.map S) = S ls.flatten := by
  have e : ∀ ls : List (List Nat), TL.joinL [] ls = ls.flatten := by
    intro ls
    induction ls with
    | nil => rfl
    | cons a r ih =>
      cases r with
      | nil => simp [TL.joinL]
      | cons b r => rw [TL.joinL, ih]; simp
  rw [show S ([] : List Nat) = SX.S [] from rfl, SX.join_S, e]
theorem join_sq {p : Addr} {ls : List (List Nat)} (h : H p = some (.lst (ls.map fun l => V.str (S l)))) : SqL K H p ((ls.map S).map V.str) := SqL.of (by rw [List.map_map]; exact h)
theorem mul_eq (l : List Nat) (n : Nat) : Txt.mul (S l) (n : Int) = S (List.replicate n l).flatten := by
  have key : ∀ (k : Nat) (acc : Array Nat), (List.replicate k l.toArray).foldl (· ++ ·) acc = acc ++ (List.replicate k l).flatten.toArray := fun k => by
    induction k with
    | zero => intro acc; simp
    | succ k ih => intro acc; rw [List.replicate_succ, List.foldl_cons, ih, List.replicate_succ, List.flatten_cons]; simp
  unfold Txt.mul
  split
  · have : n = 0 := by omega
    subst this; rfl
  · split
    · rename_i h0 h
      rw [Bool.or_eq_true] at h
      rcases h with h | h
      · have : n = 1 := by have := eq_of_beq h; omega
        subst this; simp
      · have hl : l = [] := by have := eq_of_beq h; rw [S_len] at this; exact List.length_eq_zero_iff.mp this
        subst hl; simp
    · show (⟨(List.replicate n l.toArray).foldl (· ++ ·) #[]⟩ : Str) = _
      rw [key]
      simp [SX.S]
end
end Ftw
end

section
-- part Fge
set_option Elab.async false
set_option linter.all false
set_option maxRecDepth 100000
set_option maxHeartbeats 800000
/-! Fge: t >= u of tuples of ints; a def called with its defaults; a def called by a name that holds it -/
namespace Fge
open PySem PySem.Spec PyProof.Rows L2 Fw Gk
theorem lexGe (ns ms : List Int) : ∀ (k i : Nat), k = min ns.length ms.length - i → i ≤ min ns.length ms.length →
    Ob.lexAt (fun j => decide (ns.getD j 0 = ms.getD j 0)) (fun j => decide (ms.getD j 0 ≤ ns.getD j 0)) (decide (ns.length ≥ ms.length)) i k = !HT.lexLt (ns.drop i) (ms.drop i) := by
  intro k
  induction k with
  | zero =>
    intro i hk hi
    rw [Ob.lexAt_zero]
    by_cases h : ns.length < ms.length
    · have e1 : i = ns.length := by omega
      subst e1
      rw [List.drop_length, List.drop_eq_getElem_cons h, decide_eq_false (by omega)]
      rfl
    · have e1 : i = ms.length := by omega
      subst e1
      rw [List.drop_length, decide_eq_true (by omega)]
      cases ns.drop ms.length <;> rfl
  | succ k ih =>
    intro i hk hi
    have h1 : i < ns.length := by omega
    have h2 : i < ms.length := by omega
    rw [Ob.lexAt_succ, ih (i + 1) (by omega) (by omega), List.drop_eq_getElem_cons h1, List.drop_eq_getElem_cons h2]
    have g1 : ns.getD i 0 = ns[i] := by rw [List.getD_eq_getElem?_getD, List.getElem?_eq_getElem h1]; rfl
    have g2 : ms.getD i 0 = ms[i] := by rw [List.getD_eq_getElem?_getD, List.getElem?_eq_getElem h2]; rfl
    rw [g1, g2, HT.lexLt_cons]
    by_cases c : ns[i] = ms[i]
    · rw [if_pos (decide_eq_true c), if_pos c]
    · rw [if_neg (by simpa using c), if_neg c]
      by_cases d : ns[i] < ms[i]
      · rw [decide_eq_true d, decide_eq_false (by omega)]; rfl
      · rw [decide_eq_false d, decide_eq_true (by omega)]; rfl
def rGeT (K : PySem.W.Frag) : R2 := fun x y H Q => ∃ (a b : Addr) (ns ms : List Int), x = .ref a ∧ y = .ref b ∧ SqT K H a (ns.map V.int) ∧ SqT K H b (ms.map V.int) ∧ Q (.bl (!HT.lexLt ns ms)) H
theorem op_geT {X : Cx} (hu : X.A.units + 64 < cLine) : OpR X (compareOp .GtE) (rGeT X.K) := by
  intro pins s σ H x y v u Q I rx ry h
  obtain ⟨a, b, ns, ms, rfl, rfl, ha, hb, q⟩ := h
  cases rx
  cases ry
  obtain ⟨its, r1, p1, _⟩ := I.tuple ha
  obtain ⟨its2, r2, p2, _⟩ := I.tuple hb
  have i1 : IntsAre its ns := Vals.ints r1
  have i2 : IntsAre its2 ms := Vals.ints r2
  have e1 : its.toArray.size = ns.length := by rw [List.size_toArray]; exact i1.length
  have e2 : its2.toArray.size = ms.length := by rw [List.size_toArray]; exact i2.length
  have t1 : ∀ j (h1 : j < its.toArray.size), ∃ t, its.toArray[j] = .int (ns.getD j 0) t := fun j h1 => PyProof.Rows.IntsAre.int_at i1 _ _ (by simp at h1; simp [h1])
  have t2 : ∀ j (h1 : j < its2.toArray.size), ∃ t, its2.toArray[j] = .int (ms.getD j 0) t := fun j h1 => PyProof.Rows.IntsAre.int_at i2 _ _ (by simp at h1; simp [h1])
  have R := Ob.RcOp.tuples_ge (A := X.A) (s := s) (e := fun j => decide (ns.getD j 0 = ms.getD j 0)) (r := fun j => decide (ms.getD j 0 ≤ ns.getD j 0)) p1 p2 (by omega) (fun j h1 h2 => by
    obtain ⟨t, et⟩ := t1 j h1
    obtain ⟨t', et'⟩ := t2 j h2
    have z := SeqAt.EqAt.int_int (A := X.A.in1) (s := s) (ns.getD j 0) t (ms.getD j 0) t'
    rw [Bool.beq_eq_decide_eq] at z
    rw [et, et']
    exact z) (fun j h1 h2 _ => by
    obtain ⟨t, et⟩ := t1 j h1
    obtain ⟨t', et'⟩ := t2 j h2
    rw [et, et']
    exact Ob.RcOp.ge_int _ _ _ _)
  have L := lexGe ns ms _ 0 rfl (Nat.zero_le _)
  rw [Nat.sub_zero, List.drop_zero, List.drop_zero] at L
  rw [e1, e2, L] at R
  exact R X.prog X.w _ _ ⟨.bl (!HT.lexLt ns ms), H, I, rfl, q⟩
theorem or_op {X : Cx} {f : Value → Value → Sem Value} {r1 r2 : R2} (h1 : OpR X f r1) (h2 : OpR X f r2) : OpR X f (fun x y H Q => r1 x y H Q ∨ r2 x y H Q) := by
  intro pins s σ H x y v u Q I rx ry h
  rcases h with h | h
  · exact h1 pins s σ H x y v u Q I rx ry h
  · exact h2 pins s σ H x y v u Q I rx ry h
/-! ### a def called with its defaults -/
structure Cld (P : Program) (w : World) (K : PySem.W.Frag) (mg : Str → Option Value) (base : Heap) (k : Nat) (x : Str) (sp : Sp) (dvs : List V) : Prop where
  ex : ∃ (f : Addr) (fd : FuncData) (ps : List Str) (ds : List Value), FnOk P w K mg base (L2.CX P w) k f fd ps sp ∧ mg x = some (.ref f) ∧ PySem.W.keepIn K (.ref f) = true ∧ Binds K fd ps ds ∧ Vals dvs ds
def tCld (sp : Sp) (dvs : List V) (E : XK) (t : TA) : TE := fun σ H Q => t σ H fun vs H1 => sp (vs ++ dvs) H1 Q E
section
variable {X : Cx} {k j : Nat} {x : Str} {sp : Sp} {dvs : List V} {E : XK} {p pos : Pos} {e : Expr} {es : List Expr} {t : TA}
theorem pe_cld (c : Cld X.prog X.w X.K X.mg X.base k x sp dvs) (hr : Room j X.A) (hk : k ≤ j) (hg : Gl X x) (hx : Passes (L2.CX X.prog X.w) X E) (ha : PA X (e :: es) t)
    (hdb : (x == ("__debug__" : Str)) = false := by decide) (he : starEach (e :: es) X.env = (false, eval e X.env) :: starEach es X.env := by rfl) (hpl : (backTo pos (starEach es X.env)).any (·.1) = false := by rfl) :
    PE X (.Call (.Name x p) (e :: es) [] pos) (tCld sp dvs E t) := by
  obtain ⟨f, fd, ps, ds, F, hm, kp, b, d⟩ := c.ex
  exact ⟨fun pins s σ H Q I h => (pe_call F (hr.mono hk) hg hm kp b d hx ha hdb he hpl).run pins s σ H Q I h⟩
theorem w_cld {σ : L2.St} {H : Hp} {Q : VK} (h : t σ H fun vs H1 => sp (vs ++ dvs) H1 Q E) : tCld sp dvs E t σ H Q := h
end
section
variable {P : Program} {w : World} {K : PySem.W.Frag} {mg : Str → Option Value} {base : Heap} {x : Str} {st : Stmt} {dvs : List V}
/-- a def with its one default left out -/
theorem cld_mk {N ps : List Str} {k : Nat} {sp : Sp} (n j : Nat) (F : ∃ (f : Addr) (fd : FuncData), FunD K x x (defArgs st) (defBody st) (defScope st) dvs [] f fd ∧ mg x = some (.ref f)) (S : FnScope N ps (defScope st)) (hd : dvs ≠ []) (hn : n + (dvs.length - j) = ps.length)
    (b : ∀ (T : Addr) (kV doc pm : Value) (an : Option Addr) (cdv ct : Value) (us its : List Value), us.length = n → its.length = dvs.length →
      ∃ k, bindArgs (PySem.W.fnOf x x (defArgs st) (defBody st) (defScope st) (.ref T) kV doc pm an cdv ct) ⟨us, []⟩ = seqItems? (.ref T) >>= k ∧ k (some its.toArray) = pure (ps.zip (us ++ its.drop j)))
    (len : ∀ vs H Q E, sp vs H Q E → vs.length = ps.length)
    (hbody : ∀ (f : Addr) (cdv : Value) (A : Around) (outer : List Env) (s : Shared) (H : Hp) (vs : List V) (Q : VK) (E : XK), Room k (A.deeper (envOfC x (defScope st) s.heap.objs.size f cdv)) → sp vs H Q E →
      ∃ t, PSs (cxOf (L2.CX P w) P w K mg base N x (defScope st) f cdv A outer s H E) (defBody st) t ∧ t { nx := fun _ H' => Q .non H', rt := Q } (start N vs) H) : Cld P w K mg base (k + 1) x sp (dvs.drop j) := by
  obtain ⟨f, fd, F, m⟩ := F
  obtain ⟨ds, h1, h2⟩ := F.binds1 n j hd hn b
  exact ⟨f, fd, ps, ds, F.ok S len (hbody f), m, F.kp, h2, h1⟩
end
/-! ### a name that holds one of several defs -/
def tClF (i : Nat) (S : Addr → Sp → Prop) (E : XK) (t : TA) : TE := fun σ H Q => ∃ f sp, σ[i]? = some (some (.ref f)) ∧ S f sp ∧ t σ H fun vs H1 => sp vs H1 Q E
structure ClF (P : Program) (w : World) (K : PySem.W.Frag) (mg : Str → Option Value) (base : Heap) (k : Nat) (S : Addr → Sp → Prop) : Prop where
  of : ∀ f sp, S f sp → ∃ (fd : FuncData) (ps : List Str), FnOk P w K mg base (L2.CX P w) k f fd ps sp ∧ PySem.W.keepIn K (.ref f) = true ∧ Binds K fd ps []
section
variable {X : Cx} {k j i : Nat} {x : Str} {S : Addr → Sp → Prop} {E : XK} {p pos : Pos} {e : Expr} {es : List Expr} {t : TA}
theorem pe_clF (c : ClF X.prog X.w X.K X.mg X.base k S) (hr : Room j X.A) (hk : k ≤ j) (hN : X.N[i]? = some x) (hv : Vis X.env.scope x) (hx : Passes (L2.CX X.prog X.w) X E) (ha : PA X (e :: es) t)
    (hdb : (x == ("__debug__" : Str)) = false := by decide) (hcd : (x == ("__classdict__" : Str)) = false := by decide)
    (he : starEach (e :: es) X.env = (false, eval e X.env) :: starEach es X.env := by rfl) (hpl : (backTo pos (starEach es X.env)).any (·.1) = false := by rfl) : PE X (.Call (.Name x p) (e :: es) [] pos) (tClF i S E t) := by
  refine ⟨fun pins s σ H Q I h => ?_⟩
  obtain ⟨f, sp, hs, hS, ht⟩ := h
  obtain ⟨fd, ps, F, kp, b⟩ := c.of f sp hS
  refine (pe_callL (i := i) (f := f) (sp := sp) (dvs := []) (E := E) F (hr.mono hk) hN hv kp b .nil hx ha hdb hcd he hpl).run pins s σ H Q I ⟨hs, ?_⟩
  have e0 : (fun (vs : List V) (H1 : Hp) => sp (vs ++ []) H1 Q E) = fun vs H1 => sp vs H1 Q E := by
    funext vs H1
    rw [List.append_nil]
  show t σ H (fun vs H1 => sp (vs ++ []) H1 Q E)
  rw [e0]
  exact ht
end
end Fge
end

section
-- part Fsc
set_option Elab.async false
set_option linter.all false
set_option maxRecDepth 100000
set_option maxHeartbeats 2000000
/-! Fsc: a set comprehension, whatever its elements are -/
namespace Fsc
open PySem PySem.Spec PyProof.Rows L2 Fw Gk
/-- what a new set is, and how one more element is put in -/
structure Col (X : Cx) (new : Addr → HO) (add : V → Addr → Hp → (Hp → Prop) → Prop) : Prop where
  fresh : ∀ (H : Hp) (h : Heap), ObjOk X.prog X.w H (h.push { cls := .type "set", dict := none, data := .set #[] 0 (.fresh 0 0 (!X.w.params.followText "set-order")) }) h.objs.size (new h.objs.size)
  put : ∀ {pins : List (Addr × Obj)} {σ : L2.St} {H : Hp} {s : Shared} {y : V} {u : Value} {D : Addr} {N : Hp → Prop} {E : Value → Shared → Prop}, Inv X pins σ H s → RelV y u → add y D H N →
    wpAny (model X.prog X.w) X.A (call (.builtin "set.add") [.ref D, u]) (fun _ s' => ∃ H', Inv X pins σ H' s' ∧ N H') E s
def tSC (new : Addr → HO) (add : V → Addr → Hp → (Hp → Prop) → Prop) (wi : TI) (g : TG) (tt : TT) (te : TE) (vs : List Nat) : TE := fun σ H Q => wi σ H fun J H1 => ∀ D, H1 D = none → ∃ W : Nat → Nat → Hp → Prop, (∃ m, W 0 m (upd H1 D (new D))) ∧ ∀ i m H, W i m H →
  (J.stop i H ∧ Q (.ref D) H) ∨ (J.go i H ∧ ∃ N : Hp → Prop, (∀ H', N H' → ∃ m', m' < m ∧ W (i + 1) m' H') ∧ ∀ x H', J.yld i H x H' → g x (wipe σ vs) H' fun σ2 H2 => wipe σ2 vs = wipe σ vs ∧ tt σ2 H2 fun b H3 =>
    if b = true then te σ2 H3 fun y H4 => add y D H4 N else N H3)
section
variable {X : Cx} {new : Addr → HO} {add : V → Addr → Hp → (Hp → Prop) → Prop} {elt tg iter : Expr} {ifs : List Expr} {scope : Scope} {own : List (PySem.Str × Nat)} {pos : Pos} {wi : TI} {g : TG} {tt : TT} {te : TE}
theorem pe_SC (col : ∀ (s : Shared) (H : Hp) (C : Addr) (cl : List (PySem.Str × Addr)) (fp : List Addr), Col (X.blk s H scope (compEnvC scope cl C X.env) fp) new add) (calm : X.calm = true) (nd : X.N.Nodup) (hi : PI X tg iter wi) (ok : BlkOk X.N X.env.scope scope own)
    (hg : ∀ (s : Shared) (H : Hp) (C : Addr) (cl : List (PySem.Str × Addr)) (fp : List Addr), PG (X.blk s H scope (compEnvC scope cl C X.env) fp) tg g) (ht : ∀ (s : Shared) (H : Hp) (C : Addr) (cl : List (PySem.Str × Addr)) (fp : List Addr), PTs (X.blk s H scope (compEnvC scope cl C X.env) fp) ifs tt)
    (he : ∀ (s : Shared) (H : Hp) (C : Addr) (cl : List (PySem.Str × Addr)) (fp : List Addr), PE (X.blk s H scope (compEnvC scope cl C X.env) fp) elt te) (hs : ∀ x, foldedSetIterable iter X.env x = pure x := by intro _; rfl) :
    PE X (.SetComp elt [⟨tg, iter, ifs, 0⟩] scope pos) (tSC new add wi g tt te (own.map (·.2))) := by
  refine ⟨fun pins s σ H Q I h => ?_⟩
  rw [PpSet.eval_SetComp]
  have caught : ∀ y ∈ scope.names, y.2 = .free → ∃ c, X.env.cells.lookup y.1 = some c := fun y hy e =>
    (ok.free y hy e).elim (fun k => I.ok.has _ (.inl k)) fun k => I.ok.has _ (.inr k)
  refine wpAny_comprehension_free (use := none) rfl hs (closure_ok caught) ok.kind (fun y hy e => by rw [ok.uniq y hy, e]) (thn (hi.run pins s σ H _ I h) fun xv s1 hx => thn hx fun itv s2 h2 => ?_)
  obtain ⟨it, fp, tn, J, H2, rfl, I2, T, st2, f2, q⟩ := h2
  refine PpSet.newSet_ok (newEnv_comp ?_)
  obtain ⟨W, ⟨m0, w0⟩, turn⟩ := q s2.heap.objs.size (I2.hok.fresh (Nat.le_refl _))
  have I3 : Inv X pins σ (upd H2 s2.heap.objs.size (new s2.heap.objs.size)) { s2 with heap := s2.heap.push { cls := .type "set", dict := none, data := .set #[] 0 (.fresh 0 0 (!X.w.params.followText "set-order")) } } :=
    I2.laid (t' := s2.toks) (fun b o e => Heap.get?_push_of_some _ e) (Nat.le_refl _) ((col s2 H2 0 [] []).fresh _ s2.heap)
  have size3 : (s2.heap.push { cls := .type "set", dict := none, data := .set #[] 0 (.fresh 0 0 (!X.w.params.followText "set-order")) }).objs.size = s2.heap.objs.size + 1 := by rw [Heap.size_push]
  have old : ∀ b ∈ fp, b < s2.heap.objs.size := fun b hb => by
    obtain ⟨o, e, _⟩ := T.obj _ _ st2 b hb
    exact Heap.lt_size e
  have st3 : tn 0 (s2.heap.push { cls := .type "set", dict := none, data := .set #[] 0 (.fresh 0 0 (!X.w.params.followText "set-order")) }) := T.keep _ _ _ st2 fun b _ o e => Heap.get?_push_of_some _ e
  have f3 : ∀ b ∈ fp, FpOk X pins (upd H2 s2.heap.objs.size (new s2.heap.objs.size)) b ∧ b < (s2.heap.push { cls := .type "set", dict := none, data := .set #[] 0 (.fresh 0 0 (!X.w.params.followText "set-order")) }).objs.size := fun b hb => by
    have lt := old b hb
    refine ⟨⟨by rw [upd_ne (Nat.ne_of_lt lt)]; exact (f2 b hb).1, (f2 b hb).2⟩, by rw [size3]; exact Nat.lt_succ_of_lt lt⟩
  generalize hD : s2.heap.objs.size = D at *
  generalize hs3 : ({ s2 with heap := s2.heap.push { cls := .type "set", dict := none, data := .set #[] 0 (.fresh 0 0 (!X.w.params.followText "set-order")) } } : Shared) = s3 at *
  have h3 : s2.heap.push { cls := .type "set", dict := none, data := .set #[] 0 (.fresh 0 0 (!X.w.params.followText "set-order")) } = s3.heap := by rw [← hs3]
  rw [h3] at st3 f3 size3
  generalize upd H2 D (new D) = H3 at *
  have I4 := block_start I3 ok nd f3
  have pc := col s3 H3 s3.heap.objs.size (cellsFrom (s3.heap.objs.size + 1) scope.names (cloFrom X.env.cells scope.names [])) fp
  have pg := hg s3 H3 s3.heap.objs.size (cellsFrom (s3.heap.objs.size + 1) scope.names (cloFrom X.env.cells scope.names [])) fp
  have pt := ht s3 H3 s3.heap.objs.size (cellsFrom (s3.heap.objs.size + 1) scope.names (cloFrom X.env.cells scope.names [])) fp
  have pe := he s3 H3 s3.heap.objs.size (cellsFrom (s3.heap.objs.size + 1) scope.names (cloFrom X.env.cells scope.names [])) fp
  generalize hC : compEnvC scope (cellsFrom (s3.heap.objs.size + 1) scope.names (cloFrom X.env.cells scope.names [])) s3.heap.objs.size X.env = ce at *
  have cL : ce.locals = s3.heap.objs.size := by rw [← hC]; rfl
  have empty3 : ∀ b ∈ fp, H3 b = none := fun b hb => (f3 b hb).1.1
  have quiet : ∀ {σ' : L2.St} {H' : Hp} {s' : Shared}, Inv (X.blk s3 H3 scope ce fp) [] σ' H' s' → (∀ b ∈ fp, H' b = none) → ∀ b ∈ fp, FpOk (X.blk s3 H3 scope ce fp) [] H' b := fun {σ' H' s'} J' n b hb => by
    have z := J'.ok.exf b hb
    exact ⟨n b hb, z.1, J'.ok.exfs b hb, .inl hb, fun x c e => z.2 x c e, fun p hp => absurd (show p ∈ ([] : List (Addr × Obj)) ++ [] from hp) (by simp)⟩
  -- the walk, from any heap with the block's own things
  have walk : ∀ s4 : Shared, Inv (X.blk s3 H3 scope ce fp) [] (wipe σ (own.map (·.2))) H3 s4 → tn 0 s4.heap →
      codeAny (model X.prog X.w) X.A (.compLoop (.SetComp elt [⟨tg, iter, ifs, 0⟩] scope pos) 0 (.ref it) (.ref D) ce) (compPost (model X.prog X.w) X.A X.xe none (EP X pins σ Q) (.ref D) s3.heap.objs.size) s4 := by
    intro s4 J4 st4
    refine PpSet.compLoopS_any (fun n s' => ∃ i H', Inv (X.blk s3 H3 scope ce fp) [] (wipe σ (own.map (·.2))) H' s' ∧ tn i s'.heap ∧ (∀ b ∈ fp, H' b = none) ∧ W i n H') (fun n s5 hw => ?_) m0 ⟨0, H3, J4, st4, empty3, w0⟩
    obtain ⟨i, H5, J5, st5, e5, w5⟩ := hw
    rcases turn i n H5 w5 with ⟨stop, fin⟩ | ⟨go, N, less, step⟩
    · refine thnF (T.done (X.blk s3 H3 scope ce fp) rfl rfl rfl calm i [] s5 _ H5 (fun _ _ => False) J5 (quiet J5 e5) st5 stop) fun r s6 hr => ?_
      obtain ⟨rfl, J6⟩ := hr
      have I7 : Inv X pins σ H5 s6 := I3.call' (ch := fp) J6.os J6.base J6.hok J6.bare fun b hb => by
        obtain ⟨_, z2, z3, z4, z5, z6⟩ := (f3 b hb).1
        exact ⟨z4, z2, z5, z6⟩
      obtain ⟨m, hn, _⟩ := J6.loc
      have hn' : s6.heap.Ns ce.locals m := hn
      have nC : H5 ce.locals = none := J6.free
      rw [cL] at hn' nC
      obtain ⟨f0, f1, f2', f3', f4, f5⟩ := I3.fpOk (H' := H5) (Nat.le_refl _) nC
      exact ⟨m, hn', fun h'' sb => ⟨.ref D, H5, I7.turned (t' := s6.toks) (fun b o hb e => (sb.2 b hb).trans e) f0 f1 f3' f4 f5, rfl, fin⟩⟩
    · refine thnF (T.item (X.blk s3 H3 scope ce fp) rfl rfl rfl calm i [] s5 _ H5 (fun _ _ => False) J5 (quiet J5 e5) st5 go) fun r s6 hr => ?_
      obtain ⟨u, rfl, h6⟩ := hr
      refine thnF h6 fun _ s7 h7 => ?_
      obtain ⟨x, H7, J7, r7, y7, st7, e7⟩ := h7
      refine thnF (pg.run _ s7 _ H7 x u _ (J7.pinned (quiet J7 e7) (T.obj _ _ st7)) r7 (step x H7 y7)) fun _ s8 h8 => ?_
      obtain ⟨σ8, H8, J8, w8, q8⟩ := h8
      refine thnF (pt.run _ s8 σ8 H8 _ J8 q8) fun b s9 h9 => ?_
      obtain ⟨H9, J9, q9⟩ := h9
      have back : ∀ {s' : Shared} {H' : Hp}, Inv (X.blk s3 H3 scope ce fp) ([] ++ pinsAt fp s7.heap) σ8 H' s' → N H' → ∃ m, m < n ∧ ∃ i H', Inv (X.blk s3 H3 scope ce fp) [] (wipe σ (own.map (·.2))) H' s' ∧ tn i s'.heap ∧ (∀ b ∈ fp, H' b = none) ∧ W i m H' := fun {s' H'} J' hN => by
        obtain ⟨m', lt, w'⟩ := less H' hN
        have held : ∀ b ∈ fp, ∀ o, s7.heap.get? b = some o → s'.heap.get? b = some o ∧ H' b = none := fun b hb o e => by
          have z := J'.pin (b, o) (List.mem_append_right _ (List.mem_append_right _ (mem_pinsAt hb e)))
          exact ⟨z.1, z.2.1⟩
        have len : (wipe σ (own.map (·.2))).length = σ8.length := by rw [← w8, wipe_length]
        refine ⟨m', lt, i + 1, H', (J'.unpinned (pins := [])).weak len (fun j v e => ?_), T.keep _ _ _ st7 fun b hb o e => (held b hb o e).1, fun b hb => ?_, w'⟩
        · rw [← w8] at e
          exact (wipe_some e).1
        · obtain ⟨o, e, _⟩ := T.obj _ _ st7 b hb
          exact (held b hb o e).2
      cases b with
      | false => exact back J9 (by simpa using q9)
      | true =>
        refine thnF (pe.run _ s9 σ8 H9 _ J9 (by simpa using q9)) fun z s10 h10 => ?_
        obtain ⟨y, H10, J10, r10, q10⟩ := h10
        refine thnF (pc.put J10 r10 q10) fun _ s11 h11 => ?_
        obtain ⟨H11, J11, q11⟩ := h11
        exact back J11 q11
  have st4 : tn 0 (pushCells (s3.heap.push { cls := .type "dict", data := .dict #[] }) scope.names) := T.keep _ _ _ st3 fun b _ o e => pushCells_keeps _ _ _ _ (Heap.get?_push_of_some _ e)
  have loop := walk _ I4 st4
  subst hC
  exact PpSet.codeAny_compStart_set loop (T.self X.A 0 _ _ _ st4 loop)
/-- ints -/
def newI (w : World) : Addr → HO := fun D => SetO w D (fun _ => false) 0
def addI (w : World) : V → Addr → Hp → (Hp → Prop) → Prop := fun y D H N => ∃ (k : Int) (S : Int → Bool) (n : Nat), y = .int k ∧ H D = some (SetO w D S n) ∧ n + 1 < scanBound ∧ N (upd H D (SetO w D (fun j => S j || decide (j = k)) (if S k = true then n else n + 1)))
theorem colI {X : Cx} (w0 : World) (hw : X.w = w0) : Col X (newI w0) (addI w0) := by
  subst hw
  refine ⟨fun H h => setO_new (setR_fresh X.w), fun {pins σ H s y u D N E} I r h => ?_⟩
  obtain ⟨k, S, n, rfl, hD, room, q⟩ := h
  obtain ⟨tk, rfl⟩ := r
  refine setR_add (setO_get I hD) room fun h' sb nw => ?_
  have there : ∃ u, h'.get? D = some u := by
    have ⟨o, _, _, _, ho, _⟩ := nw
    exact ⟨o, ho⟩
  exact ⟨_, I.write (e := D) (t' := s.toks + 1) (by rw [hD]; trivial) (.inl rfl) (fun b u hb hu => (sb.2 b hb).trans hu) there (setO_new nw), q⟩
end
section
variable {K : PySem.W.Frag} {σ : L2.St} {H : Hp} {g : TG} {tt : TT} {te : TE} {vs : List Nat} {new : Addr → HO} {add : V → Addr → Hp → (Hp → Prop) → Prop}
theorem w_SC {wi : TI} {Q : VK} (h : wi σ H fun J H1 => ∀ D, H1 D = none → ∃ W : Nat → Nat → Hp → Prop, (∃ m, W 0 m (upd H1 D (new D))) ∧ ∀ i m H, W i m H →
  (J.stop i H ∧ Q (.ref D) H) ∨ (J.go i H ∧ ∃ N : Hp → Prop, (∀ H', N H' → ∃ m', m' < m ∧ W (i + 1) m' H') ∧ ∀ x H', J.yld i H x H' → g x (wipe σ vs) H' fun σ2 H2 => wipe σ2 vs = wipe σ vs ∧ tt σ2 H2 fun b H3 =>
    if b = true then te σ2 H3 fun y H4 => add y D H4 N else N H3)) : tSC new add wi g tt te vs σ H Q := h
theorem w_scL {p : Addr} {xs : List V} {R : Addr → Hp → Prop} (hS : SqL K H p xs) (h : ∀ D, H D = none → ∃ Pv : Nat → Hp → Prop, Pv 0 (upd H D (new D)) ∧ (∀ i H2, i ≤ xs.length → Pv i H2 → SqL K H2 p xs) ∧
      (∀ i x H2, xs[i]? = some x → Pv i H2 → g x (wipe σ vs) H2 fun σ2 H2 => wipe σ2 vs = wipe σ vs ∧ tt σ2 H2 fun b H3 =>
        if b = true then te σ2 H3 fun y H4 => add y D H4 (Pv (i + 1)) else Pv (i + 1) H3) ∧ (∀ H2, Pv xs.length H2 → R D H2)) :
    ∃ a, V.ref p = .ref a ∧ (∃ xs, SqL K H a xs) ∧ ∀ D, H D = none → ∃ W : Nat → Nat → Hp → Prop, (∃ m, W 0 m (upd H D (new D))) ∧ ∀ i m H, W i m H →
      ((Itl K a).stop i H ∧ R D H) ∨ ((Itl K a).go i H ∧ ∃ N : Hp → Prop, (∀ H', N H' → ∃ m', m' < m ∧ W (i + 1) m' H') ∧ ∀ x H', (Itl K a).yld i H x H' → g x (wipe σ vs) H' fun σ2 H2 => wipe σ2 vs = wipe σ vs ∧ tt σ2 H2 fun b H3 =>
        if b = true then te σ2 H3 fun y H4 => add y D H4 N else N H3) := by
  refine ⟨p, rfl, ⟨xs, hS⟩, fun D hD => ?_⟩
  obtain ⟨Pv, h0, hl, hs, hd⟩ := h D hD
  refine ⟨fun i m H => m + i = xs.length ∧ Pv i H, ⟨xs.length, rfl, h0⟩, ?_⟩
  rintro i m H2 ⟨hm, p2⟩
  have q := hl i H2 (by omega) p2
  by_cases lt : i < xs.length
  · refine .inr ⟨⟨xs, xs[i], q, List.getElem?_eq_getElem lt⟩, Pv (i + 1), fun H' p' => ⟨m - 1, by omega, by omega, p'⟩, ?_⟩
    rintro v H' ⟨rfl, hx⟩
    exact hs i v _ (hx xs q) p2
  · obtain rfl : i = xs.length := by omega
    exact .inl ⟨⟨xs, q, Nat.le_refl _⟩, hd H2 p2⟩
end
end Fsc
end

section
-- part K24M
set_option Elab.async false
set_option linter.all false
set_option maxRecDepth 100000
set_option maxHeartbeats 800000
/-! K24M: conditions and what they ask of keys -/
namespace M24
open PySem PySem.Spec PyProof.Rows L2 Fw M5 Gk
inductive Sg where
  | eq | ne | lt | le | gt | ge
deriving DecidableEq
def sgS : Sg → Str
  | .eq => Str.ofString "=" | .ne => Str.ofString "<>" | .lt => Str.ofString "<" | .le => Str.ofString "<=" | .gt => Str.ofString ">" | .ge => Str.ofString ">="
def turn : Sg → Sg
  | .eq => .eq | .ne => .ne | .lt => .gt | .le => .ge | .gt => .lt | .ge => .le
inductive Lf where
  | lit (v : RV) | fld (p : Nat)
deriving DecidableEq
inductive Cd where
  | isn (p : Nat) | cmp (g : Sg) (a b : Lf)
deriving DecidableEq
inductive Tm where
  | cd (c : Cd) | and (a : Tm) (c : Cd)
def isT : RV → Bool
  | .txt _ => true
  | _ => false
def conj : Tm → List Cd
  | .cd c => [c]
  | .and a c => conj a ++ [c]
def dep : Tm → Nat
  | .cd _ => 0
  | .and a _ => dep a + 1
def val (row : List RV) (p : Nat) : RV := row.getD p .non
def lfv (row : List RV) : Lf → RV
  | .lit v => v
  | .fld p => val row p
def cmpV (g : Sg) (u v : RV) : Option Bool := if u = .non ∨ v = .non then none else some (match g with
  | .eq => decide (u = v) | .ne => !decide (u = v) | .lt => vlt u v | .le => !vlt v u | .gt => vlt v u | .ge => !vlt u v)
def cdv (row : List RV) : Cd → Option Bool
  | .isn p => some (!decide (val row p = .non))
  | .cmp g a b => cmpV g (lfv row a) (lfv row b)
def and3 : Option Bool → Option Bool → Option Bool
  | some false, _ => some false
  | _, some false => some false
  | some true, some true => some true
  | _, _ => none
def tmv (row : List RV) : Tm → Option Bool
  | .cd c => cdv row c
  | .and a c => and3 (tmv row a) (cdv row c)
theorem and3_true {x y : Option Bool} : and3 x y = some true ↔ x = some true ∧ y = some true := by
  rcases x with _ | _ | _ <;> rcases y with _ | _ | _ <;> simp [and3]
theorem tmv_true {row : List RV} : ∀ T : Tm, tmv row T = some true ↔ ∀ c ∈ conj T, cdv row c = some true
  | .cd c => by simp [tmv, conj]
  | .and a c => by
    rw [tmv, and3_true, tmv_true a, conj]
    simp only [List.mem_append, List.mem_singleton]
    exact ⟨fun h d hd => hd.elim (h.1 d) fun e => e ▸ h.2, fun h => ⟨fun d hd => h d (.inl hd), h c (.inr rfl)⟩⟩
/-! order of lists -/
theorem _root_.M5.Div.symm {a b : List Int} {lt : Bool} (h : Div a b lt) : Div b a (!lt) := by
  obtain ⟨p, x, y, a', b', rfl, rfl, n, l⟩ := h
  refine ⟨p, y, x, b', a', rfl, rfl, fun e => n e.symm, ?_⟩
  rw [l]
  by_cases c : x < y
  · rw [decide_eq_true c, decide_eq_false (by omega)]; rfl
  · rw [decide_eq_false c, decide_eq_true (by omega)]; rfl
theorem lex_nil (a : List Int) : HT.lexLt a [] = false := by cases a <;> rfl
theorem lex_as : ∀ a b : List Int, HT.lexLt a b = true → HT.lexLt b a = false
  | [], [], h => rfl
  | [], _ :: _, h => rfl
  | _ :: _, [], h => by cases h
  | x :: a, y :: b, h => by
    rw [HT.lexLt_cons] at h ⊢
    by_cases c : x = y
    · rw [if_pos c] at h
      rw [if_pos c.symm]
      exact lex_as a b h
    · rw [if_neg c] at h
      rw [if_neg (fun z => c z.symm)]
      have := of_decide_eq_true h
      exact decide_eq_false (by omega)
theorem lex_ge : ∀ a b c : List Int, HT.lexLt a b = false → HT.lexLt b c = false → HT.lexLt a c = false
  | a, _, [], _, _ => lex_nil a
  | [], [], _ :: _, _, h => by cases h
  | [], _ :: _, _ :: _, h, _ => by cases h
  | _ :: _, [], _ :: _, _, h => by cases h
  | x :: a, y :: b, z :: c, h1, h2 => by
    rw [HT.lexLt_cons] at h1 h2 ⊢
    by_cases e1 : x = y
    · subst e1
      rw [if_pos rfl] at h1
      by_cases e2 : x = z
      · rw [if_pos e2] at h2 ⊢
        exact lex_ge a b c h1 h2
      · rw [if_neg e2] at h2 ⊢
        exact h2
    · rw [if_neg e1] at h1
      have h1' := of_decide_eq_false h1
      by_cases e2 : y = z
      · subst e2
        rw [if_neg e1]
        exact h1
      · rw [if_neg e2] at h2
        have h2' := of_decide_eq_false h2
        rw [if_neg (by omega)]
        exact decide_eq_false (by omega)
theorem lex_tr {a b c : List Int} (h1 : HT.lexLt a b = true) (h2 : HT.lexLt b c = true) : HT.lexLt a c = true := by
  cases e : HT.lexLt a c with
  | true => rfl
  | false => exact absurd (lex_ge b a c (lex_as _ _ h1) e) (by rw [h2]; decide)
theorem lex_pre (p a : List Int) : HT.lexLt (p ++ a) p = false := by
  have := lex_app p a []
  rw [List.append_nil] at this
  rw [this, lex_nil]
/-! the least key above a prefix -/
theorem up_app (p q : List Int) (h : 0 < upLen q) : upLen (p ++ q) = p.length + upLen q := by
  unfold upLen at *
  rw [List.reverse_append, List.dropWhile_append]
  rw [if_neg (by
    intro e
    rw [List.isEmpty_iff] at e
    rw [e] at h
    cases h), List.length_append, List.length_reverse]
  omega
theorem up_pre (p q : List Int) (h : 0 < upLen q) : ∃ x, upper (p ++ q) = some (p ++ x) := by
  rw [upper, up_app p q h, if_neg (by omega)]
  rw [List.take_append, List.take_of_length_le (by omega), List.append_assoc]
  exact ⟨_, rfl⟩
theorem up_tail (d : List Int) : ∀ b ∈ d.drop (upLen d), b = 255 := by
  rw [← List.reverse_reverse d]
  generalize d.reverse = e
  induction e with
  | nil => intro b hb; simp at hb
  | cons c e ih =>
    rw [List.reverse_cons, upLen_snoc]
    split
    · rename_i q
      intro b hb
      rw [List.drop_append] at hb
      rcases List.mem_append.mp hb with hb | hb
      · exact ih b hb
      · have := List.mem_of_mem_drop hb
        rw [List.mem_singleton.mp this]
        exact q
    · intro b hb
      rw [List.drop_of_length_le (by simp)] at hb
      cases hb
theorem up_ge {p s u : List Int} (h : Div p s true) (hs : Byt s) (hu : upper p = some u) : HT.lexLt s u = false := by
  obtain ⟨c, x, y, a, b, rfl, rfl, n, l⟩ := h
  have lt : x < y := of_decide_eq_true l.symm
  have hl := upLen_le (c ++ x :: a)
  rw [upper] at hu
  by_cases h0 : upLen (c ++ x :: a) = 0
  · rw [if_pos h0] at hu; cases hu
  rw [if_neg h0] at hu
  cases hu
  by_cases c1 : c.length < upLen (c ++ x :: a) - 1
  · have e : (c ++ x :: a).take (upLen (c ++ x :: a) - 1) = c ++ x :: a.take (upLen (c ++ x :: a) - 1 - c.length - 1) := by
      rw [List.take_append, List.take_of_length_le (by omega)]
      obtain ⟨k, hk⟩ : ∃ k, upLen (c ++ x :: a) - 1 - c.length = k + 1 := ⟨_, (Nat.succ_pred_eq_of_pos (by omega)).symm⟩
      rw [hk, List.take_succ_cons]
      rfl
    rw [e, List.append_assoc, lex_app, List.cons_append, HT.lexLt_cons, if_neg (by omega)]
    exact decide_eq_false (by omega)
  by_cases c2 : c.length = upLen (c ++ x :: a) - 1
  · rw [← c2, List.take_left, lex_app]
    have eg : (c ++ x :: a).getD c.length 0 = x := by
      rw [List.getD_eq_getElem?_getD, List.getElem?_append_right (Nat.le_refl _), Nat.sub_self]
      rfl
    rw [eg, HT.lexLt_cons]
    by_cases e2 : y = x + 1
    · rw [if_pos e2, lex_nil]
    · rw [if_neg e2]
      exact decide_eq_false (by omega)
  · have hm : x ∈ (c ++ x :: a).drop (upLen (c ++ x :: a)) := by
      rw [List.drop_append_of_le_length (by omega)]
      exact List.mem_append_right _ List.mem_cons_self
    have := up_tail _ x hm
    have := hs y (by simp)
    omega
/-! keys of values -/
def okv (v : RV) : Prop := okV v ∧ match v with | .txt l => l.length ≤ 10 | _ => True
theorem keyV_len {v : RV} (h : okv v) : (keyV v).length ≤ 12 ∧ 0 < (keyV v).length := by
  cases v with
  | non => exact ⟨by decide, by decide⟩
  | txt l =>
    have : l.length ≤ 10 := h.2
    simp only [keyV, List.length_cons, List.length_append, sg, List.length_map, List.length_nil]
    omega
  | num n => simp [keyV, fixed_len]
theorem keyV_byt {v : RV} (h : okV v) : Byt (keyV v) := by
  cases v with
  | non => intro b hb; rw [List.mem_singleton.mp hb]; decide
  | num n =>
    intro b hb
    rcases List.mem_cons.mp hb with rfl | hb
    · decide
    · exact fixed_byt _ _ b hb
  | txt l =>
    intro b hb
    rcases List.mem_cons.mp hb with rfl | hb
    · decide
    · rcases List.mem_append.mp hb with hb | hb
      · obtain ⟨c, hc, rfl⟩ := List.mem_map.mp hb
        have := (sgn_ok (h c hc)).1
        omega
      · rw [List.mem_singleton.mp hb]; decide
theorem keyR_byt {r : List RV} (h : ∀ v ∈ r, okV v) : Byt (keyR r) := by
  intro b hb
  obtain ⟨v, hv, hb⟩ := List.mem_flatMap.mp hb
  exact keyV_byt (h v hv) b hb
theorem keyR_len : ∀ {r : List RV}, (∀ v ∈ r, okv v) → (keyR r).length ≤ 12 * r.length
  | [], _ => Nat.le_refl _
  | v :: r, h => by
    have h1 := keyV_len (h v List.mem_cons_self)
    have h2 := keyR_len (r := r) fun x hx => h x (List.mem_cons_of_mem _ hx)
    show (keyV v ++ keyR r).length ≤ _
    rw [List.length_append, List.length_cons]
    omega
theorem keyR_app (a b : List RV) : keyR (a ++ b) = keyR a ++ keyR b := by simp [keyR]
theorem up_key (v : RV) : 0 < upLen (keyV v) := by
  have : ∃ b ∈ keyV v, b ≠ 255 := by
    cases v with
    | non => exact ⟨1, List.mem_cons_self, by decide⟩
    | txt l => exact ⟨3, List.mem_cons_self, by decide⟩
    | num n => exact ⟨2, List.mem_cons_self, by decide⟩
  obtain ⟨b, hb, hn⟩ := this
  exact upLen_pos hb hn
theorem up_keyR {es : List RV} (h : es ≠ []) : 0 < upLen (keyR es) := by
  rw [← List.dropLast_concat_getLast h, keyR_app]
  have e : keyR [es.getLast h] = keyV (es.getLast h) := by simp [keyR]
  rw [e, up_app _ _ (up_key _)]
  have := up_key (es.getLast h)
  omega
theorem vlt_ir (v : RV) : vlt v v = false := by
  cases v with
  | non => rfl
  | num n => exact decide_eq_false (by omega)
  | txt l => exact decide_eq_false (List.lt_irrefl l)
theorem vlt_ne {u v : RV} (hu : okV u) (hv : okV v) (h : u ≠ v) : vlt v u = !vlt u v := by
  have h1 := (key_div u v hu hv h).symm.lex
  have h2 := (key_div v u hv hu (fun e => h e.symm)).lex
  rw [← h1, h2]
/-! bounds -/
abbrev Bd := List RV × Option (Sg × RV) × Option (Sg × RV)
def isLow (g : Sg) : Bool := decide (g = .gt ∨ g = .ge)
def isHigh (g : Sg) : Bool := decide (g = .lt ∨ g = .le)
def isEq (g : Sg) : Bool := decide (g = .eq)
abbrev Side := Nat × Sg × RV
def here (ks : List Side) (p : Nat) : List (Sg × RV) := (ks.filter fun s => decide (s.1 = p)).map (·.2)
def firstB (f : Sg → Bool) (l : List (Sg × RV)) : Option (Sg × RV) := l.find? fun s => f s.1
def askB (ks : List Side) : List Nat → Bd
  | [] => ([], none, none)
  | p :: ps => match firstB isEq (here ks p) with
    | none => ([], firstB isLow (here ks p), firstB isHigh (here ks p))
    | some s => (s.2 :: (askB ks ps).1, (askB ks ps).2)
def nullB : Option (Sg × RV) → Bool
  | some (_, v) => decide (v = .non)
  | none => false
def kend (pre : List Int) (g : Sg) (v : RV) : Option (List Int) := if g = .gt ∨ g = .le then upper (pre ++ keyV v) else some (pre ++ keyV v)
def lowOf (pre : List Int) : Option (Sg × RV) → Option (List Int)
  | none => some pre
  | some (g, v) => kend pre g v
def highOf (pre : List Int) : Option (Sg × RV) → Option (List Int)
  | none => upper pre
  | some (g, v) => kend pre g v
def krange (b : Bd) : Option (List Int × Option (List Int)) :=
  if (b.1.any fun v => decide (v = .non)) = true then none
  else if nullB b.2.1 = true then none
  else if nullB b.2.2 = true then none
  else match lowOf (keyR b.1) b.2.1 with
    | none => none
    | some l => match highOf (keyR b.1) b.2.2 with
      | none => some (l, none)
      | some h => if (!HT.lexLt l h) = true then none else some (l, some h)
theorem kend_pre (pre : List Int) (g : Sg) (v : RV) : ∃ x, kend pre g v = some (pre ++ x) := by
  unfold kend
  split
  · exact up_pre _ _ (up_key v)
  · exact ⟨_, rfl⟩
theorem low_pre (pre : List Int) (o : Option (Sg × RV)) : ∃ x, lowOf pre o = some (pre ++ x) := by
  rcases o with _ | ⟨g, v⟩
  · exact ⟨[], by rw [List.append_nil]; rfl⟩
  · exact kend_pre pre g v
/-- a value meets a bound -/
def Meets1 (g : Sg) (u v : RV) : Prop := okV u ∧ okV v ∧ cmpV g u v = some true
theorem low_ok {pre tl : List Int} {g : Sg} {u v : RV} {l : List Int} (hg : isLow g = true) (m : Meets1 g u v) (ht : Byt (keyV u ++ tl)) (hp : Byt pre) (hl : kend pre g v = some l) : HT.lexLt (pre ++ (keyV u ++ tl)) l = false := by
  obtain ⟨hu, hv, hc⟩ := m
  unfold cmpV at hc
  split at hc
  · cases hc
  have dv : u ≠ v → Div (pre ++ keyV v) (pre ++ (keyV u ++ tl)) (vlt v u) := fun ne => by
    have := ((key_div v u hv hu (fun e => ne e.symm)).app [] tl).pre pre
    rwa [List.append_nil] at this
  rcases of_decide_eq_true hg with rfl | rfl
  · have hc : vlt v u = true := Option.some.inj hc
    have ne : u ≠ v := fun e => by rw [e, vlt_ir] at hc; cases hc
    rw [kend, if_pos (.inl rfl)] at hl
    have d := dv ne
    rw [hc] at d
    exact up_ge d (byt_app hp ht) hl
  · have hc : (!vlt u v) = true := Option.some.inj hc
    rw [kend, if_neg (by decide)] at hl
    cases hl
    by_cases e : u = v
    · subst e
      rw [← List.append_assoc]
      exact lex_pre _ _
    · have d := dv e
      rw [vlt_ne hu hv e, hc] at d
      exact lex_as _ _ d.lex
theorem high_ok {pre tl : List Int} {g : Sg} {u v : RV} {l : List Int} (hg : isHigh g = true) (m : Meets1 g u v) (hl : kend pre g v = some l) : HT.lexLt (pre ++ (keyV u ++ tl)) l = true := by
  obtain ⟨hu, hv, hc⟩ := m
  unfold cmpV at hc
  split at hc
  · cases hc
  have dv : u ≠ v → HT.lexLt (pre ++ (keyV u ++ tl)) (pre ++ keyV v) = vlt u v := fun ne => by
    have := ((key_div u v hu hv ne).app tl []).pre pre
    rw [List.append_nil] at this
    exact this.lex
  rcases of_decide_eq_true hg with rfl | rfl
  · have hc : vlt u v = true := Option.some.inj hc
    have ne : u ≠ v := fun e => by rw [e, vlt_ir] at hc; cases hc
    rw [kend, if_neg (by decide)] at hl
    cases hl
    rw [dv ne, hc]
  · have hc : (!vlt v u) = true := Option.some.inj hc
    rw [kend, if_pos (.inr rfl)] at hl
    have hp : 0 < upLen (pre ++ keyV v) := by rw [up_app _ _ (up_key v)]; have := up_key v; omega
    by_cases e : u = v
    · subst e
      obtain ⟨x, h1, h2, _⟩ := upper_ok hp tl
      rw [hl] at h1
      cases h1
      rw [← List.append_assoc]
      exact h2
    · obtain ⟨x, h1, h2, _⟩ := upper_ok hp []
      rw [hl] at h1
      cases h1
      rw [List.append_nil] at h2
      refine lex_tr ?_ h2
      rw [dv e]
      rw [vlt_ne hu hv e] at hc
      simpa using hc
/-- what a row that meets the bounds' conditions has there -/
def BdMeets (rest : List RV) (f : Sg → Bool) (o : Option (Sg × RV)) : Prop := ∀ g v, o = some (g, v) → f g = true ∧ ∃ u r, rest = u :: r ∧ Meets1 g u v
theorem null_no {rest : List RV} {f : Sg → Bool} {o : Option (Sg × RV)} (h : BdMeets rest f o) : nullB o = false := by
  rcases o with _ | ⟨g, v⟩
  · rfl
  · obtain ⟨_, u, r, _, _, _, hc⟩ := h g v rfl
    unfold cmpV at hc
    split at hc
    · cases hc
    · rename_i n
      exact decide_eq_false fun e => n (.inr e)
theorem meets_in {es rest : List RV} {lo hi : Option (Sg × RV)} {tl : List Int} (he : ∀ v ∈ es, v ≠ .non ∧ okV v) (hr : ∀ v ∈ rest, okV v) (ht : Byt tl) (hlo : BdMeets rest isLow lo) (hhi : BdMeets rest isHigh hi) :
    ∃ l h, krange (es, lo, hi) = some (l, h) ∧ HT.lexLt (keyR (es ++ rest) ++ tl) l = false ∧ ∀ x, h = some x → HT.lexLt (keyR (es ++ rest) ++ tl) x = true := by
  have e1 : (es.any fun v => decide (v = .non)) = false := by
    rw [List.any_eq_false]
    intro v hv
    simpa using (he v hv).1
  have hpre : Byt (keyR es) := keyR_byt fun v hv => (he v hv).2
  have ek : keyR (es ++ rest) ++ tl = keyR es ++ (keyR rest ++ tl) := by rw [keyR_app, List.append_assoc]
  have cons : ∀ u r, rest = u :: r → keyR rest ++ tl = keyV u ++ (keyR r ++ tl) := fun u r e => by rw [e, ← List.append_assoc]; rfl
  have hbt : Byt (keyR rest ++ tl) := byt_app (keyR_byt hr) ht
  obtain ⟨x, hx⟩ := low_pre (keyR es) lo
  have hlow : HT.lexLt (keyR es ++ (keyR rest ++ tl)) (keyR es ++ x) = false := by
    rcases lo with _ | ⟨g, v⟩
    · have hx2 : keyR es = keyR es ++ x := Option.some.inj hx
      rw [← hx2]
      exact lex_pre _ _
    · obtain ⟨hg, u, r, e, m⟩ := hlo g v rfl
      rw [cons u r e]
      exact low_ok hg m (by rw [← cons u r e]; exact hbt) hpre hx
  have hhigh : ∀ y, highOf (keyR es) hi = some y → HT.lexLt (keyR es ++ (keyR rest ++ tl)) y = true := by
    intro y hy
    rcases hi with _ | ⟨g, v⟩
    · have h0 : 0 < upLen (keyR es) := by
        refine Nat.pos_of_ne_zero fun z => ?_
        have hy2 : upper (keyR es) = some y := hy
        rw [upper, if_pos z] at hy2
        cases hy2
      obtain ⟨u, h1, h2, _⟩ := upper_ok h0 (keyR rest ++ tl)
      have hy2 : upper (keyR es) = some y := hy
      rw [h1] at hy2
      cases hy2
      exact h2
    · obtain ⟨hg, u, r, e, m⟩ := hhi g v rfl
      rw [cons u r e]
      exact high_ok hg m hy
  rw [ek]
  unfold krange
  simp only [e1, null_no hlo, null_no hhi, hx, Bool.false_eq_true, if_false]
  cases hh : highOf (keyR es) hi with
  | none => exact ⟨_, _, rfl, hlow, fun x z => by cases z⟩
  | some y =>
    have hy := hhigh y hh
    have lt : HT.lexLt (keyR es ++ x) y = true := by
      cases e : HT.lexLt (keyR es ++ x) y with
      | true => rfl
      | false => exact absurd (lex_ge _ _ _ hlow e) (by rw [hy]; decide)
    simp only [lt, Bool.not_true, Bool.false_eq_true, if_false]
    exact ⟨_, _, rfl, hlow, fun z hz => by cases hz; exact hy⟩
theorem inside_eq {b : Bd} {l : List Int} {h : Option (List Int)} {vals : List RV} {tl : List Int} (hk : krange b = some (l, h)) (he : ∀ v ∈ b.1, okV v) (hv : ∀ v ∈ vals, okV v) (ht : Byt tl) (hl : b.1.length ≤ vals.length)
    (h1 : HT.lexLt (keyR vals ++ tl) l = false) (h2 : ∀ x, h = some x → HT.lexLt (keyR vals ++ tl) x = true) : vals.take b.1.length = b.1 ∧ ∀ v ∈ b.1, v ≠ .non := by
  obtain ⟨es, lo, hi⟩ := b
  unfold krange at hk
  by_cases n1 : (es.any fun v => decide (v = .non)) = true
  · rw [if_pos n1] at hk; cases hk
  rw [if_neg n1] at hk
  by_cases n2 : nullB lo = true
  · rw [if_pos n2] at hk; cases hk
  rw [if_neg n2] at hk
  by_cases n3 : nullB hi = true
  · rw [if_pos n3] at hk; cases hk
  rw [if_neg n3] at hk
  have nn : ∀ v ∈ es, v ≠ .non := fun v hv e => n1 (List.any_eq_true.mpr ⟨v, hv, decide_eq_true e⟩)
  refine ⟨?_, nn⟩
  by_cases ee : es = []
  · subst ee; rfl
  refine Classical.byContradiction fun ne => ?_
  obtain ⟨x, hx⟩ := low_pre (keyR es) lo
  simp only [hx] at hk
  have lt : (vals.take es.length).length = es.length := by rw [List.length_take]; exact Nat.min_eq_left hl
  have ek : keyR vals ++ tl = keyR (vals.take es.length) ++ (keyR (vals.drop es.length) ++ tl) := by rw [← List.append_assoc, ← keyR_app, List.take_append_drop]
  have D := row_div (vals.take es.length) es lt (fun v hv' => hv v (List.mem_of_mem_take hv')) he ne
  have hb : Byt (keyR vals ++ tl) := byt_app (keyR_byt hv) ht
  rw [ek] at h1 h2 hb
  generalize keyR (vals.drop es.length) ++ tl = r at h1 h2 hb
  have le : l = keyR es ++ x := by
    cases hh : highOf (keyR es) hi with
    | none => rw [hh] at hk; cases hk; rfl
    | some y =>
      simp only [hh] at hk
      split at hk
      · cases hk
      · cases hk; rfl
  rw [le, (D.app r x).lex] at h1
  rw [h1] at D
  have hh : highOf (keyR es) hi = h := by
    cases hh : highOf (keyR es) hi with
    | none => rw [hh] at hk; cases hk; rfl
    | some y =>
      simp only [hh] at hk
      split at hk
      · cases hk
      · cases hk; rfl
  rcases hi with _ | ⟨g, v⟩
  · obtain ⟨u, h3, _⟩ := upper_ok (up_keyR ee) []
    have h4 : upper (keyR es) = h := hh
    rw [h3] at h4
    have := h2 u h4.symm
    have Ds := (D.symm.app [] r)
    rw [List.append_nil] at Ds
    rw [up_ge Ds hb h3] at this
    cases this
  · obtain ⟨y, hy⟩ := kend_pre (keyR es) g v
    have h4 : kend (keyR es) g v = h := hh
    rw [hy] at h4
    have := h2 _ h4.symm
    rw [(D.app r y).lex] at this
    cases this
/-! what a condition asks -/
def sideOf : Cd → Option Side
  | .cmp g (.fld p) (.lit v) => if g = .ne then none else some (p, g, v)
  | .cmp g (.lit v) (.fld p) => if g = .ne then none else some (p, turn g, v)
  | _ => none
theorem cmp_turn {g : Sg} {u v : RV} (h : cmpV g u v = some true) : cmpV (turn g) v u = some true := by
  unfold cmpV at h ⊢
  split at h
  · cases h
  · rename_i n
    rw [if_neg (fun z => n z.symm)]
    cases g
    · have h1 : decide (u = v) = true := Option.some.inj h
      show some (decide (v = u)) = some true
      rw [decide_eq_true (of_decide_eq_true h1).symm]
    · have h1 : (!decide (u = v)) = true := Option.some.inj h
      show some (!decide (v = u)) = some true
      have h2 : ¬ u = v := by simpa using h1
      rw [decide_eq_false (fun z => h2 z.symm)]
      rfl
    · exact h
    · exact h
    · exact h
    · exact h
theorem side_meets {row : List RV} {c : Cd} {s : Side} (h : sideOf c = some s) (m : cdv row c = some true) : cmpV s.2.1 (val row s.1) s.2.2 = some true := by
  cases c with
  | isn p => cases h
  | cmp g a b =>
    cases a with
    | lit v =>
      cases b with
      | lit u => cases h
      | fld p =>
        have h2 : (if g = .ne then none else some (p, turn g, v)) = some s := h
        by_cases c : g = .ne
        · rw [if_pos c] at h2; cases h2
        · rw [if_neg c] at h2; cases h2; exact cmp_turn m
    | fld p =>
      cases b with
      | fld q => cases h
      | lit v =>
        have h2 : (if g = .ne then none else some (p, g, v)) = some s := h
        by_cases c : g = .ne
        · rw [if_pos c] at h2; cases h2
        · rw [if_neg c] at h2; cases h2; exact m
theorem here_in {ks : List Side} {p : Nat} {g : Sg} {v : RV} (h : (g, v) ∈ here ks p) : (p, g, v) ∈ ks := by
  obtain ⟨⟨q, s⟩, h1, h2⟩ := List.mem_map.mp h
  obtain ⟨h3, h4⟩ := List.mem_filter.mp h1
  have h5 : q = p := of_decide_eq_true h4
  have h6 : s = (g, v) := h2
  rw [h5, h6] at h3
  exact h3
theorem first_in {f : Sg → Bool} {l : List (Sg × RV)} {s : Sg × RV} (h : firstB f l = some s) : s ∈ l ∧ f s.1 = true := ⟨List.mem_of_find?_eq_some h, List.find?_some (p := fun s : Sg × RV => f s.1) h⟩
theorem ask_len (ks : List Side) : ∀ ps : List Nat, (askB ks ps).1.length ≤ ps.length
  | [] => Nat.le_refl _
  | p :: ps => by
    rw [askB]
    split
    · exact Nat.zero_le _
    · exact Nat.succ_le_succ (ask_len ks ps)
theorem ask_in (ks : List Side) : ∀ ps : List Nat, (∀ v ∈ (askB ks ps).1, ∃ p, (p, .eq, v) ∈ ks) ∧ (∀ g v, (askB ks ps).2.1 = some (g, v) → isLow g = true ∧ ∃ p, (p, g, v) ∈ ks) ∧ ∀ g v, (askB ks ps).2.2 = some (g, v) → isHigh g = true ∧ ∃ p, (p, g, v) ∈ ks
  | [] => ⟨fun v hv => (by cases hv), fun g v h => (by cases h), fun g v h => (by cases h)⟩
  | p :: ps => by
    rw [askB]
    cases e : firstB isEq (here ks p) with
    | none => exact ⟨fun v hv => (by cases hv), fun g v h => ⟨(first_in h).2, p, here_in (first_in h).1⟩, fun g v h => ⟨(first_in h).2, p, here_in (first_in h).1⟩⟩
    | some s =>
      obtain ⟨i1, i2, i3⟩ := ask_in ks ps
      refine ⟨fun v hv => ?_, i2, i3⟩
      rcases List.mem_cons.mp hv with rfl | hv
      · have h1 := here_in (first_in (s := (s.1, s.2)) e).1
        have h2 : s.1 = .eq := of_decide_eq_true (first_in e).2
        rw [h2] at h1
        exact ⟨p, h1⟩
      · exact i1 v hv
/-- a row that meets all sides: its values at the places begin with the equals, the bounds hold at the next -/
theorem ask_meets {ks : List Side} {vl : Nat → RV} (hu : ∀ p, okV (vl p)) (hk : ∀ s ∈ ks, okV s.2.2 ∧ cmpV s.2.1 (vl s.1) s.2.2 = some true) : ∀ ps : List Nat,
    ∃ rest, ps.map vl = (askB ks ps).1 ++ rest ∧ (∀ v ∈ (askB ks ps).1, v ≠ .non ∧ okV v) ∧ BdMeets rest isLow (askB ks ps).2.1 ∧ BdMeets rest isHigh (askB ks ps).2.2
  | [] => ⟨[], rfl, fun v hv => (by cases hv), fun g v h => (by cases h), fun g v h => (by cases h)⟩
  | p :: ps => by
    rw [askB]
    cases e : firstB isEq (here ks p) with
    | none =>
      refine ⟨(p :: ps).map vl, rfl, fun v hv => (by cases hv), fun g v h => ?_, fun g v h => ?_⟩
      · obtain ⟨h1, h2⟩ := first_in h
        obtain ⟨h3, h4⟩ := hk _ (here_in h1)
        exact ⟨h2, vl p, ps.map vl, rfl, hu p, h3, h4⟩
      · obtain ⟨h1, h2⟩ := first_in h
        obtain ⟨h3, h4⟩ := hk _ (here_in h1)
        exact ⟨h2, vl p, ps.map vl, rfl, hu p, h3, h4⟩
    | some s =>
      obtain ⟨rest, h1, h2, h3, h4⟩ := ask_meets hu hk ps
      obtain ⟨i1, i2⟩ := first_in e
      have i3 : s.1 = .eq := of_decide_eq_true i2
      obtain ⟨i4, i5⟩ := hk _ (here_in (g := s.1) (v := s.2) i1)
      have i6 : cmpV .eq (vl p) s.2 = some true := by rw [← i3]; exact i5
      unfold cmpV at i6
      split at i6
      · cases i6
      · rename_i n
        have i7 : vl p = s.2 := of_decide_eq_true (Option.some.inj i6)
        refine ⟨rest, ?_, fun v hv => ?_, h3, h4⟩
        · rw [List.map_cons, h1, i7]
          rfl
        · rcases List.mem_cons.mp hv with rfl | hv
          · exact ⟨fun z => n (.inr z), i4⟩
          · exact h2 v hv
end M24
end

section
-- part K04P
set_option Elab.async false
set_option linter.all false
set_option maxRecDepth 100000
set_option maxHeartbeats 800000
/-! K04P: patterns, kinds, sums -/
namespace M04
open PySem PySem.Spec PyProof.Rows L2 Fw M5 M24
/-- a text meets a pattern: * any signs, _ one -/
def likeR : List Nat → List Nat → Bool
  | t, [] => decide (t = [])
  | t, c :: p => if c = 42 then (List.range (t.length + 1)).any fun k => likeR (t.drop k) p else match t with
    | [] => false
    | x :: t => decide (c = 95 ∨ c = x) && likeR t p
theorem like_star (t p : List Nat) : likeR t (42 :: p) = true ↔ ∃ k, k ≤ t.length ∧ likeR (t.drop k) p = true := by
  have e : likeR t (42 :: p) = (List.range (t.length + 1)).any fun k => likeR (t.drop k) p := by cases t <;> rfl
  rw [e, List.any_eq_true]
  constructor
  · rintro ⟨k, hk, h⟩; exact ⟨k, by have := List.mem_range.mp hk; omega, h⟩
  · rintro ⟨k, hk, h⟩; exact ⟨k, List.mem_range.mpr (by omega), h⟩
theorem like_nil (t : List Nat) : likeR t [] = true ↔ t = [] := by
  have e : likeR t [] = decide (t = []) := by cases t <;> rfl
  rw [e]; exact decide_eq_true_iff
theorem like_oneE {c : Nat} (hc : c ≠ 42) (x : Nat) (t p : List Nat) : likeR (x :: t) (c :: p) = (decide (c = 95 ∨ c = x) && likeR t p) := by
  show (if c = 42 then _ else _) = _
  rw [if_neg hc]
theorem like_one {c : Nat} (hc : c ≠ 42) (x : Nat) (t p : List Nat) : likeR (x :: t) (c :: p) = true ↔ (c = 95 ∨ c = x) ∧ likeR t p = true := by
  rw [like_oneE hc]
  simp only [Bool.and_eq_true, decide_eq_true_eq]
theorem like_none {c : Nat} (hc : c ≠ 42) (p : List Nat) : likeR [] (c :: p) = false := by
  show (if c = 42 then _ else _) = _
  rw [if_neg hc]
/-- states of the machine: places of the pattern -/
abbrev Sts := Nat → Bool
def clo (p : List Nat) (f : Sts) : Sts
  | 0 => f 0
  | q + 1 => f (q + 1) || (clo p f q && decide (p[q]? = some 42))
def stp (p : List Nat) (c : Nat) (f : Sts) : Sts := fun q => (f q && decide (p[q]? = some 42)) || (match q with
  | 0 => false
  | q + 1 => f q && decide (∃ d, p[q]? = some d ∧ d ≠ 42 ∧ (d = 95 ∨ d = c)))
def lst (f : Sts) (n : Nat) : List Nat := (List.range (n + 1)).filter f
theorem mem_lst {f : Sts} {n q : Nat} : q ∈ lst f n ↔ q ≤ n ∧ f q = true := by
  unfold lst
  rw [List.mem_filter, List.mem_range]
  exact ⟨fun h => ⟨by omega, h.2⟩, fun h => ⟨by omega, h.2⟩⟩
theorem lst_sorted (f : Sts) (n : Nat) : (lst f n).Pairwise (· < ·) := List.Pairwise.filter _ List.pairwise_lt_range
def bnd (f : Sts) (n : Nat) : Prop := ∀ q, f q = true → q ≤ n
theorem clo_le {p : List Nat} {f : Sts} {q : Nat} (h : f q = true) : clo p f q = true := by
  cases q with
  | zero => exact h
  | succ q => rw [clo, h]; rfl
theorem clo_step {p : List Nat} {f : Sts} {q : Nat} (h : clo p f q = true) (e : p[q]? = some 42) : clo p f (q + 1) = true := by
  rw [clo, h, decide_eq_true e]
  simp
theorem clo_iff {p : List Nat} {f : Sts} : ∀ {q : Nat}, clo p f q = true ↔ ∃ s, s ≤ q ∧ f s = true ∧ ∀ j, s ≤ j → j < q → p[j]? = some 42
  | 0 => by
    constructor
    · intro h; exact ⟨0, Nat.le_refl _, h, fun j _ h => absurd h (Nat.not_lt_zero _)⟩
    · rintro ⟨s, h1, h2, _⟩; rw [Nat.le_zero.mp h1] at h2; exact h2
  | q + 1 => by
    rw [clo, Bool.or_eq_true, Bool.and_eq_true, decide_eq_true_eq, clo_iff (q := q)]
    constructor
    · rintro (h | ⟨⟨s, h1, h2, h3⟩, h4⟩)
      · exact ⟨q + 1, Nat.le_refl _, h, fun j h1 h2 => absurd h2 (by omega)⟩
      · refine ⟨s, by omega, h2, fun j h5 h6 => ?_⟩
        by_cases c : j = q
        · rw [c]; exact h4
        · exact h3 j h5 (by omega)
    · rintro ⟨s, h1, h2, h3⟩
      by_cases c : s = q + 1
      · left; rw [← c]; exact h2
      · right; exact ⟨⟨s, by omega, h2, fun j h4 h5 => h3 j h4 (by omega)⟩, h3 q (by omega) (by omega)⟩
theorem clo_bnd {p : List Nat} {f : Sts} (h : bnd f p.length) : bnd (clo p f) p.length := by
  intro q hq
  obtain ⟨s, h1, h2, h3⟩ := clo_iff.mp hq
  refine Nat.le_of_not_lt fun c => ?_
  have hs := h s h2
  have := h3 p.length hs c
  rw [List.getElem?_eq_none (Nat.le_refl _)] at this
  cases this
theorem stp_bnd {p : List Nat} {c : Nat} {f : Sts} (h : bnd f p.length) : bnd (stp p c f) p.length := by
  intro q hq
  unfold stp at hq
  rw [Bool.or_eq_true] at hq
  rcases hq with hq | hq
  · rw [Bool.and_eq_true] at hq; exact h q hq.1
  · cases q with
    | zero => cases hq
    | succ q =>
      simp only [Bool.and_eq_true, decide_eq_true_eq] at hq
      obtain ⟨_, d, hd, _⟩ := hq
      exact (List.getElem?_eq_some_iff.mp hd).1
/-- from place q of the pattern on -/
def M (p t : List Nat) (q : Nat) : Prop := likeR t (p.drop q) = true
theorem drop_at {p : List Nat} {q c : Nat} (h : p[q]? = some c) : p.drop q = c :: p.drop (q + 1) := by
  obtain ⟨hl, e⟩ := List.getElem?_eq_some_iff.mp h
  rw [List.drop_eq_getElem_cons hl, e]
theorem M_star0 {p t : List Nat} {q : Nat} (h : p[q]? = some 42) (m : M p t (q + 1)) : M p t q := by
  unfold M at *
  rw [drop_at h, like_star]
  exact ⟨0, Nat.zero_le _, m⟩
theorem M_star1 {p t : List Nat} {q x : Nat} (h : p[q]? = some 42) (m : M p t q) : M p (x :: t) q := by
  unfold M at *
  rw [drop_at h, like_star] at m ⊢
  obtain ⟨k, hk, m⟩ := m
  exact ⟨k + 1, by simp; omega, m⟩
theorem M_star {p t : List Nat} {q x : Nat} (h : p[q]? = some 42) (m : M p (x :: t) q) : M p (x :: t) (q + 1) ∨ M p t q := by
  unfold M at *
  rw [drop_at h, like_star] at m
  obtain ⟨k, hk, m⟩ := m
  cases k with
  | zero => left; exact m
  | succ k =>
    right
    rw [drop_at h, like_star]
    exact ⟨k, by simp at hk; omega, m⟩
theorem clo_M {p t : List Nat} {f : Sts} : (∃ q, clo p f q = true ∧ M p t q) ↔ ∃ q, f q = true ∧ M p t q := by
  constructor
  · rintro ⟨q, h, m⟩
    obtain ⟨s, h1, h2, h3⟩ := clo_iff.mp h
    refine ⟨s, h2, ?_⟩
    obtain ⟨k, rfl⟩ := Nat.exists_eq_add_of_le h1
    clear h
    induction k with
    | zero => exact m
    | succ k ih => exact ih (M_star0 (h3 (s + k) (by omega) (by omega)) m) (by omega) fun j h4 h5 => h3 j h4 (by omega)
  · rintro ⟨q, h, m⟩; exact ⟨q, clo_le h, m⟩
theorem M_end {p : List Nat} {q : Nat} (h : q ≤ p.length) (t : List Nat) (hq : p[q]? = none) : M p t q ↔ t = [] := by
  unfold M
  rw [List.drop_eq_nil_of_le (List.getElem?_eq_none_iff.mp hq), like_nil]
theorem stp_M {p t : List Nat} {f : Sts} {x : Nat} (hb : bnd f p.length) (hc : ∀ q, f q = true → p[q]? = some 42 → f (q + 1) = true) : (∃ q, stp p x f q = true ∧ M p t q) ↔ ∃ q, f q = true ∧ M p (x :: t) q := by
  constructor
  · rintro ⟨q, h, m⟩
    unfold stp at h
    rw [Bool.or_eq_true] at h
    rcases h with h | h
    · rw [Bool.and_eq_true, decide_eq_true_eq] at h
      exact ⟨q, h.1, M_star1 h.2 m⟩
    · cases q with
      | zero => cases h
      | succ q =>
        simp only [Bool.and_eq_true, decide_eq_true_eq] at h
        obtain ⟨h1, d, hd, h2, h3⟩ := h
        refine ⟨q, h1, ?_⟩
        unfold M
        rw [drop_at hd, like_one h2]
        exact ⟨h3, m⟩
  · rintro ⟨q, h, m⟩
    -- the last place reached by stars
    obtain ⟨k, hk⟩ : ∃ k, k = p.length - q := ⟨_, rfl⟩
    induction k generalizing q with
    | zero =>
      have hq : p[q]? = none := List.getElem?_eq_none (by have := hb q h; omega)
      rw [M_end (hb q h) _ hq] at m
      cases m
    | succ k ih =>
      have hq : q < p.length := by omega
      by_cases c : p[q]? = some 42
      · rcases M_star c m with m | m
        · exact ih (q + 1) (hc q h c) m (by omega)
        · exact ⟨q, by unfold stp; rw [h, decide_eq_true c]; rfl, m⟩
      · obtain ⟨d, hd⟩ : ∃ d, p[q]? = some d := ⟨_, List.getElem?_eq_getElem hq⟩
        have nd : d ≠ 42 := fun e => c (by rw [hd, e])
        unfold M at m
        rw [drop_at hd, like_one nd] at m
        refine ⟨q + 1, ?_, m.2⟩
        unfold stp
        rw [Bool.or_eq_true]
        right
        show (f q && decide _) = true
        rw [h, decide_eq_true ⟨d, hd, nd, m.1⟩]
        rfl
def runS (p : List Nat) : Sts → List Nat → Sts
  | f, [] => f
  | f, x :: t => runS p (clo p (stp p x f)) t
theorem run_M {p : List Nat} : ∀ {t : List Nat} {f : Sts}, bnd f p.length → (∀ q, f q = true → p[q]? = some 42 → f (q + 1) = true) → (runS p f t p.length = true ↔ ∃ q, f q = true ∧ M p t q)
  | [], f, hb, hc => by
    show f p.length = true ↔ _
    constructor
    · intro h; exact ⟨_, h, (M_end (Nat.le_refl _) _ (List.getElem?_eq_none (Nat.le_refl _))).mpr rfl⟩
    · rintro ⟨q, h, m⟩
      obtain ⟨k, hk⟩ : ∃ k, k = p.length - q := ⟨_, rfl⟩
      induction k generalizing q with
      | zero =>
        have := hb q h
        rw [show p.length = q by omega]
        exact h
      | succ k ih =>
        have hq : q < p.length := by omega
        by_cases c : p[q]? = some 42
        · refine ih (q + 1) (hc q h c) ?_ (by omega)
          unfold M at m ⊢
          rw [drop_at c, like_star] at m
          obtain ⟨k, hk, m⟩ := m
          rw [List.drop_nil] at m
          exact m
        · obtain ⟨d, hd⟩ : ∃ d, p[q]? = some d := ⟨_, List.getElem?_eq_getElem hq⟩
          unfold M at m
          rw [drop_at hd, like_none (fun e => c (by rw [hd, e]))] at m
          cases m
  | x :: t, f, hb, hc => by
    rw [runS, run_M (t := t) (clo_bnd (stp_bnd hb)) (fun q => clo_step), clo_M, stp_M hb hc]
def f0 : Sts := fun q => decide (q = 0)
theorem like_run (t p : List Nat) : runS p (clo p f0) t p.length = likeR t p := by
  rw [Bool.eq_iff_iff, run_M (clo_bnd (fun q h => by rw [of_decide_eq_true h]; exact Nat.zero_le _)) (fun q => clo_step), clo_M]
  constructor
  · rintro ⟨q, h, m⟩
    rw [of_decide_eq_true h] at m
    exact m
  · intro h; exact ⟨0, rfl, h⟩
end M04
end

section
-- part Fgk
set_option Elab.async false
set_option linter.all false
set_option maxRecDepth 100000
set_option maxHeartbeats 2000000
/-! Fgk: a plain def of one parameter run at the machine's level, whatever frames are around; kind_of and rank of values -/
namespace GnK
open PySem PySem.Spec PyProof.Rows L2 LamX Fw M5
open GxR (GenS keeps_refl keeps_tok sh_eta passing_true)
theorem keeps_trans {a b c : Shared} (x : Keeps a b) (y : Keeps b c) : Keeps a c := by
  obtain ⟨h1, t1, rfl, k1⟩ := x
  obtain ⟨h2, t2, rfl, k2⟩ := y
  exact ⟨h2, t2, rfl, fun b o e => k2 b o (k1 b o e)⟩
theorem keeps_push (z : Shared) (o : Obj) : Keeps z { z with heap := z.heap.push o } := ⟨_, z.toks, rfl, fun b u e => Heap.get?_push_of_some _ e⟩
/-- a def of one parameter y -/
theorem low_call {P : Program} {w : World} {K : PySem.W.Frag} {mg : Str → Option Value} {base : Heap} {x qual y : Str} {params : Arguments} {body : List Stmt} {scope : Scope} {f : Addr} {fd : FuncData} {N : List Str}
    (F : FunD K x qual params body scope [] [] f fd) (S : FnScope N [y] scope) (bx : Binds K fd [y] []) (hy : scope.names.lookup y = some NameKind.local) {A : Around} {E : Value → Shared → Prop} {z : Shared} {Q : Value → Shared → Prop} {u : Value}
    (M : Mod K mg base) (hb : ∀ b o, base.get? b = some o → z.heap.get? b = some o) (hd : A.depth < recursionLimit)
    (h : ∀ (B : Around) (env : Env) (z1 : Shared) (m : Str → Option Value), env.scope = scope → env.globals = mainGlobals → env.builtins = builtinsNs → z1.heap.Ns env.locals m → m y = some u → Keeps z z1 →
      wpAny (model P w) B (execs body env) (fun fl z2 => ∃ v, fl = .ret v ∧ Q v z2) (fun _ _ => False) z1) : wpAny (model P w) A (call (.ref f) [u]) Q E z := by
  obtain ⟨oc, od, dV, kV, doc, pm, an, cdv, ct, osl, rfl, lk, hcd, _, _⟩ := F.ex
  have KX : K.In z.heap := M.kin.keeps hb
  have lim : z.heap.NoLimit := M.nolimit.keeps hb
  refine wpAny_call (codeAny_call_function hd (KX _ _ lk) rfl S.co S.gen rfl (PySem.W.codeRec_of KX hcd) (bx z [u] KX rfl _ _ _ _ ?_))
  refine wpAny_newFunctionEnv_cells S.kind (fun p hp => ?_) fun env he s1 q => ?_
  · rw [List.append_nil] at hp
    rcases List.mem_singleton.mp hp with rfl
    exact .inl hy
  subst he
  refine ⟨lim.keeps q.toInCall.keep, codeAny_func ?_⟩
  refine wpAny_mono (h _ _ s1 _ rfl rfl rfl q.toInCall.ns ?_ q.done) (fun fl s' ⟨v, e, r⟩ => by subst e; exact r) fun _ _ r => r.elim
  exact bindL_get (P := [y]) (vs := [u]) (i := 0) (List.nodup_cons.mpr ⟨List.not_mem_nil, List.nodup_nil⟩) rfl rfl hy
/-- the machine finds the built-ins -/
def BltOk (z : Shared) (mg : Str → Option Value) : Prop := z.heap.Ns mainGlobals mg ∧ ∃ mb, z.heap.Ns builtinsNs mb ∧ ∀ x : Str, x ≠ "__name__" → mb x = bootBuiltins x
theorem BltOk.of {K : PySem.W.Frag} {mg : Str → Option Value} {base : Heap} {z : Shared} (M : Mod K mg base) (hb : ∀ b o, base.get? b = some o → z.heap.get? b = some o) : BltOk z mg := by
  obtain ⟨mb, h1, h2⟩ := M.blt
  exact ⟨M.glob.keeps hb, mb, h1.keeps hb, h2⟩
section
variable {P : Program} {w : World} {K : PySem.W.Frag} {mg : Str → Option Value} {A : Around} {E : Value → Shared → Prop} {env : Env} {m : Str → Option Value} {x : Str} {z : Shared}
theorem ld_local {p : Pos} {u : Value} {Q : Value → Shared → Prop} (hk : env.scope.kind = .function) (hl : env.scope.names.lookup x = some NameKind.local) (hn : z.heap.Ns env.locals m) (hm : m x = some u) (h : Q u z)
    (hd : (x == ("__debug__" : Str)) = false := by decide) : wpAny (model P w) A (eval (.Name x p) env) Q E z :=
  wpAny_Name (wpAny_loadName_local hk hl hn hm h) hd
theorem ld_bltn {p : Pos} {u : Value} {Q : Value → Shared → Prop} (hk : env.scope.kind = .function) (hg : env.scope.names.lookup x = some NameKind.globalImplicit) (e1 : env.globals = mainGlobals) (e2 : env.builtins = builtinsNs) (b : BltOk z mg) (hm : mg x = none)
    (hv : bootBuiltins x = some u) (h : Q u z) (hn : x ≠ "__name__" := by decide) (hd : (x == ("__debug__" : Str)) = false := by decide) : wpAny (model P w) A (eval (.Name x p) env) Q E z := by
  obtain ⟨h1, mb, h2, h3⟩ := b
  exact Calls.Name_function_global hk hg (Calls.loadGlobal_builtin (by rw [e1]; exact h1) hm (by rw [e2]; exact h2) ((h3 x hn).trans hv) h) hd
/-- isinstance(x, str) as a test -/
theorem isi_str {p1 p2 p3 p4 : Pos} {u : Value} {v : RV} {Q : Bool → Shared → Prop} {vV : RV → V} (hV : vV = fun v => match v with | .non => .non | .txt l => .str (S l) | .num n => .int n) (hk : env.scope.kind = .function) (hl : env.scope.names.lookup x = some NameKind.local) (hn : z.heap.Ns env.locals m) (hm : m x = some u)
    (hg1 : env.scope.names.lookup ("isinstance" : Str) = some NameKind.globalImplicit) (hg2 : env.scope.names.lookup ("str" : Str) = some NameKind.globalImplicit) (e1 : env.globals = mainGlobals) (e2 : env.builtins = builtinsNs) (b : BltOk z mg) (n1 : mg "isinstance" = none) (n2 : mg "str" = none)
    (KI : K.In z.heap) (r : RelV (vV v) u) (h : ∀ tk, Q (M24.isT v) { z with toks := tk }) (hd : (x == ("__debug__" : Str)) = false := by decide) :
    wpAny (model P w) A (isTrue (.Call (.Name "isinstance" p1) [.Name x p2, .Name "str" p3] [] p4) env (eval (.Call (.Name "isinstance" p1) [.Name x p2, .Name "str" p3] [] p4) env)) Q E z := by
  refine wpAny_isTrue_value (wpAny_Call_Name_kw (ld_bltn hk hg1 e1 e2 b n1 PyProof.Rows.boot_isinstance (PyProof.Rows.callWith_builtin1 ?_)))
  show wpAny (model P w) A (spliced [(false, eval (.Name x p2) env), (false, eval (.Name "str" p3) env)]) _ _ z
  refine Calls.spliced_cons (ld_local hk hl hn hm (Calls.spliced_cons (ld_bltn hk hg2 e1 e2 b n2 (by decide +kernel : bootBuiltins "str" = some (.type "str")) (Calls.spliced_nil ?_))) hd)
  subst hV
  cases v with
  | non =>
    cases r
    exact PySem.W.kia_one (b := false) PySem.W.kitx_none KI True.intro (by kernel_rfl) (fun z => nomatch z) fun tk => wpAny_truthy_bool (h tk)
  | txt l =>
    obtain ⟨t, rfl⟩ := r
    exact PySem.W.kia_one (b := true) PySem.W.kitx_str KI True.intro (by kernel_rfl) (fun z => nomatch z) fun tk => wpAny_truthy_bool (h tk)
  | num n =>
    obtain ⟨t, rfl⟩ := r
    exact PySem.W.kia_one (b := false) PySem.W.kitx_int KI True.intro (by kernel_rfl) (fun z => nomatch z) fun tk => wpAny_truthy_bool (h tk)
end
end GnK
end

section
-- part Fgk2
set_option Elab.async false
set_option linter.all false
set_option maxRecDepth 100000
set_option maxHeartbeats 2000000
/-! Fgk2: kind_of's and rank's bodies; any(kind_of(x) == t for x in a list) -/
namespace GnK
open PySem PySem.Spec PyProof.Rows L2 LamX Fw M5
open GxR (GenS keeps_refl keeps_tok sh_eta passing_true)
def kW : RV → V
  | .non => .non
  | .txt l => .str (S l)
  | .num n => .int n
def kindW : RV → Str
  | .non => Str.ofString "null"
  | .txt _ => Str.ofString "text"
  | .num _ => Str.ofString "int"
theorem kW_eq : kW = fun v => match v with | .non => .non | .txt l => .str (S l) | .num n => .int n := by funext v; cases v <;> rfl
/-- the names of a def of the values' kind -/
structure NmV (scope : Scope) (x : Str) : Prop where
  k : scope.kind = .function
  l : scope.names.lookup x = some NameKind.local
  i : scope.names.lookup ("isinstance" : Str) = some NameKind.globalImplicit
  s : scope.names.lookup ("str" : Str) = some NameKind.globalImplicit
  d : (x == ("__debug__" : Str)) = false
section
variable {P : Program} {w : World} {K : PySem.W.Frag} {mg : Str → Option Value} {A : Around} {E : Value → Shared → Prop} {env : Env} {m : Str → Option Value} {x : Str} {z : Shared} {v : RV} {u : Value}
/-- if x is None: return a; if isinstance(x, str): return b; return c -/
theorem three_way {e1 e2 e3 : Expr} {j1 : Nat} {p1 p2 p3 p5 p6 p7 p8 p9 p10 p12 p13 p15 : Pos} {Q : Flow → Shared → Prop} (n : NmV env.scope x) (g1 : env.globals = mainGlobals) (g2 : env.builtins = builtinsNs) (n1 : mg "isinstance" = none) (n2 : mg "str" = none)
    (KI : K.In z.heap) (b : BltOk z mg) (hn : z.heap.Ns env.locals m) (hm : m x = some u) (r : RelV (kW v) u)
    (h : ∀ tk, wpAny (model P w) A (eval (match v with | .non => e1 | .txt _ => e2 | .num _ => e3) env) (fun y z' => Q (.ret y) z') E { z with toks := tk }) :
    wpAny (model P w) A (execs [.If (.Compare (.Name x p1) [.Is] [.Constant .none j1 p2] p3) [.Return (some e1) p5] [] p6,
      .If (.Call (.Name "isinstance" p7) [.Name x p8, .Name "str" p9] [] p10) [.Return (some e2) p12] [] p13, .Return (some e3) p15] env) Q E z := by
  refine wpAny_execs_cons (wpAny_If (wpAny_isTrue_Compare1 (ld_local n.k n.l hn hm (Constant_none (is_none_gen (wpAny_truthy_bool ?_))) n.d) (by with_unfolding_all rfl)))
  have nx : v ≠ .non → wpAny (model P w) A (execs [.If (.Call (.Name "isinstance" p7) [.Name x p8, .Name "str" p9] [] p10) [.Return (some e2) p12] [] p13, .Return (some e3) p15] env) Q E z := by
    intro hv
    refine wpAny_execs_cons (wpAny_If (isi_str kW_eq n.k n.l hn hm n.i n.s g1 g2 b n1 n2 KI r (fun tk => ?_) n.d))
    cases v with
    | non => exact absurd rfl hv
    | txt l => exact wpAny_execs_cons (wpAny_Return_some (h tk))
    | num k => exact wpAny_execs_nil (wpAny_execs_cons (wpAny_Return_some (h tk)))
  cases v with
  | non =>
    cases r
    have h0 := h z.toks
    exact wpAny_execs_cons (wpAny_Return_some h0)
  | txt l =>
    obtain ⟨t, rfl⟩ := r
    exact wpAny_execs_nil (nx fun z => by cases z)
  | num k =>
    obtain ⟨t, rfl⟩ := r
    exact wpAny_execs_nil (nx fun z => by cases z)
theorem keeps_tk (z : Shared) (tk : Nat) : Keeps z { z with toks := tk } := ⟨z.heap, tk, rfl, fun _ _ e => e⟩
/-- a text for each kind -/
theorem kind_low {j1 j2 j3 j4 : Nat} {p1 p2 p3 p4 p5 p6 p7 p8 p9 p10 p11 p12 p13 p14 p15 : Pos} {Q : Flow → Shared → Prop} (n : NmV env.scope x) (g1 : env.globals = mainGlobals) (g2 : env.builtins = builtinsNs) (n1 : mg "isinstance" = none) (n2 : mg "str" = none)
    (KI : K.In z.heap) (b : BltOk z mg) (hn : z.heap.Ns env.locals m) (hm : m x = some u) (r : RelV (kW v) u) (h : ∀ t z', Keeps z z' → Q (.ret (.str (kindW v) t)) z') :
    wpAny (model P w) A (execs [.If (.Compare (.Name x p1) [.Is] [.Constant .none j1 p2] p3) [.Return (some (.Constant (.str (Str.ofString "null")) j2 p4)) p5] [] p6,
      .If (.Call (.Name "isinstance" p7) [.Name x p8, .Name "str" p9] [] p10) [.Return (some (.Constant (.str (Str.ofString "text")) j3 p11)) p12] [] p13, .Return (some (.Constant (.str (Str.ofString "int")) j4 p14)) p15] env) Q E z := by
  refine three_way n g1 g2 n1 n2 KI b hn hm r fun tk => ?_
  cases v with
  | non => exact Calls.Constant_str (h _ _ (keeps_trans (keeps_tk z tk) (keeps_tk _ _)))
  | txt l => exact Calls.Constant_str (h _ _ (keeps_trans (keeps_tk z tk) (keeps_tk _ _)))
  | num k => exact Calls.Constant_str (h _ _ (keeps_trans (keeps_tk z tk) (keeps_tk _ _)))
/-- the rank of a number -/
theorem rank_low {j1 i1 : Nat} {e1 e2 : Expr} {k : Int} {p1 p2 p3 p5 p6 p7 p8 p9 p10 p12 p13 p15 q1 q2 q3 : Pos} {cx : Nat} {Q : Flow → Shared → Prop} (n : NmV env.scope x) (g1 : env.globals = mainGlobals) (g2 : env.builtins = builtinsNs) (n1 : mg "isinstance" = none) (n2 : mg "str" = none)
    (KI : K.In z.heap) (b : BltOk z mg) (hn : z.heap.Ns env.locals m) (hm : m x = some u) (r : RelV (kW (.num k)) u)
    (h : ∀ t z' a, Keeps z z' → z.heap.objs.size ≤ a → z'.heap.IsTuple a #[.int 1 t, u] → Q (.ret (.ref a)) z') :
    wpAny (model P w) A (execs [.If (.Compare (.Name x p1) [.Is] [.Constant .none j1 p2] p3) [.Return (some e1) p5] [] p6,
      .If (.Call (.Name "isinstance" p7) [.Name x p8, .Name "str" p9] [] p10) [.Return (some e2) p12] [] p13, .Return (some (.Tuple [.Constant (.int 1) i1 q1, .Name x q2] cx q3)) p15] env) Q E z := by
  refine three_way (v := .num k) n g1 g2 n1 n2 KI b hn hm r fun tk => wpAny_Tuple_spliced ?_
  show wpAny (model P w) A (spliced [(false, eval (.Constant (.int 1) i1 q1) env), (false, eval (.Name x q2) env)]) _ _ _
  refine Calls.spliced_cons (wpAny_Constant_int (Calls.spliced_cons (ld_local n.k n.l hn hm (Calls.spliced_nil ⟨by show 2 ≤ sizeLine; decide, ?_⟩) n.d)))
  exact h _ _ _ (keeps_trans (keeps_trans (keeps_tk z tk) (keeps_tk _ _)) (keeps_push _ _)) (Nat.le_refl _) ⟨_, Heap.get?_push_size _ rfl, rfl, _, rfl⟩
end
end GnK
end

section
-- part Fgk3
set_option Elab.async false
set_option linter.all false
set_option maxRecDepth 100000
set_option maxHeartbeats 2000000
/-! Fgk3: a generator over a list of values, its element a call of a plain def -/
namespace GnK
open PySem PySem.Spec PyProof.Rows L2 LamX Fw M5
open GxR (GenS keeps_refl keeps_tok sh_eta passing_true)
/-- the element of a value v is pb v, whatever is around -/
def EltK (prog : Program) (w : World) (base : Heap) (D : Nat) (scope : Scope) (x : Str) (elt : Expr) (pb : RV → Bool) : Prop :=
  ∀ (ce : Env) (B : Around) (F : Value → Shared → Prop) (v : RV) (u : Value) (z : Shared) (m : Str → Option Value), ce.scope = scope → ce.globals = mainGlobals → B.handled = none → B.depth ≤ D → RelV (kW v) u → (∀ b o, base.get? b = some o → z.heap.get? b = some o) →
    z.heap.Ns ce.locals m → m x = some u → wpAny (model prog w) B (eval elt ce) (fun y z' => y = .bool (pb v) ∧ Keeps z z') F z
def trK (pb : RV → Bool) (l : List RV) (j : Nat) : Bool := (l[j]?).elim false pb
theorem trK_some {pb : RV → Bool} {l : List RV} {j : Nat} {b : RV} (h : l[j]? = some b) : trK pb l j = pb b := by show (l[j]?).elim false pb = pb b; rw [h]; rfl
theorem any_trK (l : List RV) (pb : RV → Bool) : (List.range l.length).any (trK pb l) = l.any pb := by
  rw [Bool.eq_iff_iff, List.any_eq_true, List.any_eq_true]
  refine ⟨fun ⟨j, hj, h⟩ => ?_, fun ⟨b, hb, h⟩ => ?_⟩
  · have hl := List.mem_range.mp hj
    exact ⟨l[j], List.getElem_mem hl, by rw [← trK_some (pb := pb) (List.getElem?_eq_getElem hl)]; exact h⟩
  · obtain ⟨j, hl, e⟩ := List.getElem_of_mem hb
    exact ⟨j, List.mem_range.mpr hl, by rw [trK_some (List.getElem?_eq_getElem hl), e]; exact h⟩
variable {X : Cx} {pins : List (Addr × Obj)} {σ : L2.St} {H : Hp} {s : Shared}
/-- the generator g over the ints ns, ready to be walked, in the state z -/
def Ready (X : Cx) (pins : List (Addr × Obj)) (σ : L2.St) (H1 : Hp) (T : List (Addr × Str)) (ns : List RV) (pb : RV → Bool) (g : Addr) (z : Shared) : Prop :=
  ∃ (fp wr : List Addr) (G : Array GenState → Array GenState → Prop) (F : Nat → Value → Prop) (St : Nat → Shared → Prop),
    WalksS X.prog X.w X.A.in1 g fp wr G ns.length F St ∧ St 0 z ∧ TruthOf X.prog X.w X.A.in1 F (trK pb ns) ∧ ∀ z', Moved wr G z z' → ∃ H2, ExtN H1 H2 ∧ Tabs T H2 ∧ Inv X pins σ H2 z'
theorem moved_inv {g' : Array GenState} {d' : Drawn} {t' : Nat} {h' : Heap} (I : Inv X pins σ H s) (k : ∀ b o, s.heap.get? b = some o → h'.get? b = some o) (hg : AllBare g') : Inv X pins σ H { s with heap := h', gens := g', drawn := d', toks := t' } := by
  refine I.step (g' := g') (d' := d') (ch := []) (fun b hb => nomatch hb) (fun b o _ _ _ e n => k b o e) (fun b o _ _ _ e n => ⟨o.slots, k b o e⟩) (fun b o _ e n => n) (fun b o _ e => ⟨o, k b o e⟩) (fun b xs e => e) (fun b o u e => e) (fun b qs e => by rw [e]; exact ⟨#[], by simp⟩)
    (fun m hn => ?_) (fun b u e => (I.hok b u e).stay (fun d v _ q => k d v q) (fun d q => q) fun d xs q => q) hg
  obtain ⟨ob, es, ep, ho, r⟩ := hn
  exact ⟨ob, es, ep, k _ ob ho, r⟩
theorem gen_vals {T : List (Addr × Str)} {c P : Addr} {elt iter : Expr} {x : Str} {px gpos : Pos} {scope : Scope} {pb : RV → Bool} {te : TE} {k : Nat} {Q' : Value → Shared → Prop} {R : Addr → List RV → Hp → Prop}
    (hr : Room k X.A) (TB : TabB X.base X.mg c P) (hcode : X.env.code = .ref c) (hm : (P, X.env.qual ++ "<genexpr>") ∈ T) (hu : ∀ p ∈ T, p.1 = P → p.2 = X.env.qual ++ "<genexpr>") (S : GenS X.env scope x) (hi : PE X iter te) (hel : Mod X.K X.mg X.base → EltK X.prog X.w X.base (X.A.depth + 1) scope x elt pb)
    (hs : ∀ v, genFold iter X.env v = pure v) (I : Inv X pins σ H s) (h : te σ H fun v H1 => ∃ a ns, v = .ref a ∧ SqL X.K H1 a (ns.map kW) ∧ Tabs T H1 ∧ R a ns H1)
    (hQ : ∀ a ns H1 g z, R a ns H1 → Ready X pins σ H1 T ns pb g z → Q' (.ref g) z) : wpAny (model X.prog X.w) X.A (eval (.GeneratorExp elt [⟨.Name x px, iter, [], 0⟩] scope gpos) X.env) Q' X.xe s := by
  refine wpAny_GeneratorExp_walksQD hr.hd S.co (closure_ok S.free) S.cell S.dot S.loc S.kind (by have := hr.dp; omega) (thn (hi.run pins s σ H _ I h) fun xv s1 ⟨v, H1, I1, r1, q1⟩ => ?_) hs
  obtain ⟨a, ns, rfl, hS, hT, q1⟩ := q1
  obtain ⟨its, rv, hl0, _⟩ := I1.list hS
  have ht := hl0.isList
  cases r1
  have la : a < s1.heap.objs.size := by obtain ⟨o, ho, _⟩ := id ht; exact Heap.lt_size ho
  have hlen : its.toArray.size = ns.length := by have := rv.length; rw [List.length_map] at this; simp only [List.size_toArray]; omega
  have hval : ∀ (i : Nat) (u : Value), its.toArray[i]? = some u → ∃ b, ns[i]? = some b ∧ RelV (kW b) u := fun i u e => by
    have e' : its[i]? = some u := by simpa using e
    have hl : i < ns.length := by have := (List.getElem?_eq_some_iff.mp e').1; rw [← hlen]; simpa using this
    obtain ⟨u2, e2, r2⟩ := rv.get (i := i) (x := kW ns[i]) (by rw [List.getElem?_map, List.getElem?_eq_getElem hl]; rfl)
    rw [e'] at e2
    cases e2
    exact ⟨_, List.getElem?_eq_getElem hl, r2⟩
  obtain ⟨ps, hP, htr, hnm⟩ := hT _ hm
  refine wpAny_pyIter_list ht ?_
  have hPs : s1.heap.get? P = some { cls := .none, data := .fields ps } := I1.hok P _ hP
  have haP : a ≠ P := fun z => by
    obtain ⟨o, ho, hc, _⟩ := id ht
    rw [z, hPs] at ho
    cases ho
    cases hc
  have hPlt : P < s1.heap.objs.size := Heap.lt_size hPs
  obtain ⟨N, eN⟩ : ∃ N : Nat, N = s1.heap.objs.size := ⟨_, rfl⟩
  obtain ⟨o, eo⟩ : ∃ o : Obj, o = { cls := .type "list_iterator", data := .fields #[.ref a, .int 0 0] } := ⟨_, rfl⟩
  rw [← eo]
  have sz2 : (s1.heap.push o).objs.size = N + 1 := by rw [Heap.size_push, ← eN]
  have kp2 : ∀ b u, s1.heap.get? b = some u → (s1.heap.push o).get? b = some u := fun b u e => Heap.get?_push_of_some _ e
  have hit : (s1.heap.push o).IsListIter N a 0 := by rw [eN, eo]; exact ⟨_, Heap.get?_push_size _ rfl, rfl, rfl⟩
  have cd : PySem.W.CodeHd (s1.heap.push o) c P := TB.code.keeps fun b u e => kp2 b u (I1.bk b u e)
  have lim2 : (s1.heap.push o).NoLimit := I1.nolimit.push o
  have W : ∀ B : Around, B.handled = none → Walks X.prog X.w B N [N, a] [N] its.toArray.size (fun i u => its.toArray[i]? = some u) (fun i hh => hh.IsListIter N a i ∧ hh.IsList a its.toArray) := fun B hB => Walks.list hB N a (by rw [eN]; exact Nat.ne_of_lt la) its.toArray
  have cont : ∀ (code : Value) (h3 : Heap) (tk : Nat), Heap.ExtBut P (s1.heap.push o) h3 → (s1.heap.push o).objs.size ≤ h3.objs.size →
      (∀ (h' : Heap) (t' : Nat), (∀ b u, b ≠ N → h3.get? b = some u → h'.get? b = some u) → ∃ H3, ExtN H1 H3 ∧ Tabs T H3 ∧ Inv X pins σ H3 { s1 with heap := h', toks := t' }) →
      wpAny (model X.prog X.w) X.A (builtinsFor X.env.globals X.env.builtins) (fun bi z =>
        ∃ Ia fp wr n₀ Pf St₀ pz F, Value.ref N = .ref Ia ∧ (∀ B : Around, B.handled = none → Walks X.prog X.w B Ia fp wr n₀ Pf St₀) ∧ St₀ 0 z.heap ∧ (∀ b ∈ fp, b < z.heap.objs.size) ∧ z.heap.NoLimit ∧ cStatics ∉ wr ∧
          (∀ hz : Heap, (∀ b o, z.heap.get? b = some o → hz.get? b = some o) →
            QuietGenD X.prog X.w (genEnv scope (cloFrom X.env.cells scope.names []) z.heap.objs.size code bi X.env) x [] elt (List.range z.heap.objs.size) wr Pf pz F hz (X.A.depth + 1) (X.A.units + 8)) ∧
          (∀ a h₅ tk gs, gs.bare = true → z.heap.objs.size < a → h₅.objs.size = a + 1 → (∀ b o, z.heap.get? b = some o → h₅.get? b = some o) →
            WalksS X.prog X.w X.A.in4 a (a :: z.heap.objs.size :: List.range z.heap.objs.size) (z.heap.objs.size :: wr) (GenOnlyQ z.gens.size) (passing pz n₀ 0).length
              (fun j y => ∃ i, (passing pz n₀ 0)[j]? = some i ∧ F i y) (GenAt X.prog X.w X.A.in4 a z.gens.size z.heap.objs.size (List.range z.heap.objs.size) wr pz n₀ F) →
            GenAt X.prog X.w X.A.in4 a z.gens.size z.heap.objs.size (List.range z.heap.objs.size) wr pz n₀ F 0 { z with gens := z.gens.push gs, toks := tk, heap := h₅ } →
            Q' (.ref a) { z with gens := z.gens.push gs, toks := tk, heap := h₅ })) X.xe { s1 with heap := h3, toks := tk } := by
    intro code h3 tk hx hsz hI
    obtain ⟨bm, ob, e1, e2, e3, e4, e5, e6, e7, e8⟩ := TB.bm
    have hsz' : N + 1 ≤ h3.objs.size := by rw [← sz2]; exact hsz
    have keep3 : ∀ b u, b ≠ P → s1.heap.get? b = some u → h3.get? b = some u := fun b u hb e => hx b u hb (kp2 b u e)
    have hclt : cStatics < N := by rw [eN]; exact let ⟨_, hns, _⟩ := I1.nolimit; hns.lt
    refine wpAny_builtinsFor (m := X.mg) (by rw [I1.ok.glob]; exact ((I1.mod.glob.keeps I1.bk).push o).extBut hx TB.gP) e1 e2 (keep3 _ _ e4 (I1.bk _ _ e5)) e6 e7 e8 ?_
    have itP : N ≠ P := fun z => by rw [eN] at z; exact Nat.ne_of_lt hPlt z.symm
    have hta : h3.IsList a its.toArray := by
      obtain ⟨o1, g1, r1⟩ := ht
      exact ⟨o1, keep3 a o1 haP g1, r1⟩
    obtain ⟨_, _, _, I3⟩ := hI h3 tk fun b u _ e => e
    refine ⟨N, [N, a], [N], its.toArray.size, _, _, (fun _ => true), (fun i y => ∃ b, ns[i]? = some b ∧ y = .bool (pb b)), rfl, W, ⟨hit.at fun u e => hx N u itP e, hta⟩, fun b hb => ?_, I3.nolimit, fun z => ?_, fun hz hhz => ?_, fun g h5 tk5 gs hgb hag hsz5 hk5 W5 hat => ?_⟩
    · show b < h3.objs.size
      rcases List.mem_cons.mp hb with z | hb
      · rw [z]; exact Nat.lt_of_lt_of_le (Nat.lt_succ_self N) hsz'
      · rw [List.mem_singleton.mp hb]; exact Nat.lt_of_lt_of_le (Nat.lt_succ_of_lt (eN ▸ la)) hsz'
    · rw [List.mem_singleton.mp z] at hclt
      exact Nat.lt_irrefl _ hclt
    · refine ⟨fun B F' i v s₂ m₂ hB hD hU hPv hn hm hk => ?_, fun B F' i v s₂ m₂ hB hD hU hPv hp hn hm hk => ?_⟩
      · simp only [List.forIn_nil]
        exact wpAny_pure ⟨rfl, keeps_refl _⟩
      · obtain ⟨b, hb, rb⟩ := hval i v hPv
        refine wpAny_mono (hel I1.ok.mod _ B F' b v s₂ m₂ rfl I1.ok.glob hB hD rb (fun c o e => ?_) hn hm) (fun y s3 r => ⟨⟨b, hb, r.1⟩, r.2⟩) fun _ _ e => e
        have e3 := I3.bk c o e
        have c1 : c < N := by rw [eN]; exact Heap.lt_size (I1.bk c o e)
        exact hk c (List.mem_range.mpr (Heap.lt_size e3)) (fun z => Nat.ne_of_lt c1 (List.mem_singleton.mp z)) o (hhz c o e3)
    · simp only [GxR.passing_true, List.length_range, hlen] at W5
      refine hQ a ns H1 g _ q1 ⟨_, _, _, _, _, W5.in4_1, by rw [hlen] at hat; exact hat, fun j y sj Qj Ej hy hQj => ?_, fun z' hmv => ?_⟩
      · obtain ⟨i, hij, b, hb, rfl⟩ := hy
        obtain ⟨hj, ej⟩ := List.getElem?_eq_some_iff.mp hij
        rw [List.getElem_range] at ej
        subst ej
        have hQ2 : Qj (trK pb ns j) sj := hQj
        rw [trK_some hb] at hQ2
        exact wpAny_truthy_bool hQ2
      · obtain ⟨H3, eN3, hT3, I4⟩ := hI z'.heap z'.toks fun b u hb e => hmv.heap b u (fun z => by
          rcases List.mem_cons.mp z with z | z
          · rw [z] at e
            exact Nat.lt_irrefl _ (Heap.lt_size e)
          · exact hb (List.mem_singleton.mp z)) (hk5 b u e)
        have J := moved_inv (g' := z'.gens) (d' := z'.drawn) (t' := z'.toks) (h' := z'.heap) I4 (fun b u e => e) (AllBare.movedS (I1.bare.push hgb) hmv)
        have J2 := sh_eta { s1 with heap := h3, toks := tk } z' hmv.os
        rw [← J2]
        exact ⟨H3, eN3, hT3, J⟩
  subst eN
  refine ⟨lim2, ?_⟩
  have hP2 : (s1.heap.push o).get? P = some { cls := .none, data := .fields ps } := kp2 _ _ hPs
  have nN : ∀ b u, s1.heap.get? b = some u → b ≠ s1.heap.objs.size := fun b u e => Nat.ne_of_lt (Heap.lt_size e)
  cases hf : codeAmong gpos ps.toList with
  | none =>
    refine wpAny_genexprCodeX hcode (cd.code hP2 htr) (cd.tab hP2) hf fun c' h' tk hx hge hlt hco' hrec htab' _ => ?_
    obtain ⟨c2, oc, vs, t, e2, hoc, hd, hv⟩ := hrec
    cases e2
    have hge1 : s1.heap.objs.size + 1 ≤ c' := by rw [← sz2]; exact hge
    have hge' : s1.heap.objs.size ≤ c' := Nat.le_of_succ_le hge1
    have nC : H1 c' = none := I1.hok.fresh hge'
    have hE : ExtN H1 (upd (upd H1 P (.tbl (ps ++ #[rawInt gpos.line, rawInt gpos.col, .ref c']))) c' (CodeO c' (X.env.qual ++ "<genexpr>"))) := fun b u e n => by
      rw [upd_ne (ne_of_none e nC), upd_ne (fun z => n ps (Option.some.inj (e.symm.trans (by rw [z]; exact hP))))]
      exact e
    have eL : (ps ++ #[rawInt gpos.line, rawInt gpos.col, .ref c']).toList = ps.toList ++ [rawInt gpos.line, rawInt gpos.col, .ref c'] := by simp
    refine cont _ h' tk hx (Nat.le_trans hge (Nat.le_of_lt hlt)) fun h'' t'' k'' => ⟨_, hE, fun p hp => ?_, inv_table (t' := t'') (more := #[rawInt gpos.line, rawInt gpos.col, .ref c']) (h' := h'') I1 hP (fun b u hb e => k'' b u (nN b u e) (hx b u hb (kp2 b u e))) (k'' P _ (nN _ _ hPs) htab'.2) hge' ⟨oc, vs, t, k'' c' _ (Nat.ne_of_gt hge1) hoc, hd, hv⟩⟩
    by_cases hb : p.1 = P
    · rw [hu p hp hb, hb]
      refine ⟨_, by rw [upd_ne (ne_of_none hP nC), upd_same], by rw [eL]; exact PySem.TriplesOk_snoc _ _ _ _ htr, fun p' cv hcv => ?_⟩
      rw [eL] at hcv
      rcases among_app _ htr hcv with z | z
      · obtain ⟨c0, e1, e2⟩ := hnm p' cv z
        exact ⟨c0, e1, hE _ _ e2 codeO_ne⟩
      · exact ⟨c', z, upd_same⟩
    · obtain ⟨ps', a1, a2, a3⟩ := hT p hp
      refine ⟨ps', by rw [upd_ne (ne_of_none a1 nC), upd_ne hb]; exact a1, a2, fun p' cv hcv => ?_⟩
      obtain ⟨c0, e1, e2⟩ := a3 p' cv hcv
      exact ⟨c0, e1, hE _ _ e2 codeO_ne⟩
  | some cv =>
    refine wpAny_genexprCode_hit hcode (cd.code hP2 htr) hf ?_
    exact cont cv (s1.heap.push o) s1.toks (Heap.ExtBut.refl _ _) (Nat.le_refl _) fun h'' t'' k'' => ⟨H1, ExtN.refl H1, hT, I1.kept fun b u e => k'' b u (nN b u e) (kp2 b u e)⟩
/-- any(test for x in e), e a list of values -/
def tAnyK (K : PySem.W.Frag) (T : List (Addr × Str)) (pb : RV → Bool) (te : TE) : TE := fun σ H Q => te σ H fun v H1 => ∃ (a : Addr) (ns : List RV), v = .ref a ∧ SqL K H1 a (ns.map kW) ∧ Tabs T H1 ∧ ∀ H2, ExtN H1 H2 → Tabs T H2 → Q (.bl (ns.any pb)) H2
theorem pe_anyK {T : List (Addr × Str)} {c P : Addr} {elt iter : Expr} {x : Str} {px p pos gpos : Pos} {scope : Scope} {pb : RV → Bool} {te : TE} {k : Nat} (hr : Room k X.A) (hg : Gl X "any") (hma : X.mg "any" = none) (TB : TabB X.base X.mg c P) (hcode : X.env.code = .ref c)
    (hm : (P, X.env.qual ++ "<genexpr>") ∈ T) (hu : ∀ p ∈ T, p.1 = P → p.2 = X.env.qual ++ "<genexpr>") (S : GenS X.env scope x) (hi : PE X iter te) (hel : Mod X.K X.mg X.base → EltK X.prog X.w X.base (X.A.depth + 1) scope x elt pb) (hs : ∀ v, genFold iter X.env v = pure v)
    (he : starEach [.GeneratorExp elt [⟨.Name x px, iter, [], 0⟩] scope gpos] X.env = (false, eval (.GeneratorExp elt [⟨.Name x px, iter, [], 0⟩] scope gpos) X.env) :: starEach [] X.env := by rfl) :
    PE X (.Call (.Name "any" p) [.GeneratorExp elt [⟨.Name x px, iter, [], 0⟩] scope gpos] [] pos) (tAnyK X.K T pb te) := by
  refine ⟨fun pins s σ H Q I h => wpAny_Call_Name_kw (ld_blt I hg hma boot_any (PyProof.Rows.callWith_builtin1 ?_ he (by rfl)))⟩
  rw [he]
  show wpAny _ _ (spliced ((false, eval (.GeneratorExp elt [⟨.Name x px, iter, [], 0⟩] scope gpos) X.env) :: backTo pos (starEach [] X.env))) _ _ s
  refine Calls.spliced_cons (gen_vals (R := fun a ns H1 => ∀ H2, ExtN H1 H2 → Tabs T H2 → Q (.bl (ns.any pb)) H2) hr TB hcode hm hu S hi hel hs I h fun a ns H1 g z hR hG => Calls.spliced_nil ?_)
  obtain ⟨fp, wr, G, F, St, W, hst, htr, hI⟩ := hG
  refine call_any_walkS (W.self 0 _ _ _ hst ⟨g, fp, wr, G, _, F, St, _, rfl, W, hst, htr, fun s' hmv => ?_⟩)
  obtain ⟨H2, hE, hT, J⟩ := hI s' hmv
  exact ⟨.bl _, H2, J, rfl, by rw [any_trK ns pb]; exact hR H2 hE hT⟩
theorem w_anyK {K : PySem.W.Frag} {T : List (Addr × Str)} {pb : RV → Bool} {te : TE} {σ : L2.St} {H : Hp} {Q : VK} (h : te σ H fun v H1 => ∃ (a : Addr) (ns : List RV), v = .ref a ∧ SqL K H1 a (ns.map kW) ∧ Tabs T H1 ∧ ∀ H2, ExtN H1 H2 → Tabs T H2 → Q (.bl (ns.any pb)) H2) : tAnyK K T pb te σ H Q := h
end GnK
end

section
-- part Fgk4
set_option Elab.async false
set_option linter.all false
set_option maxRecDepth 100000
set_option maxHeartbeats 2000000
/-! Fgk4: kind_of(x) == 'text' as a generator's element -/
namespace GnK
open PySem PySem.Spec PyProof.Rows L2 LamX Fw M5
open GxR (GenS keeps_refl keeps_tok sh_eta passing_true)
theorem kindW_text (v : RV) : (kindW v == Str.ofString "text") = M24.isT v := by
  cases v with
  | non => show (Str.ofString "null" == Str.ofString "text") = false; decide +kernel
  | txt l => show (Str.ofString "text" == Str.ofString "text") = true; decide +kernel
  | num n => show (Str.ofString "int" == Str.ofString "text") = false; decide +kernel
theorem elt_kind {P : Program} {w : World} {K : PySem.W.Frag} {mg : Str → Option Value} {base : Heap} {D : Nat} {scope : Scope} {x g y qual : Str} {params : Arguments} {fscope : Scope} {f : Addr} {fd : FuncData} {N : List Str}
    {j j1 j2 j3 j4 : Nat} {q1 q2 q3 q4 q5 p1 p2 p3 p4 p5 p6 p7 p8 p9 p10 p11 p12 p13 p14 p15 : Pos}
    (F : FunD K g qual params [.If (.Compare (.Name y p1) [.Is] [.Constant .none j1 p2] p3) [.Return (some (.Constant (.str (Str.ofString "null")) j2 p4)) p5] [] p6,
      .If (.Call (.Name "isinstance" p7) [.Name y p8, .Name "str" p9] [] p10) [.Return (some (.Constant (.str (Str.ofString "text")) j3 p11)) p12] [] p13, .Return (some (.Constant (.str (Str.ofString "int")) j4 p14)) p15] fscope [] [] f fd)
    (S : FnScope N [y] fscope) (bx : Binds K fd [y] []) (n : NmV fscope y) (n1 : mg "isinstance" = none) (n2 : mg "str" = none) (hmg : mg g = some (.ref f)) (hkp : PySem.W.keepIn K (.ref f) = true)
    (hk : scope.kind = .function) (hl : scope.names.lookup x = some NameKind.local) (hg : scope.names.lookup g = some NameKind.globalImplicit) (hD : D < recursionLimit) (hd : (x == ("__debug__" : Str)) = false) (hdg : (g == ("__debug__" : Str)) = false) (M : Mod K mg base) :
    EltK P w base D scope x (.Compare (.Call (.Name g q1) [.Name x q2] [] q3) [.Eq] [.Constant (.str (Str.ofString "text")) j q4] q5) M24.isT := by
  intro ce B E v u z m hs hgl hh hdp r hb hn hm
  subst hs
  refine wpAny_Compare1 (wpAny_Call_Name_kw (Calls.Name_function_global hk hg (Calls.loadGlobal_global (by rw [hgl]; exact M.glob.keeps hb) hmg ?_) hdg)) (by with_unfolding_all rfl)
  refine PySem.W.callWith_K (h₀ := base) M.kin hkp ?_
  show wpAny (model P w) B (spliced [(false, eval (.Name x q2) ce)]) _ _ z
  refine Calls.spliced_cons (ld_local hk hl hn hm (Calls.spliced_nil ⟨M.kin.keeps hb, ?_⟩) hd)
  refine low_call F S bx n.l M hb (Nat.lt_of_le_of_lt hdp hD) fun B1 env z1 m1 h1 h2 h3 h4 h5 h6 => ?_
  have hb1 : ∀ b o, base.get? b = some o → z1.heap.get? b = some o := fun b o e => by
    obtain ⟨h', tk, rfl, k⟩ := h6
    exact k b o (hb b o e)
  subst h1
  refine kind_low (K := K) (mg := mg) n h2 h3 n1 n2 (M.kin.keeps hb1) (BltOk.of M hb1) h4 h5 r fun t z' hz => ⟨_, rfl, ?_⟩
  refine Calls.Constant_str (eq_str ?_)
  refine ⟨by rw [kindW_text], keeps_trans (keeps_trans h6 hz) (keeps_tk _ _)⟩
end GnK
end

section
-- part Fmk
set_option Elab.async false
set_option linter.all false
set_option maxRecDepth 100000
set_option maxHeartbeats 2000000
/-! Fmk: min and max of a list of ints by key=rank, rank an own def run at the machine's level; bounded // and % of any sign -/
namespace MnK
open PySem PySem.Spec PyProof.Rows L2 Fw M5 GnK
/-- what the key is of an int: the tuple (1, n) -/
def KeyD (P : Program) (w : World) (base : Heap) (f : Addr) : Prop := ∀ (A : Around) (E : Value → Shared → Prop) (z : Shared) (Q : Value → Shared → Prop) (n : Int) (u : Value), (∀ b o, base.get? b = some o → z.heap.get? b = some o) → A.depth < recursionLimit → RelV (.int n) u →
  (∀ t z' a, Keeps z z' → (∀ b o, z.heap.get? b = some o → b ≠ a) → z'.heap.IsTuple a #[.int 1 t, u] → Q (.ref a) z') → wpAny (model P w) A (call (.ref f) [u]) Q E z
theorem keyD_of {P : Program} {w : World} {K : PySem.W.Frag} {mg : Str → Option Value} {base : Heap} {g y qual : Str} {params : Arguments} {fscope : Scope} {f : Addr} {fd : FuncData} {N : List Str}
    {j1 i1 : Nat} {e1 e2 : Expr} {p1 p2 p3 p5 p6 p7 p8 p9 p10 p12 p13 p15 q1 q2 q3 : Pos} {cx : Nat}
    (F : FunD K g qual params [.If (.Compare (.Name y p1) [.Is] [.Constant .none j1 p2] p3) [.Return (some e1) p5] [] p6,
      .If (.Call (.Name "isinstance" p7) [.Name y p8, .Name "str" p9] [] p10) [.Return (some e2) p12] [] p13, .Return (some (.Tuple [.Constant (.int 1) i1 q1, .Name y q2] cx q3)) p15] fscope [] [] f fd)
    (S : FnScope N [y] fscope) (bx : Binds K fd [y] []) (n : NmV fscope y) (n1 : mg "isinstance" = none) (n2 : mg "str" = none) (M : Mod K mg base) : KeyD P w base f := by
  intro A E z Q k u hb hd r h
  refine low_call F S bx n.l M hb hd fun B1 env z1 m1 h1 h2 h3 h4 h5 h6 => ?_
  have hb1 : ∀ b o, base.get? b = some o → z1.heap.get? b = some o := fun b o e => by
    obtain ⟨h', tk, rfl, k⟩ := h6
    exact k b o (hb b o e)
  subst h1
  refine rank_low (K := K) (mg := mg) n h2 h3 n1 n2 (M.kin.keeps hb1) (BltOk.of M hb1) h4 h5 r fun t z' a hz ha ht => ⟨_, rfl, h t z' a (keeps_trans h6 hz) (fun c o e => ?_) ht⟩
  obtain ⟨h', tk, rfl, k⟩ := h6
  exact Nat.ne_of_lt (Nat.lt_of_lt_of_le (Heap.lt_size (k c o e)) ha)
theorem key_at {s : Shared} {A : Around} (t : Tok) (n : Int) (t2 : Tok) (t' : Tok) (m : Int) (t2' : Tok) : ∀ j (h1 : j < (#[Value.int 1 t, .int n t2] : Array Value).size) (h2 : j < (#[Value.int 1 t', .int m t2'] : Array Value).size),
    SeqAt.EqAt A s (#[Value.int 1 t, .int n t2] : Array Value)[j] (#[Value.int 1 t', .int m t2'] : Array Value)[j] (if j = 0 then true else decide (n = m)) := by
  intro j h1 h2
  have z := SeqAt.EqAt.int_int (A := A) (s := s) n t2 m t2'
  have z1 := SeqAt.EqAt.int_int (A := A) (s := s) 1 t 1 t'
  rw [Bool.beq_eq_decide_eq] at z z1
  rcases j with _ | _ | j
  · exact z1
  · exact z
  · exact absurd (show j + 1 + 1 < 2 from h1) (by omega)
theorem cmp_lt {A : Around} {s : Shared} {a b : Addr} {n m : Int} {t t2 t' t2' : Tok} (ha : s.heap.IsTuple a #[.int 1 t, .int n t2]) (hb : s.heap.IsTuple b #[.int 1 t', .int m t2']) (hu : A.units < cLine) : Ob.RcOp .Lt A s (.ref a) (.ref b) (decide (n < m)) := by
  have R := Ob.RcOp.tuples_lt ha hb hu (e := fun j => if j = 0 then true else decide (n = m)) (r := fun _ => decide (n < m)) (key_at t n t2 t' m t2') (fun j h1 h2 e => by
    rcases j with _ | _ | j
    · cases e
    · exact Ob.RcOp.lt_int _ _ _ _
    · exact absurd (show j + 1 + 1 < 2 from h1) (by omega))
  have e : Ob.lexAt (fun j => if j = 0 then true else decide (n = m)) (fun _ => decide (n < m)) (decide ((2 : Nat) < 2)) 0 2 = decide (n < m) := by
    rw [Ob.lexAt_succ, if_pos rfl, Ob.lexAt_succ]
    by_cases c : n = m
    · subst c
      simp [Ob.lexAt_zero]
    · simp [c]
  rw [← e]
  exact R
theorem cmp_gt {A : Around} {s : Shared} {a b : Addr} {n m : Int} {t t2 t' t2' : Tok} (ha : s.heap.IsTuple a #[.int 1 t, .int n t2]) (hb : s.heap.IsTuple b #[.int 1 t', .int m t2']) (hu : A.units < cLine) : Ob.RcOp .Gt A s (.ref a) (.ref b) (decide (m < n)) := by
  have R := Ob.RcOp.tuples_gt ha hb hu (e := fun j => if j = 0 then true else decide (n = m)) (r := fun _ => decide (m < n)) (key_at t n t2 t' m t2') (fun j h1 h2 e => by
    rcases j with _ | _ | j
    · cases e
    · exact Ob.RcOp.gt_int _ _ _ _
    · exact absurd (show j + 1 + 1 < 2 from h1) (by omega))
  have e : Ob.lexAt (fun j => if j = 0 then true else decide (n = m)) (fun _ => decide (m < n)) (decide ((2 : Nat) > 2)) 0 2 = decide (m < n) := by
    rw [Ob.lexAt_succ, if_pos rfl, Ob.lexAt_succ]
    by_cases c : n = m
    · subst c
      simp [Ob.lexAt_zero]
    · simp [c]
  rw [← e]
  exact R
/-- the best place -/
theorem best_le {bt : Nat → Nat → Bool} (le : Int → Int → Prop) (ns : List Int) (rf : ∀ a, le a a) (tr : ∀ a b c, le a b → le b c → le a c) (h1 : ∀ i j, bt i j = true → le (ns.getD i 0) (ns.getD j 0)) (h0 : ∀ i j, bt i j = false → le (ns.getD j 0) (ns.getD i 0)) :
    ∀ k, argBest bt k ≤ k ∧ ∀ j, j ≤ k → le (ns.getD (argBest bt k) 0) (ns.getD j 0)
  | 0 => ⟨Nat.le_refl _, fun j hj => by rw [Nat.le_zero.mp hj]; exact rf _⟩
  | k + 1 => by
    obtain ⟨a, b⟩ := best_le le ns rf tr h1 h0 k
    unfold argBest
    cases e : bt (k + 1) (argBest bt k) with
    | true =>
      rw [if_pos rfl]
      refine ⟨Nat.le_refl _, fun j hj => ?_⟩
      rcases Nat.lt_or_ge k j with c | c
      · rw [show j = k + 1 by omega]; exact rf _
      · exact tr _ _ _ (h1 _ _ e) (b j c)
    | false =>
      rw [if_neg Bool.false_ne_true]
      refine ⟨Nat.le_succ_of_le a, fun j hj => ?_⟩
      rcases Nat.lt_or_ge k j with c | c
      · rw [show j = k + 1 by omega]; exact h0 _ _ e
      · exact b j c
section
variable {X : Cx} {pins : List (Addr × Obj)} {σ : L2.St} {H : Hp} {s : Shared}
/-- the state since s: all that stood stands -/
def Jt (s s' : Shared) : Prop := ∃ h' tk, s' = { s with heap := h', toks := tk } ∧ ∀ b o, s.heap.get? b = some o → h'.get? b = some o
theorem key_run {f : Addr} {op : CmpOp} {bt : Nat → Nat → Bool} {A : Around} {N a S : Addr} {its : List Value} {ns : List Int} (KD : KeyD X.prog X.w X.base f) (hb : ∀ b o, X.base.get? b = some o → s.heap.get? b = some o) (hd : A.depth < recursionLimit)
    (rv : Vals (ns.map V.int) its) (hN : ∀ b o, s.heap.get? b = some o → b ≠ N ∧ b ≠ S)
    (hc : ∀ (z : Shared) (b c : Addr) (n m : Int) (t t2 t' t2' : Tok) (i j : Nat), ns[i]? = some n → ns[j]? = some m → z.heap.IsTuple b #[.int 1 t, .int n t2] → z.heap.IsTuple c #[.int 1 t', .int m t2'] → Ob.RcOp op A z (.ref b) (.ref c) (bt i j)) :
    KeyRun X.prog X.w A (.ref f) op S [N] (fun x y => y = x) its.toArray.size (fun i v => its.toArray[i]? = some v) (fun i z => z.heap.IsListIter N a i ∧ z.heap.IsList a its.toArray) (Jt s)
      (fun i k z => ∃ b n t t2, k = .ref b ∧ b ≠ S ∧ b ≠ N ∧ ns[i]? = some n ∧ z.heap.IsTuple b #[.int 1 t, .int n t2]) bt where
  keep := fun z z' ⟨h', tk, e, k⟩ hm => by
    subst e
    refine ⟨z'.heap, z'.toks, ?_, fun b o q => hm.heap b o (fun w => ?_) (k b o q)⟩
    · have := GxR.sh_eta s z' hm.os
      rw [show z'.gens = s.gens from hm.gens, show z'.drawn = s.drawn from hm.drawn] at this
      exact this.symm
    · obtain ⟨h1, h2⟩ := hN b o q
      rcases List.mem_cons.mp w with w | w
      · exact h2 w
      · exact h1 (List.mem_singleton.mp w)
  keepV := fun i k z z' ⟨b, n, t, t2, e, h1, h2, h3, h4⟩ hm => by
    refine ⟨b, n, t, t2, e, h1, h2, h3, ?_⟩
    obtain ⟨o, ho, r⟩ := h4
    exact ⟨o, hm.heap b o (fun w => by
      rcases List.mem_cons.mp w with w | w
      · exact h1 w
      · exact h2 (List.mem_singleton.mp w)) ho, r⟩
  turn := fun i v z o Q E hi hP hJ hSt hS hQ => by
    obtain ⟨h', tk, rfl, k⟩ := hJ
    have hv : its[i]? = some v := by simpa using hP
    have hil : i < (ns.map V.int).length := by rw [rv.length]; exact (List.getElem?_eq_some_iff.mp hv).1
    rw [List.length_map] at hil
    obtain ⟨u2, e2, r2⟩ := rv.get (i := i) (x := V.int ns[i]) (by rw [List.getElem?_map, List.getElem?_eq_getElem hil]; rfl)
    rw [hv] at e2
    cases e2
    refine KD A E _ Q _ v (fun b o e => k b o (hb b o e)) hd r2 fun t z' b hk hn ht => ?_
    obtain ⟨t2, rfl⟩ := r2
    obtain ⟨h2, tk2, rfl, k2⟩ := hk
    refine hQ _ _ ⟨h2, tk2, rfl, fun c o e => k2 c o (k c o e)⟩ ⟨hSt.1.at fun o e => k2 _ o e, ?_⟩ (k2 _ _ hS) ⟨b, _, t, t2, rfl, fun z => hn _ _ hS z.symm, fun z => ?_, List.getElem?_eq_getElem hil, ht⟩ fun j k' ⟨b', n', t', t2', q1, q2, q3, q4, q5⟩ => ⟨b', n', t', t2', q1, q2, q3, q4, ?_⟩
    · obtain ⟨o1, g1, r1⟩ := hSt.2
      exact ⟨o1, k2 _ _ g1, r1⟩
    · obtain ⟨o1, g1, r1⟩ := hSt.1
      exact hn _ _ g1 z.symm
    · obtain ⟨o1, g1, r1⟩ := q5
      exact ⟨o1, k2 _ _ g1, r1⟩
  cmp := fun i j ki kj z Q E hJ ⟨b, n, t, t2, e1, _, _, h1, h2⟩ ⟨c, m, t', t2', e2, _, _, h3, h4⟩ q => by
    subst e1 e2
    exact hc z b c n m t t2 t' t2' i j h1 h3 h2 h4 X.prog X.w E Q q
def rKey (K : PySem.W.Frag) (f : Addr) (le : Int → Int → Prop) : List V → List V → Hp → VK → Prop := fun xs zs H Q => ∃ (a : Addr) (ns : List Int), xs = [.ref a] ∧ zs = [.ref f] ∧ SqL K H a (ns.map V.int) ∧ ns ≠ [] ∧ ∀ m, m ∈ ns → (∀ k ∈ ns, le m k) → Q (.int m) H
theorem getD_some {ns : List Int} {i : Nat} {n : Int} (h : ns[i]? = some n) : ns.getD i 0 = n := by rw [List.getD_eq_getElem?_getD, h]; rfl
theorem key_end {le : Int → Int → Prop} {bt : Nat → Nat → Bool} {its : List Value} {ns : List Int} {v : Value} {Q : Value → Shared → Prop} {s' : Shared} (rv : Vals (ns.map V.int) its) (hne : ns ≠ []) (rf : ∀ a, le a a) (tr : ∀ a b c, le a b → le b c → le a c) (h1 : ∀ i j, bt i j = true → le (ns.getD i 0) (ns.getD j 0)) (h0 : ∀ i j, bt i j = false → le (ns.getD j 0) (ns.getD i 0))
    (hv : its.toArray[argBest bt (its.toArray.size - 1)]? = some v) (q : ∀ m t, m ∈ ns → (∀ k ∈ ns, le m k) → v = .int m t → Q v s') : Q v s' := by
  have hl : its.length = ns.length := by have := rv.length; rw [List.length_map] at this; exact this.symm
  have hz : its.toArray.size = ns.length := by rw [List.size_toArray, hl]
  rw [hz] at hv
  have hpos : 0 < ns.length := List.length_pos_iff.mpr hne
  obtain ⟨a, b⟩ := best_le le ns rf tr h1 h0 (ns.length - 1)
  generalize argBest bt (ns.length - 1) = i at hv a b
  have hi : i < ns.length := by omega
  have hv2 : its[i]? = some v := by simpa using hv
  obtain ⟨u2, e2, r2⟩ := rv.get (i := i) (x := V.int ns[i]) (by rw [List.getElem?_map, List.getElem?_eq_getElem hi]; rfl)
  rw [hv2] at e2
  cases e2
  obtain ⟨t, e⟩ := r2
  refine q ns[i] t (List.getElem_mem hi) (fun k hk => ?_) e
  obtain ⟨j, hj, e3⟩ := List.getElem_of_mem hk
  have := b j (by omega)
  rw [getD_some (List.getElem?_eq_getElem hi), getD_some (List.getElem?_eq_getElem hj), e3] at this
  exact this
theorem cr_minK {f : Addr} (hc : X.calm = true) (KD : Mod X.K X.mg X.base → KeyD X.prog X.w X.base f) {k : Nat} (hr : Room k X.A) : CallRK X (.builtin "min") [Str.ofString "key"] (rKey X.K f (· ≤ ·)) := by
  intro pins s σ H xs zs us ws Q I r1 r2 h
  obtain ⟨a, ns, rfl, rfl, hs, hne, q⟩ := h
  obtain ⟨its, rv, hl, _⟩ := I.list hs
  rw [Vals.ref1 r1, Vals.ref1 r2]
  have hIL := hl.isList
  have hlen : its.toArray.size = ns.length := by have := rv.length; rw [List.length_map] at this; rw [List.size_toArray]; exact this.symm
  refine PySem.call_min_walkK (wpAny_pyIter_list hIL ?_)
  have ha : a < s.heap.objs.size := by obtain ⟨_, e, _⟩ := id hIL; exact Heap.lt_size e
  have hpos : 0 < ns.length := List.length_pos_iff.mpr hne
  generalize ho : ({ cls := .type "list_iterator", data := .fields #[.ref a, .int 0 0] } : Obj) = o
  have hit : (s.heap.push o).IsListIter s.heap.objs.size a 0 := by subst ho; exact ⟨_, Heap.get?_push_size _ rfl, rfl, rfl⟩
  have hsz : (s.heap.push o).objs.size = s.heap.objs.size + 1 := Heap.size_push ..
  refine ⟨s.heap.objs.size, [s.heap.objs.size, a], [s.heap.objs.size], _, its.toArray.size, _, _, Jt s, _, (fun i j => decide (ns.getD i 0 < ns.getD j 0)), rfl, (Walks.list (A := X.A.in1) (show X.A.in1.handled = none from I.ok.hd hc) s.heap.objs.size a (Nat.ne_of_lt ha) its.toArray).toS, ⟨hit, ?_⟩, ?_, by omega, key_run (a := a) (KD I.ok.mod) I.bk hr.depth rv (fun b o' e => ?_) (fun z b c n m t t2 t' t2' i j h1 h3 h2 h4 => ?_), ⟨_, s.toks, rfl, fun b o e => Heap.get?_push_of_some _ e⟩, fun v s' hv hJ => ?_⟩
  · obtain ⟨o1, g1, e1⟩ := id hIL
    exact ⟨o1, Heap.get?_push_of_some _ g1, e1⟩
  · intro b hb
    show b < (s.heap.push o).objs.size
    rw [hsz]
    rcases List.mem_cons.mp hb with z | z
    · rw [z]; exact Nat.lt_succ_self _
    · rw [List.mem_singleton.mp z]; exact Nat.lt_succ_of_lt ha
  · have hlt := Heap.lt_size e
    refine ⟨Nat.ne_of_lt hlt, ?_⟩
    show b ≠ (s.heap.push o).objs.size
    rw [hsz]
    exact Nat.ne_of_lt (Nat.lt_succ_of_lt hlt)
  · have e1 := getD_some h1
    have e2 := getD_some h3
    show Ob.RcOp .Lt X.A.in1 z (.ref b) (.ref c) (decide (ns.getD i 0 < ns.getD j 0))
    rw [e1, e2]
    exact cmp_lt h2 h4 (by have := hr.un; show X.A.units + 1 < _; omega)
  · obtain ⟨h', tk, rfl, k⟩ := hJ
    refine key_end (le := (· ≤ ·)) (Q := EP X pins σ Q) rv hne (fun _ => Int.le_refl _) (fun _ _ _ => Int.le_trans) (fun i j e => Int.le_of_lt (of_decide_eq_true e)) (fun i j e => by have := of_decide_eq_false e; omega) hv fun m t hm hk e => ?_
    subst e
    exact ⟨.int m, H, I.kept k, ⟨_, rfl⟩, q m hm hk⟩
theorem cr_maxK {f : Addr} (hc : X.calm = true) (KD : Mod X.K X.mg X.base → KeyD X.prog X.w X.base f) {k : Nat} (hr : Room k X.A) : CallRK X (.builtin "max") [Str.ofString "key"] (rKey X.K f (· ≥ ·)) := by
  intro pins s σ H xs zs us ws Q I r1 r2 h
  obtain ⟨a, ns, rfl, rfl, hs, hne, q⟩ := h
  obtain ⟨its, rv, hl, _⟩ := I.list hs
  rw [Vals.ref1 r1, Vals.ref1 r2]
  have hIL := hl.isList
  have hlen : its.toArray.size = ns.length := by have := rv.length; rw [List.length_map] at this; rw [List.size_toArray]; exact this.symm
  refine PySem.call_max_walkK (wpAny_pyIter_list hIL ?_)
  have ha : a < s.heap.objs.size := by obtain ⟨_, e, _⟩ := id hIL; exact Heap.lt_size e
  have hpos : 0 < ns.length := List.length_pos_iff.mpr hne
  generalize ho : ({ cls := .type "list_iterator", data := .fields #[.ref a, .int 0 0] } : Obj) = o
  have hit : (s.heap.push o).IsListIter s.heap.objs.size a 0 := by subst ho; exact ⟨_, Heap.get?_push_size _ rfl, rfl, rfl⟩
  have hsz : (s.heap.push o).objs.size = s.heap.objs.size + 1 := Heap.size_push ..
  refine ⟨s.heap.objs.size, [s.heap.objs.size, a], [s.heap.objs.size], _, its.toArray.size, _, _, Jt s, _, (fun i j => decide (ns.getD j 0 < ns.getD i 0)), rfl, (Walks.list (A := X.A.in1) (show X.A.in1.handled = none from I.ok.hd hc) s.heap.objs.size a (Nat.ne_of_lt ha) its.toArray).toS, ⟨hit, ?_⟩, ?_, by omega, key_run (a := a) (KD I.ok.mod) I.bk hr.depth rv (fun b o' e => ?_) (fun z b c n m t t2 t' t2' i j h1 h3 h2 h4 => ?_), ⟨_, s.toks, rfl, fun b o e => Heap.get?_push_of_some _ e⟩, fun v s' hv hJ => ?_⟩
  · obtain ⟨o1, g1, e1⟩ := id hIL
    exact ⟨o1, Heap.get?_push_of_some _ g1, e1⟩
  · intro b hb
    show b < (s.heap.push o).objs.size
    rw [hsz]
    rcases List.mem_cons.mp hb with z | z
    · rw [z]; exact Nat.lt_succ_self _
    · rw [List.mem_singleton.mp z]; exact Nat.lt_succ_of_lt ha
  · have hlt := Heap.lt_size e
    refine ⟨Nat.ne_of_lt hlt, ?_⟩
    show b ≠ (s.heap.push o).objs.size
    rw [hsz]
    exact Nat.ne_of_lt (Nat.lt_succ_of_lt hlt)
  · have e1 := getD_some h1
    have e2 := getD_some h3
    show Ob.RcOp .Gt X.A.in1 z (.ref b) (.ref c) (decide (ns.getD j 0 < ns.getD i 0))
    rw [e1, e2]
    exact cmp_gt h2 h4 (by have := hr.un; show X.A.units + 1 < _; omega)
  · obtain ⟨h', tk, rfl, k⟩ := hJ
    refine key_end (le := (· ≥ ·)) (Q := EP X pins σ Q) rv hne (fun _ => Int.le_refl _) (fun a b c h1 h2 => Int.le_trans h2 h1) (fun i j e => Int.le_of_lt (of_decide_eq_true e)) (fun i j e => by have := of_decide_eq_false e; show ns.getD j 0 ≥ ns.getD i 0; omega) hv fun m t hm hk e => ?_
    subst e
    exact ⟨.int m, H, I.kept k, ⟨_, rfl⟩, q m hm hk⟩
/-- // of any sign, below 2^100 -/
def CDivZ (i j : Int) : Prop := j ≠ 0 ∧ j.natAbs < 2 ^ 100
theorem op_fdivZ : OpR X (binaryOp .FloorDiv) (rI CDivZ fun i j => .int (i.fdiv j)) := opI fun i j _ _ _ _ _ hc q =>
  floordiv_int hc.1 q (.inl (PyProof.noPylong_of_log2 (Nat.lt_of_lt_of_le (PySem.Flt.log2_lt_of (by decide) hc.2) (by decide))))
end
end MnK
end

section
-- part F04
set_option Elab.async false
set_option linter.all false
set_option maxRecDepth 100000
set_option maxHeartbeats 800000
/-! F04: readings for k04 -/
namespace K04
open PySem PySem.Spec PyProof.Rows L2 Fw M5 M24 Gk
/-- values as the machine has them -/
abbrev vV : RV → V := GnK.kW
abbrev kindS : RV → Str := GnK.kindW
def oV : Option Bool → V
  | none => .non
  | some b => .bl b
section
variable {K : PySem.W.Frag} {w : World} {H : Hp} {Q : VK} {σ : L2.St}
theorem w_ixA {a : Addr} {xs : List V} {i : Int} {v : V} (h : H a = some (.tup xs)) (e : atI xs i = some v) (q : Q v H) : rIxT K (.ref a) (.int i) H Q := ⟨a, xs, i, v, rfl, rfl, SqT.of h, e, q⟩
theorem w_eqLF {a b : String} (h : Str.ofString a ≠ Str.ofString b) (q : Q (.bl false) H) : rEq (.str (Str.ofString a)) (.str (Str.ofString b)) H Q := ⟨rfl, by
  rw [decide_eq_false (fun z => h (V.str.inj z))]; exact q⟩
theorem w_eqLT {a b : String} (h : a = b) (q : Q (.bl true) H) : rEq (.str (Str.ofString a)) (.str (Str.ofString b)) H Q := ⟨rfl, by
  rw [decide_eq_true (by rw [h])]; exact q⟩
theorem w_neLF {a b : String} (h : Str.ofString a ≠ Str.ofString b) (q : Q (.bl true) H) : rNe (.str (Str.ofString a)) (.str (Str.ofString b)) H Q := ⟨rfl, by
  rw [decide_eq_false (fun z => h (V.str.inj z))]; exact q⟩
theorem w_neLT {a b : String} (h : a = b) (q : Q (.bl false) H) : rNe (.str (Str.ofString a)) (.str (Str.ofString b)) H Q := ⟨rfl, by
  rw [decide_eq_true (by rw [h])]; exact q⟩
theorem w_neX {x : V} (hs : scal x x = true) (q : Q (.bl false) H) : rNe x x H Q := ⟨hs, by rw [decide_eq_true rfl]; exact q⟩
theorem w_eqX {x : V} (hs : scal x x = true) (q : Q (.bl true) H) : rEq x x H Q := ⟨hs, by rw [decide_eq_true rfl]; exact q⟩
theorem w_eqSt {a b : Str} (q : Q (.bl (decide (a = b))) H) : rEq (.str a) (.str b) H Q := ⟨rfl, by
  rw [show decide (V.str a = V.str b) = decide (a = b) from decide_eq_decide.mpr ⟨V.str.inj, fun h => h ▸ rfl⟩]; exact q⟩
theorem w_neSt {a b : Str} (q : Q (.bl (!decide (a = b))) H) : rNe (.str a) (.str b) H Q := ⟨rfl, by
  rw [show decide (V.str a = V.str b) = decide (a = b) from decide_eq_decide.mpr ⟨V.str.inj, fun h => h ▸ rfl⟩]; exact q⟩
theorem w_kdNot {d : Addr} {z : Str} {u : Value} (e : PySem.W.nsIn K d z = some (some u)) (q : Q (.bl false) H) : ∃ (z' : Str) (r : Option Value), V.str z = .str z' ∧ V.ref d = .ref d ∧ PySem.W.nsIn K d z' = some r ∧ Q (.bl (!r.isSome)) H := ⟨z, _, rfl, rfl, e, q⟩
theorem w_kdIx {d : Addr} {es : Array DictEntry} {n : Nat} {z : Str} {u : Value} {v : V} (D : KDict K w d es n) (e : PySem.W.nsIn K d z = some (some u)) (r : RelV v u) (q : Q v H) : rIxD K w (.ref d) (.str z) H Q := ⟨d, z, v, rfl, rfl, ⟨es, n, u, D.at_, D.lit, e, r⟩, q⟩
theorem w_isNV {v : RV} (q : Q (.bl (decide (v = .non))) H) : rIsN (vV v) V.non H Q := Dq.w_isNb (by cases v <;> simp [GnK.kW]) q
theorem w_notNV {v : RV} (q : Q (.bl (!decide (v = .non))) H) : rNotN (vV v) V.non H Q := Dq.w_notNb (by cases v <;> simp [GnK.kW]) q
theorem vV_inj {u v : RV} : (vV u = vV v) ↔ u = v := by
  constructor
  · intro h
    cases u <;> cases v <;> simp [GnK.kW] at h ⊢
    · exact h
    · exact h
  · rintro rfl; rfl
theorem w_eqVV {u v : RV} (q : Q (.bl (decide (u = v))) H) : rEq (vV u) (vV v) H Q := ⟨by cases u <;> cases v <;> rfl, by
  rw [show decide (vV u = vV v) = decide (u = v) from decide_eq_decide.mpr vV_inj]; exact q⟩
theorem w_neVV {u v : RV} (q : Q (.bl (!decide (u = v))) H) : rNe (vV u) (vV v) H Q := ⟨by cases u <;> cases v <;> rfl, by
  rw [show decide (vV u = vV v) = decide (u = v) from decide_eq_decide.mpr vV_inj]; exact q⟩
theorem or_lt {u v : RV} (hu : u ≠ .non) (hv : v ≠ .non) (hf : isT u = isT v) (q : Q (.bl (vlt u v)) H) : rI0 (fun i j => V.bl (decide (i < j))) (vV u) (vV v) H Q ∨ ∃ i j, vV u = .str i ∧ vV v = .str j ∧ Q (.bl (decide (i.cps.toList < j.cps.toList))) H := by
  cases u <;> cases v <;> first
    | exact absurd rfl hu
    | exact absurd rfl hv
    | (cases hf; done)
    | exact .inl ⟨_, _, rfl, rfl, q⟩
    | exact .inr ⟨_, _, rfl, rfl, q⟩
theorem or_gt {u v : RV} (hu : u ≠ .non) (hv : v ≠ .non) (hf : isT u = isT v) (q : Q (.bl (vlt v u)) H) : rI0 (fun i j => V.bl (decide (j < i))) (vV u) (vV v) H Q ∨ ∃ i j, vV u = .str i ∧ vV v = .str j ∧ Q (.bl (decide (j.cps.toList < i.cps.toList))) H := by
  cases u <;> cases v <;> first
    | exact absurd rfl hu
    | exact absurd rfl hv
    | (cases hf; done)
    | exact .inl ⟨_, _, rfl, rfl, q⟩
    | exact .inr ⟨_, _, rfl, rfl, q⟩
theorem not_lt_dec (n m : Int) : (!decide (m < n)) = decide (n ≤ m) := by
  by_cases c : m < n
  · rw [decide_eq_true c, decide_eq_false (by omega)]; rfl
  · rw [decide_eq_false c, decide_eq_true (by omega)]; rfl
theorem or_le {u v : RV} (hu : u ≠ .non) (hv : v ≠ .non) (hf : isT u = isT v) (q : Q (.bl (!vlt v u)) H) : rI0 (fun i j => V.bl (decide (i ≤ j))) (vV u) (vV v) H Q ∨ ∃ i j, vV u = .str i ∧ vV v = .str j ∧ Q (.bl (!decide (j.cps.toList < i.cps.toList))) H := by
  cases u <;> cases v <;> first
    | exact absurd rfl hu
    | exact absurd rfl hv
    | (cases hf; done)
    | exact .inl ⟨_, _, rfl, rfl, by show Q (.bl (decide (_ ≤ _))) H; rw [← not_lt_dec]; exact q⟩
    | exact .inr ⟨_, _, rfl, rfl, q⟩
theorem or_ge {u v : RV} (hu : u ≠ .non) (hv : v ≠ .non) (hf : isT u = isT v) (q : Q (.bl (!vlt u v)) H) : rI0 (fun i j => V.bl (decide (j ≤ i))) (vV u) (vV v) H Q ∨ ∃ i j, vV u = .str i ∧ vV v = .str j ∧ Q (.bl (!decide (i.cps.toList < j.cps.toList))) H := by
  cases u <;> cases v <;> first
    | exact absurd rfl hu
    | exact absurd rfl hv
    | (cases hf; done)
    | exact .inl ⟨_, _, rfl, rfl, by show Q (.bl (decide (_ ≤ _))) H; rw [← not_lt_dec]; exact q⟩
    | exact .inr ⟨_, _, rfl, rfl, q⟩
theorem w_divZ {i j : Int} (c : MnK.CDivZ i j) (q : Q (.int (i.fdiv j)) H) : rI MnK.CDivZ (fun i j => V.int (i.fdiv j)) (.int i) (.int j) H Q := ⟨i, j, rfl, rfl, c, q⟩
theorem w_modZ {i j : Int} (c : j ≠ 0) (q : Q (.int (i.fmod j)) H) : rI (fun _ j => j ≠ 0) (fun i j => V.int (i.fmod j)) (.int i) (.int j) H Q := ⟨i, j, rfl, rfl, c, q⟩
theorem w_ckw {r : List V → List V → Hp → VK → Prop} {t tk : TA} (h : t σ H fun vs H1 => tk σ H1 fun zs H2 => r vs zs H2 Q) : L2.tCKw r t tk σ H Q := h
end
/-! ### values that fit -/
def Fit (u v : RV) : Prop := u = .non ∨ v = .non ∨ isT u = isT v
instance (u v : RV) : Decidable (Fit u v) := inferInstanceAs (Decidable (_ ∨ _ ∨ _))
theorem kind_eq {u v : RV} (hu : u ≠ .non) (hv : v ≠ .non) : (kindS u = kindS v) ↔ isT u = isT v := by
  have h1 : Str.ofString "text" ≠ Str.ofString "int" := by decide +kernel
  cases u <;> cases v <;> first
    | exact absurd rfl hu
    | exact absurd rfl hv
    | exact ⟨fun _ => rfl, fun _ => rfl⟩
    | exact ⟨fun h => absurd h h1, fun h => by cases h⟩
    | exact ⟨fun h => absurd h.symm h1, fun h => by cases h⟩
/-- numbers -/
def HI : Int := 9223372036854775807
def inR (n : Int) : V := if -HI ≤ n ∧ n ≤ HI then .int n else .non
inductive Ar where
  | add | sub | mul | div | mod
deriving DecidableEq
def arS : Ar → Str
  | .add => Str.ofString "+" | .sub => Str.ofString "-" | .mul => Str.ofString "*" | .div => Str.ofString "/" | .mod => Str.ofString "mod"
def arI (g : Ar) (n m : Int) : V := match g with
  | .add => inR (n + m)
  | .sub => inR (n - m)
  | .mul => inR (n * m)
  | .div => if m = 0 then .non else inR (n.fdiv m)
  | .mod => if m = 0 then .non else .int (n.fmod m)
def arV (g : Ar) (u v : RV) : V := match u, v with
  | .num n, .num m => arI g n m
  | _, _ => .non
def isI : RV → Bool
  | .num _ => true
  | _ => false
def okN : RV → Prop
  | .num n => -HI ≤ n ∧ n ≤ HI
  | _ => True
theorem fmod_in {n m : Int} (hm : -HI ≤ m ∧ m ≤ HI) (h : m ≠ 0) : -HI ≤ n.fmod m ∧ n.fmod m ≤ HI := by
  unfold HI at *
  rcases Int.lt_or_gt_of_ne h with c | c
  · have h1 : Int.fmod n m = n % m + if 0 ≤ m ∨ m ∣ n then 0 else m := Int.fmod_eq_emod
    have a1 := Int.emod_nonneg n h
    have a2 := Int.emod_lt n h
    split at h1 <;> omega
  · rw [Int.fmod_eq_emod_of_nonneg n (by omega)]
    have a1 := Int.emod_nonneg n h
    have a2 := Int.emod_lt_of_pos n c
    omega
theorem fmod_eq (n m : Int) : n - n.fdiv m * m = n.fmod m := by
  rw [Int.fmod_def, Int.mul_comm]
/-- what "both" says -/
def and3 : Option Bool → Option Bool → Option Bool := M24.and3
def or3 (x y : Option Bool) : Option Bool := match x, y with
  | some true, _ => some true
  | _, some true => some true
  | some false, some false => some false
  | _, _ => none
def not3 : Option Bool → Option Bool := Option.map (!·)
def rkV : RV → List V
  | .non => [.int 0, .int 0]
  | .txt l => [.int 2, .str (S l)]
  | .num n => [.int 1, .int n]
end K04
end

section
-- part K04A
set_option Elab.async false
set_option linter.all false
set_option maxRecDepth 100000
set_option maxHeartbeats 800000
open PySem PySem.Spec PyProof.Rows L2 Fw
local macro_rules | `(tactic| walk_at "e1") => `(tactic| first
  | ((with_reducible refine' w_var ?hv ?_); (case hv => rfl))
  | ((with_reducible refine' K04.w_ixA ?hh ?ha ?_); (case hh => first | assumption | exact upd_same); (case ha => rfl))
  | ((with_reducible refine' K04.w_eqLF ?hl ?_); (case hl => decide +kernel))
  | ((with_reducible refine' K04.w_eqLT ?hl ?_); (case hl => rfl))
  | ((with_reducible refine' K04.w_neLF ?hl ?_); (case hl => decide +kernel))
  | ((with_reducible refine' K04.w_neLT ?hl ?_); (case hl => rfl))
  | with_reducible refine K04.w_isNV ?_
  | with_reducible refine K04.w_notNV ?_
  | ((with_reducible refine' K04.w_modZ ?hc ?_); (case hc => assumption))
  | ((with_reducible refine' K04.w_divZ ?hc ?_); (case hc => assumption))
  | with_reducible refine K04.w_ckw ?_
  | with_reducible refine GnK.w_anyK ?_
  | with_reducible refine Fw.w_notV ?_
  | with_reducible refine F24.w_iZipM ?_
  | with_reducible refine F24.w_iZipA ?_
  | with_reducible refine Fge.w_cld ?_
  | with_reducible refine w_c ?_
  | with_reducible refine w_op ?_
  | with_reducible refine w_un ?_
  | with_reducible refine w_cons ?_
  | with_reducible refine w_nil ?_
  | with_reducible refine w_cl ?_
  | with_reducible refine w_cb ?_
  | with_reducible refine w_gname ?_
  | with_reducible refine w_gsub ?_
  | with_reducible refine w_test ?_
  | with_reducible refine w_B ?_
  | with_reducible refine w_bl ?_
  | with_reducible refine w_and ?_
  | with_reducible refine w_or ?_
  | with_reducible refine w_not ?_
  | with_reducible refine w_if ?_
  | with_reducible refine w_I0 ?_
  | with_reducible refine Gk.w_rU ?_
  | with_reducible refine Dq.w_orV ?_
  | with_reducible refine Dq.w_js ?_
  | with_reducible refine Dq.w_js0 ?_
  | with_reducible refine Dq.w_fm ?_
  | with_reducible refine Dq.w_andV ?_
  | with_reducible refine Gk.w_iEnum ?_
  | with_reducible refine Dq.w_dget ?_
  | with_reducible refine Dq.w_dpop1 ?_
  | with_reducible refine Dq.w_ddel ?_
  | with_reducible refine Dq.w_din ?_
  | with_reducible refine Dq.w_dnotin ?_
  | with_reducible refine Dq.w_dget2 ?_
  | with_reducible refine Dq.w_dnew ?_
  | with_reducible refine Dq.w_fldaug ?_
  | with_reducible refine Dq.w_aSub ?_
  | with_reducible refine Dq.w_aAdd ?_
  | with_reducible refine Dq.w_mkd ?_
  | with_reducible refine Dq.w_notN0 ?_
  | with_reducible refine Dq.w_isN0 ?_
  | with_reducible refine Ftw.w_isTI ?_
  | with_reducible refine Ftw.w_isTS ?_
  | with_reducible refine Ftw.w_isTR ?_
  | with_reducible refine Ftw.w_isTN ?_
  | with_reducible refine Ftw.w_isTtt ?_
  | with_reducible refine Ftw.w_isTft ?_
  | with_reducible refine Ftw.w_isTtf ?_
  | with_reducible refine Ftw.w_isNS ?_
  | with_reducible refine Ftw.w_isNB ?_
  | ((with_reducible refine' Ftw.w_isiRS ?hq ?_); (case hq => assumption))
  | ((with_reducible refine' Ftw.w_isiRT ?hq ?_); (case hq => assumption))
  | ((with_reducible refine' Ftw.w_isiRI ?hq ?_); (case hq => assumption))
  | with_reducible refine Ftw.w_isiIT ?_
  | with_reducible refine Ftw.w_isiII ?_
  | with_reducible refine Dq.w_notNR ?_
  | with_reducible refine Dq.w_isNR ?_
  | with_reducible refine Dq.w_notNI ?_
  | with_reducible refine Dq.w_isNI ?_
  | with_reducible refine L2.w_neOs ?_
  | with_reducible refine w_ipI ?_
  | with_reducible refine w_eqS ?_
  | with_reducible refine w_neS ?_
  | with_reducible refine w_eqI ?_
  | with_reducible refine w_neI ?_
  | with_reducible refine w_eqB ?_
  | with_reducible refine w_neB ?_
  | ((with_reducible refine w_eq ?hs ?_); (case hs => rfl))
  | ((with_reducible refine w_ne ?hs ?_); (case hs => rfl))
  | with_reducible refine w_fld ?_
  | with_reducible refine w_bm ?_
  | with_reducible refine w_bm0 ?_
  | with_reducible refine w_sl ?_
  | with_reducible refine w_part ?_
  | with_reducible refine w_partI ?_
  | with_reducible refine w_nopart ?_
  | ((with_reducible refine' w_ixL ?hh ?ha ?_); (case hh => first | assumption | exact upd_same); (case ha => rfl))
  | ((with_reducible refine' w_setLu ?ha ?_); (case ha => rfl))
  | ((with_reducible refine' w_setL ?hh ?ha ?_); (case hh => first | assumption | exact upd_same); (case ha => rfl))
  | with_reducible refine w_iteT ?_
  | with_reducible refine w_iteF ?_
  | with_reducible refine w_lst ?_
  | with_reducible refine w_tup ?_
  | ((with_reducible refine w_new ?hz ?_); (case hz => rfl))
  | with_reducible refine w_lc ?_
  | with_reducible refine w_iL ?_
  | with_reducible refine w_iT ?_
  | with_reducible refine w_iR1 ?_
  | with_reducible refine w_iR2 ?_
  | with_reducible refine w_yes ?_
  | with_reducible refine w_iStr ?_
  | with_reducible exact tyS
  | with_reducible refine And.intro tyS ?_
  | ((with_reducible refine w_find3 ?_); (first | rw [find3_one] | rw [starts3] | skip))
  | ((with_reducible refine w_2s ?_); (try rw [find_one]))
  | ((with_reducible refine w_inS ?_); rw [S_list])
  | ((with_reducible refine w_lenS ?hz ?_); (case hz => first | assumption | omega | decide); rw [SX.S_len])
  | ((with_reducible refine w_addS ?hz ?_); (case hz => first | assumption | omega | decide); rw [vS_cat])
  | with_reducible refine w_mk ?_
  | with_reducible refine w_me ?_
  | with_reducible refine w_sfld ?_
  | ((with_reducible refine' w_gtup ?hh ?hn ?_); (case hh => first | assumption | exact upd_same); (case hn => rfl))
  | with_reducible refine w_gcons ?_
  | with_reducible refine w_gnil ?_
  | with_reducible refine w_repl ?_
  | with_reducible refine w_star ?_
  | with_reducible refine w_revL ?_
  | with_reducible refine w_isiS ?_
  | with_reducible refine w_isiI ?_
  | with_reducible refine w_isiN ?_
  | with_reducible refine w_chain ?_
  | with_reducible refine w_iEnumT ?_
  | with_reducible refine w_iZip3 ?_
  | with_reducible refine w_iZip ?_
  | with_reducible refine w_lenR3 ?_
  | with_reducible refine w_x1i ?_
  | with_reducible refine w_x1b ?_
  | with_reducible refine w_x1s ?_
  | with_reducible refine w_int1i ?_
  | with_reducible refine w_int1b ?_
  | ((with_reducible refine w_mod ?hc ?_); (case hc => omega))
  | ((with_reducible refine w_fdivW ?hc ?hd ?_); (case hc => omega); (case hd => omega))
  | ((with_reducible refine w_mul ?hc ?_); (case hc => first | exact Or.inr ⟨by decide, by decide⟩ | exact Or.inl ⟨by decide, by decide⟩))
  | ((with_reducible refine w_pow ?hc ?_); (case hc => exact ⟨by decide, by decide, by decide⟩)))
local macro_rules | `(tactic| walk_at "f1") => `(tactic| first
  | walk_at "e1")
local macro_rules | `(tactic| walk_at "s1") => `(tactic| first
  | with_reducible refine w_seq ?_
  | with_reducible refine w_asg ?_
  | with_reducible refine w_ret ?_
  | with_reducible refine w_par ?_
  | with_reducible refine w_drop ?_
  | with_reducible refine w_next ?_
  | with_reducible refine w_ifs ?_
  | ((with_reducible refine' w_aug ?hv ?_); (case hv => rfl))
  | with_reducible refine w_for ?_
  | walk_at "f1")
local macro_rules | `(tactic| walk_at "e") => `(tactic| repeat walk_at "e1")
local macro_rules | `(tactic| walk_at "g") => `(tactic| repeat walk_at "s1")
local macro_rules | `(tactic| walk_at "n1") => `(tactic| ((fail_if_success (with_reducible refine w_if ?_)); walk_at "s1"))
local macro_rules | `(tactic| walk_at "n") => `(tactic| repeat walk_at "n1")
local macro_rules | `(tactic| walk_at "p1") => `(tactic| ((fail_if_success (with_reducible refine w_ifs ?_)); walk_at "s1"))
local macro_rules | `(tactic| walk_at "p") => `(tactic| repeat walk_at "p1")
local macro_rules | `(tactic| walk_at "q1") => `(tactic| ((fail_if_success (with_reducible refine w_seq ?_)); walk_at "s1"))
local macro_rules | `(tactic| walk_at "q") => `(tactic| repeat walk_at "q1")

namespace K04
open Dc Gk
-- _law_dice: 0:cell
theorem sc__law_dice : FnScope ["cell"] ["cell"] (defScope s__law_dice) := ⟨rfl, rfl, rfl, by decide +kernel, rfl, by decide +kernel, by decide +kernel⟩
-- _law_roll: 0:dice 1:many 2:found
theorem sc__law_roll : FnScope ["dice", "many", "found"] ["dice", "many"] (defScope s__law_roll) := ⟨rfl, rfl, rfl, by decide +kernel, rfl, by decide +kernel, by decide +kernel⟩
-- _law_rounds: 0:script 1:most 2:cells 3:cell
theorem sc__law_rounds : FnScope ["script", "most", "cells", "cell"] ["script", "most"] (defScope s__law_rounds) := ⟨rfl, rfl, rfl, by decide +kernel, rfl, by decide +kernel, by decide +kernel⟩
structure Wl (K : PySem.W.Frag) (mg : Str → Option Value) : Prop where
  n_abs : mg "abs" = none
  n_int : mg "int" = none
  n_str : mg "str" = none
  n_len : mg "len" = none
  n_range : mg "range" = none
  d__law_dice : FnP K mg "_law_dice" s__law_dice
  d__law_roll : FnP K mg "_law_roll" s__law_roll
  d__law_rounds : FnP K mg "_law_rounds" s__law_rounds
section
variable {P : Program} {w : World} {K : PySem.W.Frag} {mg : Str → Option Value} {base : Heap}
theorem ok__law_dice (W : Wl K mg) : Cl P w K mg base 1 "_law_dice" spDice := by
  refine cl_mk W.d__law_dice sc__law_dice (fun _ _ _ _ _ _ us hl => match us, hl with | [_], _ => rfl) (fun vs H Q E h => ?_) (fun f cdv A outer s H vs Q E hr h => ?_)
  · obtain ⟨c, rfl, _⟩ := h; rfl
  obtain ⟨c, rfl, q⟩ := h
  refine ⟨_, (pss_cons (ps_if (pt_chain op_lt op_lt (pe_op op_sub pe_int pe_int) (pv 0) pe_int)
    (pss_one (ps_ret (pe_lst (pa_cons (pe_callB call_abs rfl W.n_abs (by decide +kernel) (pa_cons (pv 0) pa_nil)) (pa_cons pe_int (pa_cons pe_int pa_nil))))))
    pss_nil)
    (pss_one (ps_ret (pe_lst (pa_cons (pv 0) (pa_cons (pe_op op_add pe_int (pe_op op_mod (pe_callTy call_int1 rfl W.n_int (by decide +kernel) (pa_cons (pv 0) pa_nil)) pe_int)) (pa_cons (pe_callTy call_int1 rfl W.n_int (by decide +kernel) (pa_cons (pe_cmpR op_ge (pv 0) (pe_op op_pow pe_int pe_int) (nomark _)) pa_nil)) pa_nil))))))), ?_⟩
  walk_at "g"
  refine w_iteD (fun c1 => ?_) (fun c1 => ?_)
  · walk_at "g"
    refine w_iteD (fun c2 => ?_) (fun c2 => ?_)
    · walk_at "g"
      exact fun p hp => q p _ _ _ hp
    · walk_at "g"
      exact fun p hp => q p _ _ _ hp
  · walk_at "g"
    exact fun p hp => q p _ _ _ hp
theorem ok__law_roll (W : Wl K mg) : Cl P w K mg base 1 "_law_roll" spRoll := by
  refine cl_mk W.d__law_roll sc__law_roll (fun _ _ _ _ _ _ us hl => match us, hl with | [_, _], _ => rfl) (fun vs H Q E h => ?_) (fun f cdv A outer s H vs Q E hr h => ?_)
  · obtain ⟨d, m, a, b, c, rfl, _⟩ := h; rfl
  obtain ⟨d, m, a, b, c, rfl, hd, h0, h1, q⟩ := h
  refine ⟨_, (pss_cons (ps_if (PW.pt (pw_or (pt_cmpR op_eq (pe_ix ix_list (pv 0) pe_int (fun _ _ => rfl)) pe_int (nomark _)) (pw_or1 (PW.pt (pw_and (pt_cmpR op_eq (pe_ix ix_list (pv 0) pe_int (fun _ _ => rfl)) pe_int (nomark _)) (pw_and1 (pt_cmpR op_gt (pe_ix ix_list (pv 0) pe_int (fun _ _ => rfl)) pe_int (nomark _))))))))
    (pss_cons (ps_set (i := 2) sc__law_roll.nd rfl (Or.inl rfl) (pe_op op_mod (pe_callTy call_int1 rfl W.n_int (by decide +kernel) (pa_cons (pe_ix ix_list (pv 0) pe_int (fun _ _ => rfl)) pa_nil)) (pv 1)))
    (pss_cons (ps_asg (pe_op op_fdivW (pe_ix ix_list (pv 0) pe_int (fun _ _ => rfl)) (pv 1)) (pg_sub (pv 0) pe_int set_list))
    (pss_one (ps_ret (pv 2)))))
    pss_nil)
    (pss_cons (ps_asg pe_int (pg_sub (pv 0) pe_int set_list))
    (pss_cons (ps_asg (pe_op op_mod (pe_callTy call_int1 rfl W.n_int (by decide +kernel) (pa_cons (pe_op op_add (pe_op op_add (pe_op op_mul (pe_ix ix_list (pv 0) pe_int (fun _ _ => rfl)) pe_int) (pe_op op_mul (pe_ix ix_list (pv 0) pe_int (fun _ _ => rfl)) pe_int)) pe_int) pa_nil)) pe_int) (pg_sub (pv 0) pe_int set_list))
    (pss_cons (ps_asg (pe_op op_add (pe_ix ix_list (pv 0) pe_int (fun _ _ => rfl)) pe_int) (pg_sub (pv 0) pe_int set_list))
    (pss_one (ps_ret (pe_op op_mod (pe_callTy call_int1 rfl W.n_int (by decide +kernel) (pa_cons (pe_op op_fdivW (pe_ix ix_list (pv 0) pe_int (fun _ _ => rfl)) pe_int) pa_nil)) (pv 1)))))))), ?_⟩
  have fin : ∀ z a' b' c' : Int, Q (.int (z % m)) (upd H d (.lst [.int a', .int b', .int c'])) := fun z a' b' c' => q _ a' b' c' (mod_b h0).1 (mod_b h0).2
  walk_at "g"
  refine w_iteD (fun c1 => ?_) (fun c1 => ?_)
  · walk_at "g"
    exact fin _ _ _ _
  · walk_at "g"
    refine w_iteD (fun c2 => ?_) (fun c2 => ?_)
    · walk_at "g"
      refine w_iteD (fun c3 => ?_) (fun c3 => ?_)
      · walk_at "g"
        exact fin _ _ _ _
      · walk_at "g"
        exact fin _ _ _ _
    · walk_at "g"
      exact fin _ _ _ _
theorem ok__law_rounds (W : Wl K mg) (c__law_dice : Cl P w K mg base 1 "_law_dice" spDice) : Cl P w K mg base 2 "_law_rounds" (spRounds K) := by
  refine cl_mk W.d__law_rounds sc__law_rounds (fun _ _ _ _ _ _ us hl => match us, hl with | [_, _], _ => rfl) (fun vs H Q E h => ?_) (fun f cdv A outer s H vs Q E hr h => ?_)
  · obtain ⟨a, ns, m, rfl, _⟩ := h; rfl
  obtain ⟨a, ns, m, rfl, hS, h63, q⟩ := h
  refine ⟨_, (pss_cons (ps_set (i := 2) sc__law_rounds.nd rfl (Or.inl rfl) (pe_slice sl_list (pv 0) po_none (po_some (pv 1))))
    (pss_cons (ps_if (pt_cmpR (op_eqD (hu64 hr)) (pv 2) (pe_lst pa_nil) (nomark _))
    (pss_one (ps_set (i := 2) sc__law_rounds.nd rfl (Or.inl rfl) (pe_lst (pa_cons pe_int pa_nil))))
    pss_nil)
    (pss_one (ps_ret (pe_lc (own := [("cell", 3)]) rfl sc__law_rounds.nd (pi_list (pv 2)) (blkOk_by (own := [("cell", 3)]) (N := ["script", "most", "cells", "cell"]) (sc := defScope s__law_rounds) (by decide +kernel)) (fun _ _ _ _ _ => (pg_name (i := 3) sc__law_rounds.nd rfl (by first | exact Or.inl rfl | exact Or.inr rfl))) (fun _ _ _ _ _ => pts_nil) (fun _ _ _ _ _ => (pe_cl c__law_dice hr (by decide) rfl passL (pa_cons (pv 3) pa_nil)))))))), ?_⟩
  walk_at "g"
  refine ⟨a, _, rfl, hS, fun p1 hp1 => ?_⟩
  obtain ⟨ms, em, hm⟩ := cut_ints ns none (some m)
  rw [em]
  have hz : ms.length ≤ 63 := Nat.le_trans hm h63
  have s1 : Same H (upd H p1 (.lst (ms.map V.int))) := same_new hp1 _
  -- the list is walked
  have rest : ∀ (H1 : Hp) (p : Addr) (zs : List Int), Same H H1 → H1 p = some (.lst (zs.map V.int)) → zs.length ≤ 63 → ∀ (c : Option V),
      tRet (tLc (iList K (tVar 2)) (gName 3) tYes (tCl spDice E0 (tCons (tVar 3) tNil)) (List.map (fun x => x.snd) [((Str.ofString "cell" : Str), 3)])) { nx := fun x H' => Q V.non H', rt := Q } [some (.ref a), some (.int m), some (.ref p), c] H1 := by
    intro H1 p zs e1 hp hzs c
    walk_at "g"
    refine w_lcL (SqL.of hp) (fun D hD => ⟨fun i H2 => ∃ ds : List Addr, ds.length = i ∧ Same H1 H2 ∧ H2 D = some (.lst (ds.map V.ref)) ∧ ∀ d ∈ ds, Dice H2 d ∧ H1 d = none ∧ d ≠ D,
      ⟨[], rfl, same_new hD _, upd_same, fun d hd => by cases hd⟩, fun i H2 _ ⟨ds, _, e, _⟩ => SqL.of (e _ _ hp), ?_, ?_⟩)
    · rintro i x H2 hi ⟨ds, el, e2, eD, hds⟩
      have hi2 : i < zs.length := by
        have := (List.getElem?_eq_some_iff.mp hi).1
        rwa [List.length_map] at this
      obtain ⟨z, rfl⟩ : ∃ z, x = V.int z := by
        rw [List.getElem?_map] at hi
        cases e : zs[i]? with
        | none => rw [e] at hi; cases hi
        | some z => rw [e] at hi; exact ⟨z, (Option.some.inj hi).symm⟩
      walk_at "g"
      refine ⟨rfl, ?_⟩
      walk_at "g"
      refine ⟨z, rfl, fun d a b e hd => ?_⟩
      have nd : D ≠ d := ne_of_none eD hd
      refine ⟨ds.map V.ref, by rw [upd_ne nd]; exact eD, by rw [List.length_map, el]; exact Nat.lt_of_lt_of_le (Nat.lt_of_lt_of_le hi2 hzs) (by decide), ds ++ [d], by rw [List.length_append, el]; rfl, fun b o hb => ?_, by rw [upd_same, List.map_append]; rfl, fun b hb => ?_⟩
      · rw [upd_ne (ne_of_none hb hD), upd_ne (ne_of_none (e2 _ _ hb) hd)]
        exact e2 _ _ hb
      · rcases List.mem_append.mp hb with hb | hb
        · obtain ⟨h1, h2, h3⟩ := hds b hb
          obtain ⟨a', b', c', h1⟩ := h1
          exact ⟨⟨a', b', c', by rw [upd_ne h3, upd_ne (ne_of_none h1 hd)]; exact h1⟩, h2, h3⟩
        · rcases List.mem_singleton.mp hb with rfl
          exact ⟨⟨_, _, _, by rw [upd_ne nd.symm, upd_same]⟩, e2.free hd, nd.symm⟩
    · rintro H2 ⟨ds, el, e2, eD, hds⟩
      rw [List.length_map] at el
      exact q D H2 ds (e1.trans e2) (e1.free hD) eD (fun d hd => ⟨(hds d hd).1, e1.free (hds d hd).2.1⟩) (by omega)
  walk_at "g"
  intro p2 hp2
  refine ⟨_, _, .lst (SqL.of (same_new hp2 _ _ _ upd_same)) (dp_ints ms), .lst (SqL.of upd_same) .nil, shaped_ints ms, rfl, ?_⟩
  rw [eqv_nil]
  walk_at "g"
  have s2 := s1.trans (same_new hp2 (.lst []))
  refine w_iteD (fun c1 => ?_) (fun c1 => ?_)
  · walk_at "g"
    intro p3 hp3
    exact rest _ p3 [0] (s2.trans (same_new hp3 _)) upd_same (by decide) none
  · exact rest _ p1 ms s2 (same_new hp2 _ _ _ upd_same) hz none
end
end K04
end

section
-- part L04B
set_option Elab.async false
set_option linter.all false
set_option maxRecDepth 100000
set_option maxHeartbeats 800000
open PySem PySem.Spec PyProof.Rows L2 Fw
local macro_rules | `(tactic| walk_at "e1") => `(tactic| first
  | ((with_reducible refine' w_var ?hv ?_); (case hv => rfl))
  | with_reducible refine w_c ?_
  | with_reducible refine w_op ?_
  | with_reducible refine w_un ?_
  | with_reducible refine w_cons ?_
  | with_reducible refine w_nil ?_
  | with_reducible refine w_cl ?_
  | with_reducible refine w_cb ?_
  | with_reducible refine w_gname ?_
  | with_reducible refine w_gsub ?_
  | with_reducible refine w_test ?_
  | with_reducible refine w_B ?_
  | with_reducible refine w_bl ?_
  | with_reducible refine w_and ?_
  | with_reducible refine w_or ?_
  | with_reducible refine w_not ?_
  | with_reducible refine w_if ?_
  | with_reducible refine w_I0 ?_
  | with_reducible refine w_ipI ?_
  | with_reducible refine w_eqS ?_
  | with_reducible refine w_neS ?_
  | with_reducible refine w_eqI ?_
  | ((with_reducible refine w_eq ?hs ?_); (case hs => rfl))
  | ((with_reducible refine w_ne ?hs ?_); (case hs => rfl))
  | with_reducible refine w_fld ?_
  | with_reducible refine w_bm ?_
  | with_reducible refine w_bm0 ?_
  | with_reducible refine w_sl ?_
  | with_reducible refine w_part ?_
  | with_reducible refine w_partI ?_
  | with_reducible refine w_nopart ?_
  | ((with_reducible refine' w_ixL ?hh ?ha ?_); (case hh => first | assumption | exact upd_same); (case ha => rfl))
  | ((with_reducible refine' w_setLu ?ha ?_); (case ha => rfl))
  | ((with_reducible refine' w_setL ?hh ?ha ?_); (case hh => first | assumption | exact upd_same); (case ha => rfl))
  | with_reducible refine w_iteT ?_
  | with_reducible refine w_iteF ?_
  | with_reducible refine w_lst ?_
  | with_reducible refine w_tup ?_
  | ((with_reducible refine w_new ?hz ?_); (case hz => rfl))
  | with_reducible refine w_lc ?_
  | with_reducible refine w_iL ?_
  | with_reducible refine w_iT ?_
  | with_reducible refine w_iR1 ?_
  | with_reducible refine w_iR2 ?_
  | with_reducible refine w_yes ?_
  | with_reducible refine w_iStr ?_
  | with_reducible exact tyS
  | with_reducible refine And.intro tyS ?_
  | ((with_reducible refine w_find3 ?_); (first | rw [find3_one] | rw [starts3] | skip))
  | ((with_reducible refine w_2s ?_); (try rw [find_one]))
  | ((with_reducible refine w_inS ?_); rw [S_list])
  | ((with_reducible refine w_lenS ?hz ?_); (case hz => first | assumption | omega | decide); rw [SX.S_len])
  | ((with_reducible refine w_addS ?hz ?_); (case hz => first | assumption | omega | decide); rw [vS_cat])
  | with_reducible refine w_mk ?_
  | with_reducible refine w_me ?_
  | with_reducible refine w_sfld ?_
  | ((with_reducible refine' w_gtup ?hh ?hn ?_); (case hh => first | assumption | exact upd_same); (case hn => rfl))
  | with_reducible refine w_gcons ?_
  | with_reducible refine w_gnil ?_
  | with_reducible refine w_repl ?_
  | with_reducible refine w_chain ?_
  | with_reducible refine w_x1i ?_
  | with_reducible refine w_x1b ?_
  | with_reducible refine w_x1s ?_
  | with_reducible refine w_int1i ?_
  | with_reducible refine w_int1b ?_
  | ((with_reducible refine w_mod ?hc ?_); (case hc => omega))
  | ((with_reducible refine w_fdivW ?hc ?hd ?_); (case hc => omega); (case hd => omega))
  | ((with_reducible refine w_mul ?hc ?_); (case hc => first | exact Or.inr ⟨by decide, by decide⟩ | exact Or.inl ⟨by decide, by decide⟩))
  | ((with_reducible refine w_pow ?hc ?_); (case hc => exact ⟨by decide, by decide, by decide⟩)))
local macro_rules | `(tactic| walk_at "s1") => `(tactic| first
  | with_reducible refine w_seq ?_
  | with_reducible refine w_asg ?_
  | with_reducible refine w_ret ?_
  | with_reducible refine w_drop ?_
  | with_reducible refine w_next ?_
  | with_reducible refine w_ifs ?_
  | ((with_reducible refine' w_aug ?hv ?_); (case hv => rfl))
  | with_reducible refine w_for ?_
  | walk_at "e1")
local macro_rules | `(tactic| walk_at "e") => `(tactic| repeat walk_at "e1")
local macro_rules | `(tactic| walk_at "g") => `(tactic| repeat walk_at "s1")

namespace K04
open Lx
-- sign_number: 0:sign 1:place
theorem sc_sign_number : FnScope ["sign", "place"] ["sign"] (defScope s_sign_number) := ⟨rfl, rfl, rfl, by decide +kernel, rfl, by decide +kernel, by decide +kernel⟩
-- check_text: 0:text 1:sign
theorem sc_check_text : FnScope ["text", "sign"] ["text"] (defScope s_check_text) := ⟨rfl, rfl, rfl, by decide +kernel, rfl, by decide +kernel, by decide +kernel⟩
-- run_end: 0:text 1:place 2:signs
theorem sc_run_end : FnScope ["text", "place", "signs"] ["text", "place", "signs"] (defScope s_run_end) := ⟨rfl, rfl, rfl, by decide +kernel, rfl, by decide +kernel, by decide +kernel⟩
-- gap_end: 0:text 1:place 2:end
theorem sc_gap_end : FnScope ["text", "place", "end"] ["text", "place"] (defScope s_gap_end) := ⟨rfl, rfl, rfl, by decide +kernel, rfl, by decide +kernel, by decide +kernel⟩
/-- a text of the top -/
def Ct (mg : Str → Option Value) (x : Str) (l : List Nat) : Prop := ∃ u, mg x = some u ∧ RelV (.str (S l)) u
/-- what is known of an own error's class -/
structure Ex (K : PySem.W.Frag) (mg : Str → Option Value) (x : Str) (C : Addr) : Prop where
  ox : PySem.W.excIn K C [.type "ValueError", .type "Exception", .type "BaseException", .type "object"] "ValueError.__new__" = true
  og : mg x = some (.ref C)
  ok : PySem.W.keepIn K (.ref C) = true
  ob : PySem.W.subIn K (.ref C) (.type "BaseException") = some true
  ot : PySem.W.typeIn K (.ref C) = some (.type "type")
structure Wx (K : PySem.W.Frag) (mg : Str → Option Value) (cTE : Addr) : Prop extends Wl K mg where
  e_TextError : Ex K mg "TextError" cTE
  c_ALPHABET : Ct mg "ALPHABET" alphabet
  c_GAPS : Ct mg "GAPS" [32, 10]
  c_COMMENT : Ct mg "COMMENT" [45, 45]
  d_sign_number : FnP K mg "sign_number" s_sign_number
  d_check_text : FnP K mg "check_text" s_check_text
  d_run_end : FnP K mg "run_end" s_run_end
  d_gap_end : FnP K mg "gap_end" s_gap_end
section
variable {P : Program} {w : World} {K : PySem.W.Frag} {mg : Str → Option Value} {base : Heap} {cTE : Addr}
/-- the sign's place, or a TextError -/
def spSign (C : Addr) : Sp := fun vs H Q E => ∃ c : Nat, vs = [.str (S [c])] ∧ (c ∈ alphabet → ∀ k : Nat, Q (.int (k : Int)) H) ∧ (c ∉ alphabet → E (.ref C) none H)
theorem ok_sign_number (W : Wx K mg cTE) : Cl P w K mg base 1 "sign_number" (spSign cTE) := by
  refine cl_mk W.d_sign_number sc_sign_number (fun _ _ _ _ _ _ us hl => match us, hl with | [_], _ => rfl) (fun vs H Q E h => ?_) (fun f cdv A outer s H vs Q E hr h => ?_)
  · obtain ⟨c, rfl, _⟩ := h; rfl
  obtain ⟨c, rfl, q1, q2⟩ := h
  refine ⟨_, (pss_cons (ps_set (i := 1) sc_sign_number.nd rfl (Or.inl rfl) (pe_bm PySem.F.plainAttrs_str PySem.F.slot_str_find PySem.F.type_str_find mt_find (C8.pe_gc rfl W.c_ALPHABET) (pa_cons (pv 0) pa_nil)))
    (pss_cons (ps_if (pt_cmpR op_lt (pv 1) pe_int (nomark _))
    (pss_one (ps_raise rfl (takes_of rfl rfl rfl rfl) (pmk_own PySem.F.excBase_ValueError W.e_TextError.ox W.e_TextError.og W.e_TextError.ok (raises_own W.e_TextError.ob W.e_TextError.ot) rfl)))
    pss_nil)
    (pss_one (ps_ret (pv 1))))), ?_⟩
  walk_at "g"
  cases e : alphabet.findIdx? (· == c) with
  | none =>
    have hn : c ∉ alphabet := fun hc => by
      have := List.findIdx?_eq_none_iff.mp e c hc
      simp at this
    simp only [e]
    refine w_iteD (fun c1 => ?_) (fun c1 => ?_)
    · exact q2 hn
    · exact absurd (by decide) c1
  | some k =>
    obtain ⟨hk, e1, _⟩ := List.findIdx?_eq_some_iff_getElem.mp e
    have hm : c ∈ alphabet := by
      have := List.getElem_mem hk
      rwa [eq_of_beq e1] at this
    simp only [e]
    refine w_iteD (fun c1 => ?_) (fun c1 => ?_)
    · exfalso
      have c2 : (k : Int) < 0 := c1
      omega
    · walk_at "g"
      exact q1 hm k
def spCheck (C : Addr) : Sp := fun vs H Q E => ∃ l : List Nat, vs = [.str (S l)] ∧ ((∀ c ∈ l, c ∈ alphabet) → Q (.str (S l)) H) ∧ ((¬ ∀ c ∈ l, c ∈ alphabet) → E (.ref C) none H)
theorem ok_check_text (W : Wx K mg cTE) (c_sign_number : Cl P w K mg base 1 "sign_number" (spSign cTE)) : Cl P w K mg base 2 "check_text" (spCheck cTE) := by
  refine cl_mk W.d_check_text sc_check_text (fun _ _ _ _ _ _ us hl => match us, hl with | [_], _ => rfl) (fun vs H Q E h => ?_) (fun f cdv A outer s H vs Q E hr h => ?_)
  · obtain ⟨c, rfl, _⟩ := h; rfl
  obtain ⟨l, rfl, q1, q2⟩ := h
  refine ⟨_, (pss_cons (ps_for (passes_of rfl) rfl (pi_str (pv 0)) (pg_name (i := 1) sc_check_text.nd rfl (Or.inl rfl))
    (pss_one (ps_expr (pe_cl c_sign_number hr (by decide) rfl passD (pa_cons (pv 1) pa_nil)))))
    (pss_one (ps_ret (pv 0)))), ?_⟩
  walk_at "g"
  refine w_forS (fun i σ H' => H' = H ∧ (∀ c ∈ l.take i, c ∈ alphabet) ∧ ∃ v : Option V, σ = [some (.str (S l)), v]) ⟨rfl, by simp, none, rfl⟩ ?_ ?_
  · rintro i c σ H' hi ⟨rfl, ha, v, rfl⟩
    walk_at "g"
    refine ⟨c, rfl, fun hc k => ?_, fun hc => ?_⟩
    · refine ⟨rfl, ?_, _, rfl⟩
      intro d hd
      rw [List.take_add_one, hi] at hd
      rcases List.mem_append.mp hd with hd | hd
      · exact ha d hd
      · rcases List.mem_singleton.mp (by simpa using hd) with rfl
        exact hc
    · exact q2 fun h => hc (h c (List.mem_of_getElem? hi))
  · rintro σ H' ⟨rfl, ha, v, rfl⟩
    rw [List.take_length] at ha
    walk_at "g"
    exact q1 ha
/-- the place behind the signs of a class -/
def spRun : Sp := fun vs H Q _ => ∃ (l signs : List Nat) (p : Nat), vs = [.str (S l), .int (p : Int), .str (S signs)] ∧ l.length ≤ 1000000 ∧ p ≤ l.length ∧ Q (.int ((p + run (fun c => decide (c ∈ signs)) (l.drop p) : Nat) : Int)) H
theorem le_line {n : Nat} (h : n ≤ 1000000) : n ≤ sizeLine := Nat.le_trans h (by decide)
theorem ok_run_end (W : Wx K mg cTE) : Cl P w K mg base 1 "run_end" spRun := by
  refine cl_mk W.d_run_end sc_run_end (fun _ _ _ _ _ _ us hl => match us, hl with | [_, _, _], _ => rfl) (fun vs H Q E h => ?_) (fun f cdv A outer s H vs Q E hr h => ?_)
  · obtain ⟨l, signs, p, rfl, _⟩ := h; rfl
  obtain ⟨l, signs, p, rfl, hl, hp, q⟩ := h
  have hz := le_line hl
  refine ⟨_, (pss_cons (ps_while (passes_of rfl) (PW.pt (pw_and (pt_cmpR op_lt (pv 1) (pe_callB call_len_str rfl W.n_len PySem.boot_len (pa_cons (pv 0) pa_nil)) (nomark _)) (pw_and1 (pt_cmpR op_in_sign (pe_ix ix_str (pv 0) (pv 1) (fun _ _ => rfl)) (pv 2) (by with_unfolding_all rfl)))))
    (pss_one (ps_aug (i := 1) sc_run_end.nd rfl (Or.inl rfl) pe_int ip_add)))
    (pss_one (ps_ret (pv 1)))), ?_⟩
  walk_at "s1"
  refine w_while (fun m σ H' => H' = H ∧ ∃ z : Nat, σ = [some (.str (S l)), some (.int (z : Int)), some (.str (S signs))] ∧ z ≤ l.length ∧ m = l.length - z ∧ z + run (fun c => decide (c ∈ signs)) (l.drop z) = p + run (fun c => decide (c ∈ signs)) (l.drop p))
    (l.length - p) ⟨rfl, p, rfl, hp, rfl, rfl⟩ ?_
  rintro m σ H' ⟨rfl, z, rfl, hz1, rfl, e⟩
  walk_at "g"
  refine w_iteD (fun c1 => ?_) (fun c1 => ?_)
  · have hlt : z < l.length := by omega
    walk_at "g"
    refine w_ixS hz (List.getElem?_eq_getElem hlt) ?_
    walk_at "g"
    have e2 := drop_get hlt
    refine w_iteD (fun c2 => ?_) (fun c2 => ?_)
    · refine ⟨fun σ' H'' => H'' = H' ∧ ∃ z' : Nat, σ' = [some (.str (S l)), some (.int (z' : Int)), some (.str (S signs))] ∧ z' = z + 1, fun σ' H'' ⟨h1, z', h2, h3⟩ => ⟨l.length - z', by omega, h1, z', h2, by omega, rfl, ?_⟩, ?_⟩
      · subst h3
        rw [← e, e2, run_cons, if_pos (decide_eq_true c2)]
        omega
      · walk_at "g"
        exact ⟨rfl, z + 1, rfl, rfl⟩
    · rw [e2, run_cons, if_neg (by simp [c2])] at e
      walk_at "g"
      rw [← e] at q
      exact q
  · have hge : z = l.length := by omega
    walk_at "g"
    have e3 : l.drop z = [] := List.drop_eq_nil_of_le (by omega)
    rw [e3, run_nil] at e
    walk_at "g"
    rw [← e] at q
    exact q
end
end K04
end

section
-- part L04C
set_option Elab.async false
set_option linter.all false
set_option maxRecDepth 100000
set_option maxHeartbeats 800000
open PySem PySem.Spec PyProof.Rows L2 Fw
local macro_rules | `(tactic| walk_at "e1") => `(tactic| first
  | ((with_reducible refine' w_var ?hv ?_); (case hv => rfl))
  | with_reducible refine w_c ?_
  | with_reducible refine w_op ?_
  | with_reducible refine w_un ?_
  | with_reducible refine w_cons ?_
  | with_reducible refine w_nil ?_
  | with_reducible refine w_cl ?_
  | with_reducible refine w_cb ?_
  | with_reducible refine w_gname ?_
  | with_reducible refine w_gsub ?_
  | with_reducible refine w_test ?_
  | with_reducible refine w_B ?_
  | with_reducible refine w_bl ?_
  | with_reducible refine w_and ?_
  | with_reducible refine w_or ?_
  | with_reducible refine w_not ?_
  | with_reducible refine w_if ?_
  | with_reducible refine w_I0 ?_
  | with_reducible refine w_ipI ?_
  | with_reducible refine w_eqS ?_
  | with_reducible refine w_neS ?_
  | with_reducible refine w_eqI ?_
  | ((with_reducible refine w_eq ?hs ?_); (case hs => rfl))
  | ((with_reducible refine w_ne ?hs ?_); (case hs => rfl))
  | with_reducible refine w_fld ?_
  | with_reducible refine w_bm ?_
  | with_reducible refine w_bm0 ?_
  | with_reducible refine w_sl ?_
  | with_reducible refine w_part ?_
  | with_reducible refine w_partI ?_
  | with_reducible refine w_nopart ?_
  | ((with_reducible refine' w_ixL ?hh ?ha ?_); (case hh => first | assumption | exact upd_same); (case ha => rfl))
  | ((with_reducible refine' w_setLu ?ha ?_); (case ha => rfl))
  | ((with_reducible refine' w_setL ?hh ?ha ?_); (case hh => first | assumption | exact upd_same); (case ha => rfl))
  | with_reducible refine w_iteT ?_
  | with_reducible refine w_iteF ?_
  | with_reducible refine w_lst ?_
  | with_reducible refine w_tup ?_
  | ((with_reducible refine w_new ?hz ?_); (case hz => rfl))
  | with_reducible refine w_lc ?_
  | with_reducible refine w_iL ?_
  | with_reducible refine w_iT ?_
  | with_reducible refine w_iR1 ?_
  | with_reducible refine w_iR2 ?_
  | with_reducible refine w_yes ?_
  | with_reducible refine w_iStr ?_
  | with_reducible exact tyS
  | with_reducible refine And.intro tyS ?_
  | ((with_reducible refine w_find3 ?_); (first | rw [find3_one] | rw [starts3] | skip))
  | ((with_reducible refine w_2s ?_); (try rw [find_one]))
  | ((with_reducible refine w_inS ?_); rw [S_list])
  | ((with_reducible refine w_lenS ?hz ?_); (case hz => first | assumption | omega | decide); rw [SX.S_len])
  | ((with_reducible refine w_addS ?hz ?_); (case hz => first | assumption | omega | decide); rw [vS_cat])
  | with_reducible refine w_mk ?_
  | with_reducible refine w_me ?_
  | with_reducible refine w_sfld ?_
  | ((with_reducible refine' w_gtup ?hh ?hn ?_); (case hh => first | assumption | exact upd_same); (case hn => rfl))
  | with_reducible refine w_gcons ?_
  | with_reducible refine w_gnil ?_
  | with_reducible refine w_repl ?_
  | with_reducible refine w_chain ?_
  | with_reducible refine w_x1i ?_
  | with_reducible refine w_x1b ?_
  | with_reducible refine w_x1s ?_
  | with_reducible refine w_int1i ?_
  | with_reducible refine w_int1b ?_
  | ((with_reducible refine w_mod ?hc ?_); (case hc => omega))
  | ((with_reducible refine w_fdivW ?hc ?hd ?_); (case hc => omega); (case hd => omega))
  | ((with_reducible refine w_mul ?hc ?_); (case hc => first | exact Or.inr ⟨by decide, by decide⟩ | exact Or.inl ⟨by decide, by decide⟩))
  | ((with_reducible refine w_pow ?hc ?_); (case hc => exact ⟨by decide, by decide, by decide⟩)))
local macro_rules | `(tactic| walk_at "s1") => `(tactic| first
  | with_reducible refine w_seq ?_
  | with_reducible refine w_asg ?_
  | with_reducible refine w_ret ?_
  | with_reducible refine w_drop ?_
  | with_reducible refine w_next ?_
  | with_reducible refine w_ifs ?_
  | ((with_reducible refine' w_aug ?hv ?_); (case hv => rfl))
  | with_reducible refine w_for ?_
  | walk_at "e1")
local macro_rules | `(tactic| walk_at "e") => `(tactic| repeat walk_at "e1")
local macro_rules | `(tactic| walk_at "g") => `(tactic| repeat walk_at "s1")

namespace K04
open Lx
-- Token.__init__: 0:self 1:word 2:value 3:place
theorem sc_Token___init__ : FnScope ["self", "word", "value", "place"] ["self", "word", "value", "place"] (defScope s_Token___init__) := ⟨rfl, rfl, rfl, by decide +kernel, rfl, by decide +kernel, by decide +kernel⟩
-- word_token: 0:text 1:place 2:end 3:name
theorem sc_word_token : FnScope ["text", "place", "end", "name"] ["text", "place"] (defScope s_word_token) := ⟨rfl, rfl, rfl, by decide +kernel, rfl, by decide +kernel, by decide +kernel⟩
-- number_token: 0:text 1:place 2:end 3:number
theorem sc_number_token : FnScope ["text", "place", "end", "number"] ["text", "place"] (defScope s_number_token) := ⟨rfl, rfl, rfl, by decide +kernel, rfl, by decide +kernel, by decide +kernel⟩
-- quoted_token: 0:text 1:place 2:parts 3:start 4:end
theorem sc_quoted_token : FnScope ["text", "place", "parts", "start", "end"] ["text", "place"] (defScope s_quoted_token) := ⟨rfl, rfl, rfl, by decide +kernel, rfl, by decide +kernel, by decide +kernel⟩
-- token_at: 0:text 1:place 2:sign 3:pair
theorem sc_token_at : FnScope ["text", "place", "sign", "pair"] ["text", "place"] (defScope s_token_at) := ⟨rfl, rfl, rfl, by decide +kernel, rfl, by decide +kernel, by decide +kernel⟩
-- tokenize: 0:text 1:tokens 2:place 3:token
theorem sc_tokenize : FnScope ["text", "tokens", "place", "token"] ["text"] (defScope s_tokenize) := ⟨rfl, rfl, rfl, by decide +kernel, rfl, by decide +kernel, by decide +kernel⟩
/-- a tuple of texts of the top -/
def Ctt (K : PySem.W.Frag) (mg : Str → Option Value) (x : Str) (ls : List (List Nat)) : Prop := ∃ a : Addr, mg x = some (.ref a) ∧ ∀ H, SqT K H a (ls.map fun l => V.str (S l))
def Cin (mg : Str → Option Value) (x : Str) (n : Int) : Prop := ∃ u, mg x = some u ∧ RelV (.int n) u
/-- the fields of a token -/
def tokF (w v p : V) : List (Str × V) := [("word", w), ("value", v), ("place", p)]
structure Wt (K : PySem.W.Frag) (mg : Str → Option Value) (cTE cTk aL aS aK : Addr) : Prop extends Wx K mg cTE where
  t_cl : Cls K cTk
  t_w : NoAttr K cTk "word"
  t_v : NoAttr K cTk "value"
  t_p : NoAttr K cTk "place"
  t_g : mg "Token" = some (.ref cTk)
  t_i : ∃ (f : Addr) (fd : FuncData), FunD K "__init__" "Token.__init__" (defArgs s_Token___init__) (defBody s_Token___init__) (defScope s_Token___init__) [] [] f fd ∧ Mk K cTk f
  c_LETTERS : Ct mg "LETTERS" letters
  c_DIGITS : Ct mg "DIGITS" digits
  c_QUOTE : Ct mg "QUOTE" [39]
  c_INT_KEYWORD : Ct mg "INT_KEYWORD" sInt
  c_INT_KIND : Ct mg "INT_KIND" sKind
  c_END : Ct mg "END" sEnd
  c_MOST_DIGITS : Cin mg "MOST_DIGITS" 19
  c_HIGHEST : Cin mg "HIGHEST" 9223372036854775807
  c_LONG_SIGNS : ∃ u, mg "LONG_SIGNS" = some u ∧ RelV (.ref aL) u
  c_SHORT_SIGNS : ∃ u, mg "SHORT_SIGNS" = some u ∧ RelV (.ref aS) u
  c_KEYWORDS : ∃ u, mg "KEYWORDS" = some u ∧ RelV (.ref aK) u
  q_LONG_SIGNS : ∀ H, SqT K H aL (LONG.map fun l => V.str (S l))
  q_SHORT_SIGNS : ∀ H, SqT K H aS (SHORT.map fun l => V.str (S l))
  q_KEYWORDS : ∀ H, SqT K H aK (KW.map fun l => V.str (S l))
  d_word_token : FnP K mg "word_token" s_word_token
  d_number_token : FnP K mg "number_token" s_number_token
  d_quoted_token : FnP K mg "quoted_token" s_quoted_token
  d_token_at : FnP K mg "token_at" s_token_at
  d_tokenize : FnP K mg "tokenize" s_tokenize
section
variable {P : Program} {w : World} {K : PySem.W.Frag} {mg : Str → Option Value} {base : Heap} {cTE cTk aL aS aK : Addr}
def spGap : Sp := fun vs H Q _ => ∃ (l : List Nat) (p : Nat), vs = [.str (S l), .int (p : Int)] ∧ l.length ≤ 1000000 ∧ p ≤ l.length ∧ Q (.int ((p + gap false (l.drop p) : Nat) : Int)) H
theorem ok_gap_end (W : Wx K mg cTE) : Cl P w K mg base 1 "gap_end" spGap := by
  refine cl_mk W.d_gap_end sc_gap_end (fun _ _ _ _ _ _ us hl => match us, hl with | [_, _], _ => rfl) (fun vs H Q E h => ?_) (fun f cdv A outer s H vs Q E hr h => ?_)
  · obtain ⟨l, p, rfl, _⟩ := h; rfl
  obtain ⟨l, p, rfl, hl, hp, q⟩ := h
  have hz := le_line hl
  refine ⟨_, (pss_cons (ps_while (passes_of rfl) (pt_cmpR op_lt (pv 1) (pe_callB call_len_str rfl W.n_len PySem.boot_len (pa_cons (pv 0) pa_nil)) (nomark _))
    (pss_one (ps_if (pt_cmpR op_in_sign (pe_ix ix_str (pv 0) (pv 1) (fun _ _ => rfl)) (C8.pe_gc rfl W.c_GAPS) (by with_unfolding_all rfl))
    (pss_one (ps_aug (i := 1) sc_gap_end.nd rfl (Or.inl rfl) pe_int ip_add))
    (pss_one (ps_if (pt_val (pe_bm PySem.F.plainAttrs_str PySem.F.slot_str_startswith PySem.F.type_str_startswith mt_startswith3 (pv 0) (pa_cons (C8.pe_gc rfl W.c_COMMENT) (pa_cons (pv 1) pa_nil))))
    (pss_cons (ps_set (i := 2) sc_gap_end.nd rfl (Or.inl rfl) (pe_bm PySem.F.plainAttrs_str PySem.F.slot_str_find PySem.F.type_str_find mt_find3 (pv 0) (pa_cons pe_str (pa_cons (pv 1) pa_nil))))
    (pss_one (ps_set (i := 1) sc_gap_end.nd rfl (Or.inl rfl) (pe_ifExp (pt_cmpR op_lt (pv 2) pe_int (nomark _)) (pe_callB call_len_str rfl W.n_len PySem.boot_len (pa_cons (pv 0) pa_nil)) (pv 2)))))
    (pss_one (ps_ret (pv 1))))))))
    (pss_one (ps_ret (pv 1)))), ?_⟩
  walk_at "s1"
  refine w_while (fun m σ H' => H' = H ∧ ∃ (z : Nat) (v : Option V), σ = [some (.str (S l)), some (.int (z : Int)), v] ∧ z ≤ l.length ∧ m = l.length - z ∧ z + gap false (l.drop z) = p + gap false (l.drop p))
    (l.length - p) ⟨rfl, p, none, rfl, hp, rfl, rfl⟩ ?_
  rintro m σ H' ⟨rfl, z, v, rfl, hz1, rfl, e⟩
  walk_at "g"
  refine w_iteD (fun c1 => ?_) (fun c1 => ?_)
  · have hlt : z < l.length := by omega
    have e2 := drop_get hlt
    refine ⟨fun σ' H'' => H'' = H' ∧ ∃ (z' : Nat) (v' : Option V), σ' = [some (.str (S l)), some (.int (z' : Int)), v'] ∧ z < z' ∧ z' ≤ l.length ∧ z' + gap false (l.drop z') = z + gap false (l.drop z), fun σ' H'' ⟨h1, z', v', h2, h3, h4, h5⟩ => ⟨l.length - z', by omega, h1, z', v', h2, h4, rfl, by omega⟩, ?_⟩
    walk_at "g"
    refine w_ixS hz (List.getElem?_eq_getElem hlt) ?_
    walk_at "g"
    refine w_iteD (fun c2 => ?_) (fun c2 => ?_)
    · walk_at "g"
      refine ⟨rfl, z + 1, v, rfl, by omega, hlt, ?_⟩
      rw [e2, gap, if_pos (by simpa using c2)]
      omega
    · walk_at "g"
      refine w_iteD (fun c3 => ?_) (fun c3 => ?_)
      · -- a comment
        have c3' : (l.drop z).take 2 = [45, 45] ∧ z + 2 ≤ l.length := c3
        obtain ⟨c4, c5⟩ := c3'
        have hlt2 : z + 1 < l.length := by omega
        have e4 := drop_get hlt2
        rw [e2, e4] at c4
        have a1 : l[z] = 45 := (List.cons.inj c4).1
        have a2 : l[z + 1] = 45 := (List.cons.inj (List.cons.inj c4).2).1
        have g0 : gap false (l.drop z) = gap true (l.drop z) := by
          rw [e2, e4, a1, a2]
          simp [gap]
        have gc := gap_comment (l.drop z)
        have en : (Str.ofString "\n" : Str) = S [10] := by rfl
        walk_at "g"
        rw [en, find3_one]
        cases ef : (l.drop z).findIdx? (· == 10) with
        | none =>
          simp only [ef] at gc ⊢
          refine w_iteD (fun c6 => ?_) (fun c6 => absurd (by decide) c6)
          walk_at "g"
          rw [List.length_drop] at gc
          refine ⟨rfl, l.length, _, rfl, hlt, Nat.le_refl _, ?_⟩
          have : l.drop l.length = [] := List.drop_eq_nil_of_le (Nat.le_refl _)
          rw [this, g0, gc]
          simp only [gap]
          omega
        | some k =>
          simp only [ef] at gc ⊢
          obtain ⟨hk, ek, _⟩ := List.findIdx?_eq_some_iff_getElem.mp ef
          rw [List.length_drop] at hk
          have hk0 : k ≠ 0 := by
            rintro rfl
            simp only [e2, List.getElem_cons_zero, a1] at ek
            exact absurd ek (by decide)
          refine w_iteD (fun c6 => ?_) (fun c6 => ?_)
          · exfalso
            have c7 : ((z + k : Nat) : Int) < 0 := c6
            omega
          · walk_at "g"
            refine ⟨rfl, z + k, _, rfl, by omega, by omega, ?_⟩
            have gd : (l.drop z).drop k = l.drop (z + k) := by rw [List.drop_drop]
            rw [gd] at gc
            rw [g0, gc]
            exact Nat.add_assoc z k _
      · -- a token
        walk_at "g"
        have g1 : gap false (l.drop z) = 0 := by
          rw [e2, gap, if_neg (by simpa using c2), if_neg]
          rintro ⟨h1, h2⟩
          apply c3
          have hlt2 : z + 1 < l.length := by
            rcases Nat.lt_or_ge (z + 1) l.length with h | h
            · exact h
            · rw [List.drop_eq_nil_of_le h] at h2
              cases h2
          refine ⟨?_, hlt2⟩
          have e4 := drop_get hlt2
          rw [e4] at h2
          have h3 : l[z + 1] = 45 := Option.some.inj h2
          show (l.drop z).take 2 = [45, 45]
          rw [e2, e4, h1, h3]
          rfl
        rw [← e, g1] at q
        exact q
  · have hge : z = l.length := by omega
    walk_at "g"
    have e3 : l.drop z = [] := List.drop_eq_nil_of_le (by omega)
    rw [e3] at e
    rw [← e] at q
    exact q
/-! ### the class Token -/
/-- a token stands at x -/
def TokO (C : Addr) (H : Hp) (x : Addr) (w v p : V) : Prop := ∃ dx, H x = some (.ins C dx (tokF w v p))
theorem put3 (w v p : V) : putF "place" p (putF "value" v (putF "word" w [])) = tokF w v p := by
  have n1 : ¬ (("word" : Str) = "value") := by decide +kernel
  have n2 : ¬ (("word" : Str) = "place") := by decide +kernel
  have n3 : ¬ (("value" : Str) = "place") := by decide +kernel
  show putF "place" p (if ("word" : Str) = "value" then _ else (("word" : Str), w) :: putF "value" v []) = _
  rw [if_neg n1]
  show (if ("word" : Str) = "place" then _ else (("word" : Str), w) :: (if ("value" : Str) = "place" then _ else (("value" : Str), v) :: putF "place" p [])) = _
  rw [if_neg n2, if_neg n3]
  rfl
section
variable (w v p : V)
theorem look1 {f g : Str} {x : V} {r : List (Str × V)} (h : (g == f) = true) : List.lookup g ((f, x) :: r) = some x := by rw [List.lookup_cons, h]
theorem look0 {f g : Str} {x : V} {r : List (Str × V)} (h : (g == f) = false) : List.lookup g ((f, x) :: r) = r.lookup g := by rw [List.lookup_cons, h]
theorem tok_w : (tokF w v p).lookup ("word" : Str) = some w := look1 (by decide +kernel)
theorem tok_v : (tokF w v p).lookup ("value" : Str) = some v := (look0 (by decide +kernel)).trans (look1 (by decide +kernel))
theorem tok_p : (tokF w v p).lookup ("place" : Str) = some p := (look0 (by decide +kernel)).trans ((look0 (by decide +kernel)).trans (look1 (by decide +kernel)))
theorem tok_s : (tokF w v p).lookup ("shown" : Str) = none := (look0 (by decide +kernel)).trans ((look0 (by decide +kernel)).trans ((look0 (by decide +kernel)).trans rfl))
end
def spInit (C : Addr) : Sp := fun vs H Q _ => ∃ (x dx : Addr) (w v p : V) (H0 : Hp), vs = [.ref x, w, v, p] ∧ H = upd H0 x (.ins C dx []) ∧ Q .non (upd H0 x (.ins C dx (tokF w v p)))
theorem ok_tok_init (W : Wt K mg cTE cTk aL aS aK) : Mc P w K mg base 1 "Token" cTk (spInit cTk) := by
  refine mc_mk W.t_i W.t_g sc_Token___init__ (fun _ _ _ _ _ _ us hl => match us, hl with | [_, _, _, _], _ => rfl) (fun vs H Q E h => ?_) (fun f cdv A outer s H vs Q E hr h => ?_)
  · obtain ⟨x, dx, w, v, p, H0, rfl, _⟩ := h; rfl
  obtain ⟨x, dx, w, v, p, H0, rfl, rfl, q⟩ := h
  refine ⟨_, (pss_cons (ps_fld (pv 0) (pv 1) rfl)
    (pss_cons (ps_fld (pv 0) (pv 2) rfl)
    (pss_one (ps_fld (pv 0) (pv 3) rfl)))), ?_⟩
  walk_at "g"
  refine ⟨x, cTk, dx, _, rfl, upd_same, W.t_cl, W.t_w, by show 0 < 1000; decide, ?_⟩
  walk_at "g"
  refine ⟨x, cTk, dx, _, rfl, upd_same, W.t_cl, W.t_v, by show 1 < 1000; decide, ?_⟩
  walk_at "g"
  refine ⟨x, cTk, dx, _, rfl, upd_same, W.t_cl, W.t_p, ?_, ?_⟩
  · have n1 : ¬ (("word" : Str) = "value") := by decide +kernel
    show (if ("word" : Str) = "value" then _ else (("word" : Str), w) :: putF "value" v []).length < 1000
    rw [if_neg n1]
    show 2 < 1000
    decide
  · rw [put3, upd_upd, upd_upd, upd_upd]
    exact q
/-! ### tokens -/
/-- a token and the place behind it are handed back -/
def Gives (C : Addr) (H : Hp) (Q : VK) (w : List Nat) (v : V) (p e : Nat) : Prop := ∀ (H' : Hp) (x q : Addr), Same H H' → H x = none → TokO C H' x (.str (S w)) v (.int (p : Int)) → H' q = some (.tup [.ref x, .int (e : Int)]) → Q (.ref q) H'
/-- the tuple (Token(w, v, p), e) -/
theorem gives_of {C : Addr} {H : Hp} {Q : VK} {w : List Nat} {v : V} {p e : Nat} (g : Gives C H Q w v p e) {x dx q : Addr} (hx : H x = none) (hd : H dx = none) (ne : dx ≠ x)
    (hq : upd (upd H dx (.own x)) x (.ins C dx (tokF (.str (S w)) v (.int (p : Int)))) q = none) :
    Q (.ref q) (upd (upd (upd H dx (.own x)) x (.ins C dx (tokF (.str (S w)) v (.int (p : Int))))) q (.tup [.ref x, .int (e : Int)])) := by
  have nq : x ≠ q := fun z => by subst z; rw [upd_same] at hq; cases hq
  refine g _ x q (fun b o hb => ?_) hx ⟨dx, by rw [upd_ne nq, upd_same]⟩ upd_same
  rw [upd_ne (fun z => by
    subst z
    have e1 : upd (upd H dx (.own x)) x (.ins C dx (tokF (.str (S w)) v (.int (p : Int)))) b = some o := by rw [upd_ne (ne_of_none hb hx), upd_ne (ne_of_none hb hd)]; exact hb
    rw [hq] at e1; cases e1), upd_ne (ne_of_none hb hx), upd_ne (ne_of_none hb hd)]
  exact hb
def spWord (C : Addr) : Sp := fun vs H Q _ => ∃ (l : List Nat) (p : Nat), vs = [.str (S l), .int (p : Int)] ∧ l.length ≤ 1000000 ∧ p ≤ l.length ∧
  Gives C H Q (wordOf (((l.drop p).take (run isWd (l.drop p))).map lo1)) (.str (S (((l.drop p).take (run isWd (l.drop p))).map lo1))) p (p + run isWd (l.drop p))
theorem take_run_all (f : Nat → Bool) : ∀ r : List Nat, (r.take (run f r)).all f = true
  | [] => rfl
  | c :: r => by
    rw [run_cons]
    by_cases h : f c = true
    · rw [if_pos h, Nat.add_comm, List.take_succ_cons, List.all_cons, h, take_run_all f r]
      rfl
    · rw [if_neg h]; rfl
theorem wd_ascii : ∀ c, isWd c = true → c < 128 := by
  intro c h
  have h2 : c ∈ letters ++ digits := of_decide_eq_true h
  have h3 : (letters ++ digits).all (· < 128) = true := by decide +kernel
  simpa using List.all_eq_true.mp h3 c h2
theorem take_ascii (r : List Nat) : (r.take (run isWd r)).all (· < 128) = true := by
  rw [List.all_eq_true]
  intro c hc
  have := List.all_eq_true.mp (take_run_all isWd r) c hc
  simpa using wd_ascii c this
theorem ok_word_token (W : Wt K mg cTE cTk aL aS aK) (c_run_end : Cl P w K mg base 1 "run_end" spRun) (c_Token : Mc P w K mg base 1 "Token" cTk (spInit cTk)) : Cl P w K mg base 3 "word_token" (spWord cTk) := by
  refine cl_mk W.d_word_token sc_word_token (fun _ _ _ _ _ _ us hl => match us, hl with | [_, _], _ => rfl) (fun vs H Q E h => ?_) (fun f cdv A outer s H vs Q E hr h => ?_)
  · obtain ⟨l, p, rfl, _⟩ := h; rfl
  obtain ⟨l, p, rfl, hl, hp, q⟩ := h
  have hz := le_line hl
  refine ⟨_, (pss_cons (ps_set (i := 2) sc_word_token.nd rfl (Or.inl rfl) (pe_cl c_run_end hr (by decide) rfl passL (pa_cons (pv 0) (pa_cons (pv 1) (pa_cons (pe_op op_add_str (C8.pe_gc rfl W.c_LETTERS) (C8.pe_gc rfl W.c_DIGITS)) pa_nil)))))
    (pss_cons (ps_set (i := 3) sc_word_token.nd rfl (Or.inl rfl) (pe_bm0 PySem.F.plainAttrs_str PySem.F.slot_str_lower PySem.F.type_str_lower mt_lower (pe_slice sl_str (pv 0) (po_some (pv 1)) (po_some (pv 2)))))
    (pss_cons (ps_if (pt_cmpR op_eq (pv 3) (C8.pe_gc rfl W.c_INT_KEYWORD) (nomark _))
    (pss_one (ps_ret (pe_tup (pa_cons (pe_mc c_Token hr (by decide) rfl passL (pa_cons (C8.pe_gc rfl W.c_INT_KIND) (pa_cons (pv 3) (pa_cons (pv 1) pa_nil)))) (pa_cons (pv 2) pa_nil)))))
    pss_nil)
    (pss_cons (ps_if (pt_cmpR op_in_seq (pv 3) (C8.pe_gc rfl W.c_KEYWORDS) (by with_unfolding_all rfl))
    (pss_one (ps_ret (pe_tup (pa_cons (pe_mc c_Token hr (by decide) rfl passL (pa_cons (pv 3) (pa_cons (pv 3) (pa_cons (pv 1) pa_nil)))) (pa_cons (pv 2) pa_nil)))))
    pss_nil)
    (pss_one (ps_ret (pe_tup (pa_cons (pe_mc c_Token hr (by decide) rfl passL (pa_cons pe_str (pa_cons (pv 3) (pa_cons (pv 1) pa_nil)))) (pa_cons (pv 2) pa_nil))))))))), ?_⟩
  walk_at "g"
  refine ⟨l, letters ++ digits, p, rfl, hl, hp, ?_⟩
  rw [show run (fun c => decide (c ∈ letters ++ digits)) = run isWd from rfl]
  have hn := run_le isWd (l.drop p)
  rw [List.length_drop] at hn
  walk_at "g"
  refine w_slS hz hp ?_
  rw [Nat.add_sub_cancel_left]
  walk_at "g"
  refine ⟨_, rfl, rfl, ?_, ?_⟩
  · rw [SX.S_len, List.length_take, List.length_drop]
    omega
  rw [SX.lower_S (take_ascii _)]
  walk_at "g"
  unfold wordOf at q
  refine w_iteD (fun c1 => ?_) (fun c1 => ?_)
  · rw [if_pos c1] at q
    walk_at "g"
    intro x dx hx hd ne
    refine ⟨x, dx, _, _, _, upd H dx (.own x), rfl, rfl, rfl, ?_⟩
    walk_at "g"
    exact fun z hz2 => gives_of q hx hd ne hz2
  · rw [if_neg c1] at q
    walk_at "g"
    refine w_inT (W.q_KEYWORDS _) ?_
    walk_at "g"
    refine w_iteD (fun c2 => ?_) (fun c2 => ?_)
    · rw [if_pos c2] at q
      walk_at "g"
      intro x dx hx hd ne
      refine ⟨x, dx, _, _, _, upd H dx (.own x), rfl, rfl, rfl, ?_⟩
      walk_at "g"
      exact fun z hz2 => gives_of q hx hd ne hz2
    · rw [if_neg c2] at q
      walk_at "g"
      intro x dx hx hd ne
      refine ⟨x, dx, _, _, _, upd H dx (.own x), rfl, rfl, rfl, ?_⟩
      walk_at "g"
      exact fun z hz2 => gives_of q hx hd ne hz2
theorem dig_val : ∀ c, isDig c = true → 48 ≤ c ∧ c ≤ 57 := by
  intro c h
  have h2 : c ∈ digits := of_decide_eq_true h
  have h3 : digits.all (fun c => decide (48 ≤ c) && decide (c ≤ 57)) = true := by decide +kernel
  simpa using List.all_eq_true.mp h3 c h2
theorem take_dig (r : List Nat) : (r.take (run isDig r)).all (fun c => decide (48 ≤ c) && decide (c ≤ 57)) = true := by
  rw [List.all_eq_true]
  intro c hc
  have := List.all_eq_true.mp (take_run_all isDig r) c hc
  simpa using dig_val c this
/-- a number, or a TextError -/
def spNum (C T : Addr) : Sp := fun vs H Q E => ∃ (l : List Nat) (p : Nat), vs = [.str (S l), .int (p : Int)] ∧ l.length ≤ 1000000 ∧ p ≤ l.length ∧ 0 < run isDig (l.drop p) ∧
  if 19 < run isDig (l.drop p) ∨ 9223372036854775807 < NumText.digitsVal ((l.drop p).take (run isDig (l.drop p))) then E (.ref T) none H
  else Gives C H Q sInt (.int (NumText.digitsVal ((l.drop p).take (run isDig (l.drop p))) : Nat)) p (p + run isDig (l.drop p))
theorem ok_number_token (W : Wt K mg cTE cTk aL aS aK) (c_run_end : Cl P w K mg base 1 "run_end" spRun) (c_Token : Mc P w K mg base 1 "Token" cTk (spInit cTk)) : Cl P w K mg base 3 "number_token" (spNum cTk cTE) := by
  refine cl_mk W.d_number_token sc_number_token (fun _ _ _ _ _ _ us hl => match us, hl with | [_, _], _ => rfl) (fun vs H Q E h => ?_) (fun f cdv A outer s H vs Q E hr h => ?_)
  · obtain ⟨l, p, rfl, _⟩ := h; rfl
  obtain ⟨l, p, rfl, hl, hp, h0, q⟩ := h
  have hz := le_line hl
  refine ⟨_, (pss_cons (ps_set (i := 2) sc_number_token.nd rfl (Or.inl rfl) (pe_cl c_run_end hr (by decide) rfl passL (pa_cons (pv 0) (pa_cons (pv 1) (pa_cons (C8.pe_gc rfl W.c_DIGITS) pa_nil)))))
    (pss_cons (ps_if (pt_cmpR op_gt (pe_op op_sub (pv 2) (pv 1)) (C8.pe_gc rfl W.c_MOST_DIGITS) (nomark _))
    (pss_one (ps_raise rfl (takes_of rfl rfl rfl rfl) (SkE.pmk_own1 PySem.F.excBase_ValueError W.e_TextError.ox W.e_TextError.og W.e_TextError.ok (raises_own W.e_TextError.ob W.e_TextError.ot) rfl (pe_joined (PJ.cons pe_str (PJ.cons (pe_fmt (pv 1)) (PJ.cons pe_str PJ.nil)))))))
    pss_nil)
    (pss_cons (ps_set (i := 3) sc_number_token.nd rfl (Or.inl rfl) (pe_callTy call_int_str rfl W.n_int (by decide +kernel) (pa_cons (pe_slice sl_str (pv 0) (po_some (pv 1)) (po_some (pv 2))) pa_nil)))
    (pss_cons (ps_if (pt_cmpR op_gt (pv 3) (C8.pe_gc rfl W.c_HIGHEST) (nomark _))
    (pss_one (ps_raise rfl (takes_of rfl rfl rfl rfl) (SkE.pmk_own1 PySem.F.excBase_ValueError W.e_TextError.ox W.e_TextError.og W.e_TextError.ok (raises_own W.e_TextError.ob W.e_TextError.ot) rfl (pe_joined (PJ.cons pe_str (PJ.cons (pe_fmt (pv 1)) (PJ.cons pe_str PJ.nil)))))))
    pss_nil)
    (pss_one (ps_ret (pe_tup (pa_cons (pe_mc c_Token hr (by decide) rfl passL (pa_cons pe_str (pa_cons (pv 3) (pa_cons (pv 1) pa_nil)))) (pa_cons (pv 2) pa_nil))))))))), ?_⟩
  walk_at "g"
  refine ⟨l, digits, p, rfl, hl, hp, ?_⟩
  rw [show run (fun c => decide (c ∈ digits)) = run isDig from rfl]
  have hn := run_le isDig (l.drop p)
  rw [List.length_drop] at hn
  walk_at "g"
  have e1 : ((p + run isDig (l.drop p) : Nat) : Int) - (p : Int) = (run isDig (l.drop p) : Int) := by omega
  rw [e1]
  refine w_iteD (fun c1 => ?_) (fun c1 => ?_)
  · rw [if_pos (.inl (by have c2 : (19 : Int) < (run isDig (l.drop p) : Int) := c1; omega))] at q
    walk_at "g"
    exact w_msg3 (n := p) (by decide +kernel) (by decide +kernel) (by omega) rfl fun _ => q
  · have c2 : ¬ 19 < run isDig (l.drop p) := by
      intro h
      exact c1 (show (19 : Int) < (run isDig (l.drop p) : Int) by omega)
    walk_at "g"
    refine w_slS hz hp ?_
    rw [Nat.add_sub_cancel_left]
    walk_at "g"
    have hlen : ((l.drop p).take (run isDig (l.drop p))).length = run isDig (l.drop p) := by
      rw [List.length_take, List.length_drop]
      omega
    refine ⟨_, _, rfl, SX.int_S (take_dig _) (fun e => by rw [e] at hlen; simp at hlen; omega) (by omega), by rw [SX.S_len]; omega, ?_⟩
    walk_at "g"
    refine w_iteD (fun c3 => ?_) (fun c3 => ?_)
    · rw [if_pos (.inr (by have c4 : (9223372036854775807 : Int) < ((NumText.digitsVal ((l.drop p).take (run isDig (l.drop p))) : Nat) : Int) := c3; omega))] at q
      walk_at "g"
      exact w_msg3 (n := p) (by decide +kernel) (by decide +kernel) (by omega) rfl fun _ => q
    · have c4 : ¬ (9223372036854775807 : Int) < ((NumText.digitsVal ((l.drop p).take (run isDig (l.drop p))) : Nat) : Int) := c3
      rw [if_neg (by omega)] at q
      walk_at "g"
      intro x dx hx hd ne
      refine ⟨x, dx, _, _, _, upd H dx (.own x), rfl, rfl, rfl, ?_⟩
      walk_at "g"
      exact fun z hz2 => gives_of q hx hd ne hz2
end
end K04
end

section
-- part L04D
set_option Elab.async false
set_option linter.all false
set_option maxRecDepth 100000
set_option maxHeartbeats 800000
open PySem PySem.Spec PyProof.Rows L2 Fw
local macro_rules | `(tactic| walk_at "e1") => `(tactic| first
  | ((with_reducible refine' w_var ?hv ?_); (case hv => rfl))
  | with_reducible refine w_c ?_
  | with_reducible refine w_op ?_
  | with_reducible refine w_un ?_
  | with_reducible refine w_cons ?_
  | with_reducible refine w_nil ?_
  | with_reducible refine w_cl ?_
  | with_reducible refine w_cb ?_
  | with_reducible refine w_gname ?_
  | with_reducible refine w_gsub ?_
  | with_reducible refine w_test ?_
  | with_reducible refine w_B ?_
  | with_reducible refine w_bl ?_
  | with_reducible refine w_and ?_
  | with_reducible refine w_or ?_
  | with_reducible refine w_not ?_
  | with_reducible refine w_if ?_
  | with_reducible refine w_I0 ?_
  | with_reducible refine w_ipI ?_
  | with_reducible refine w_eqS ?_
  | with_reducible refine w_neS ?_
  | with_reducible refine w_eqI ?_
  | ((with_reducible refine w_eq ?hs ?_); (case hs => rfl))
  | ((with_reducible refine w_ne ?hs ?_); (case hs => rfl))
  | with_reducible refine w_fld ?_
  | with_reducible refine w_bm ?_
  | with_reducible refine w_bm0 ?_
  | with_reducible refine w_sl ?_
  | with_reducible refine w_part ?_
  | with_reducible refine w_partI ?_
  | with_reducible refine w_nopart ?_
  | ((with_reducible refine' w_ixL ?hh ?ha ?_); (case hh => first | assumption | exact upd_same); (case ha => rfl))
  | ((with_reducible refine' w_setLu ?ha ?_); (case ha => rfl))
  | ((with_reducible refine' w_setL ?hh ?ha ?_); (case hh => first | assumption | exact upd_same); (case ha => rfl))
  | with_reducible refine w_iteT ?_
  | with_reducible refine w_iteF ?_
  | with_reducible refine w_lst ?_
  | with_reducible refine w_tup ?_
  | ((with_reducible refine w_new ?hz ?_); (case hz => rfl))
  | with_reducible refine w_lc ?_
  | with_reducible refine w_iL ?_
  | with_reducible refine w_iT ?_
  | with_reducible refine w_iR1 ?_
  | with_reducible refine w_iR2 ?_
  | with_reducible refine w_yes ?_
  | with_reducible refine w_iStr ?_
  | with_reducible exact tyS
  | with_reducible refine And.intro tyS ?_
  | ((with_reducible refine w_find3 ?_); (first | rw [find3_one] | rw [starts3] | skip))
  | ((with_reducible refine w_2s ?_); (try rw [find_one]))
  | ((with_reducible refine w_inS ?_); rw [S_list])
  | ((with_reducible refine w_lenS ?hz ?_); (case hz => first | assumption | omega | decide); rw [SX.S_len])
  | ((with_reducible refine w_addS ?hz ?_); (case hz => first | assumption | omega | decide); rw [vS_cat])
  | with_reducible refine w_mk ?_
  | with_reducible refine w_me ?_
  | with_reducible refine w_sfld ?_
  | ((with_reducible refine' w_gtup ?hh ?hn ?_); (case hh => first | assumption | exact upd_same); (case hn => rfl))
  | with_reducible refine w_gcons ?_
  | with_reducible refine w_gnil ?_
  | with_reducible refine w_repl ?_
  | with_reducible refine w_chain ?_
  | with_reducible refine w_x1i ?_
  | with_reducible refine w_x1b ?_
  | with_reducible refine w_x1s ?_
  | with_reducible refine w_int1i ?_
  | with_reducible refine w_int1b ?_
  | ((with_reducible refine w_mod ?hc ?_); (case hc => omega))
  | ((with_reducible refine w_fdivW ?hc ?hd ?_); (case hc => omega); (case hd => omega))
  | ((with_reducible refine w_mul ?hc ?_); (case hc => first | exact Or.inr ⟨by decide, by decide⟩ | exact Or.inl ⟨by decide, by decide⟩))
  | ((with_reducible refine w_pow ?hc ?_); (case hc => exact ⟨by decide, by decide, by decide⟩)))
local macro_rules | `(tactic| walk_at "s1") => `(tactic| first
  | with_reducible refine w_seq ?_
  | with_reducible refine w_asg ?_
  | with_reducible refine w_ret ?_
  | with_reducible refine w_drop ?_
  | with_reducible refine w_next ?_
  | with_reducible refine w_ifs ?_
  | ((with_reducible refine' w_aug ?hv ?_); (case hv => rfl))
  | with_reducible refine w_for ?_
  | walk_at "e1")
local macro_rules | `(tactic| walk_at "e") => `(tactic| repeat walk_at "e1")
local macro_rules | `(tactic| walk_at "g") => `(tactic| repeat walk_at "s1")

namespace K04
open Lx
section
variable {P : Program} {w : World} {K : PySem.W.Frag} {mg : Str → Option Value} {base : Heap} {cTE cTk aL aS aK : Addr}
/-- parts joined by quotes -/
theorem join_pre : ∀ (parts : List (List Nat)) (x : List Nat), TL.joinL [39] (parts ++ [x]) = (parts.flatMap fun q => q ++ [39]) ++ x
  | [], x => rfl
  | q :: r, x => by
    have ih := join_pre r x
    rw [List.cons_append, List.flatMap_cons]
    cases r with
    | nil =>
      show q ++ ([39] ++ TL.joinL [39] [x]) = _
      simp [TL.joinL]
    | cons q2 r =>
      show q ++ ([39] ++ TL.joinL [39] (q2 :: (r ++ [x]))) = _
      rw [show q2 :: (r ++ [x]) = (q2 :: r) ++ [x] from rfl, ih]
      simp
theorem flat_len : ∀ parts : List (List Nat), (parts.map (·.length)).sum + parts.length = (parts.flatMap fun q => q ++ [39]).length
  | [] => rfl
  | q :: r => by
    have ih := flat_len r
    rw [List.flatMap_cons, List.length_append, List.length_append, ← ih, List.map_cons, List.sum_cons, List.length_cons, List.length_singleton]
    omega
theorem starts_head {l : List Nat} {n : Nat} : ((l.drop n).take ([39] : List Nat).length = [39] ∧ n + ([39] : List Nat).length ≤ l.length) ↔ (l.drop n).head? = some 39 := by
  constructor
  · rintro ⟨h1, h2⟩
    have hn : n < l.length := by have : ([39] : List Nat).length = 1 := rfl; omega
    rw [drop_get hn] at h1 ⊢
    exact congrArg some (List.cons.inj h1).1
  · intro h
    have hn : n < l.length := by
      rcases Nat.lt_or_ge n l.length with h2 | h2
      · exact h2
      · rw [List.drop_eq_nil_of_le h2] at h; cases h
    refine ⟨?_, hn⟩
    rw [drop_get hn] at h ⊢
    have e : l[n] = 39 := Option.some.inj h
    rw [e]; rfl
theorem Gives.up {C : Addr} {H H2 : Hp} {Q : VK} {w : List Nat} {v : V} {p e : Nat} (g : Gives C H Q w v p e) (s : Same H H2) : Gives C H2 Q w v p e := fun H' x q s2 hx ht hq => g H' x q (s.trans s2) (s.free hx) ht hq
theorem same_upd {H H' : Hp} {L : Addr} {o : HO} (s : Same H H') (hL : H L = none) : Same H (upd H' L o) := fun b u e => by rw [upd_ne (ne_of_none e hL)]; exact s _ _ e
def spQuot (C T : Addr) : Sp := fun vs H Q E => ∃ (l : List Nat) (p : Nat), vs = [.str (S l), .int (p : Int)] ∧ l.length ≤ 1000000 ∧ p < l.length ∧
  match quot (l.drop (p + 1)) with
  | none => ∀ H', Same H H' → E (.ref T) none H'
  | some sn => if ∀ x ∈ sn.1, x ∈ alphabet then Gives C H Q sQuoted (.str (S sn.1)) p (p + (sn.2 + 1)) else ∀ H', Same H H' → E (.ref T) none H'
theorem ok_quoted_token (W : Wt K mg cTE cTk aL aS aK) (c_check_text : Cl P w K mg base 2 "check_text" (spCheck cTE)) (c_Token : Mc P w K mg base 1 "Token" cTk (spInit cTk)) : Cl P w K mg base 4 "quoted_token" (spQuot cTk cTE) := by
  refine cl_mk W.d_quoted_token sc_quoted_token (fun _ _ _ _ _ _ us hl => match us, hl with | [_, _], _ => rfl) (fun vs H Q E h => ?_) (fun f cdv A outer s H vs Q E hr h => ?_)
  · obtain ⟨l, p, rfl, _⟩ := h; rfl
  obtain ⟨l, p, rfl, hl, hp, q⟩ := h
  have hz := le_line hl
  refine ⟨_, (pss_cons (ps_set (i := 2) sc_quoted_token.nd rfl (Or.inl rfl) (pe_lst pa_nil))
    (pss_cons (ps_set (i := 3) sc_quoted_token.nd rfl (Or.inl rfl) (pe_op op_add (pv 1) pe_int))
    (pss_one (ps_while (passes_of rfl) (pt_val pe_bl)
    (pss_cons (ps_set (i := 4) sc_quoted_token.nd rfl (Or.inl rfl) (pe_bm PySem.F.plainAttrs_str PySem.F.slot_str_find PySem.F.type_str_find mt_find3 (pv 0) (pa_cons (C8.pe_gc rfl W.c_QUOTE) (pa_cons (pv 3) pa_nil))))
    (pss_cons (ps_if (pt_cmpR op_lt (pv 4) pe_int (nomark _))
    (pss_one (ps_raise rfl (takes_of rfl rfl rfl rfl) (SkE.pmk_own1 PySem.F.excBase_ValueError W.e_TextError.ox W.e_TextError.og W.e_TextError.ok (raises_own W.e_TextError.ob W.e_TextError.ot) rfl (pe_joined (PJ.cons pe_str (PJ.cons (pe_fmt (pv 1)) (PJ.cons pe_str PJ.nil)))))))
    pss_nil)
    (pss_cons (ps_expr (pe_bm PySem.F.plainAttrs_list PySem.F.slot_list_append PySem.F.type_list_append mt_append (pv 2) (pa_cons (pe_slice sl_str (pv 0) (po_some (pv 3)) (po_some (pv 4))) pa_nil)))
    (pss_cons (ps_if (pt_not (pt_val (pe_bm PySem.F.plainAttrs_str PySem.F.slot_str_startswith PySem.F.type_str_startswith mt_startswith3 (pv 0) (pa_cons (C8.pe_gc rfl W.c_QUOTE) (pa_cons (pe_op op_add (pv 4) pe_int) pa_nil)))))
    (pss_one (ps_ret (pe_tup (pa_cons (pe_mc c_Token hr (by decide) rfl passL (pa_cons pe_str (pa_cons (pe_cl c_check_text hr (by decide) rfl passD (pa_cons (pe_bm PySem.F.plainAttrs_str PySem.F.slot_str_join PySem.F.type_str_join mt_join (C8.pe_gc rfl W.c_QUOTE) (pa_cons (pv 2) pa_nil)) pa_nil)) (pa_cons (pv 1) pa_nil)))) (pa_cons (pe_op op_add (pv 4) pe_int) pa_nil)))))
    pss_nil)
    (pss_one (ps_set (i := 3) sc_quoted_token.nd rfl (Or.inl rfl) (pe_op op_add (pv 4) pe_int))))))))))), ?_⟩
  walk_at "g"
  intro L hL
  walk_at "g"
  refine w_while (fun m σ H' => ∃ (parts : List (List Nat)) (z : Nat) (v : Option V), σ = [some (.str (S l)), some (.int (p : Int)), some (.ref L), some (.int (z : Int)), v] ∧ H' L = some (.lst (parts.map fun q => V.str (S q))) ∧ Same H H' ∧ p < z ∧ z ≤ l.length ∧ parts.length ≤ z ∧
      m = l.length - z ∧ (parts.flatMap fun q => q ++ [39]).length ≤ z ∧ quot (l.drop (p + 1)) = (quot (l.drop z)).map fun sn => ((parts.flatMap fun q => q ++ [39]) ++ sn.1, z - (p + 1) + sn.2))
    (l.length - (p + 1)) ⟨[], p + 1, none, ?_, upd_same, same_new hL _, by omega, hp, Nat.zero_le _, rfl, Nat.zero_le _, ?_⟩ ?_
  · rfl
  · rw [Nat.sub_self]
    cases quot (l.drop (p + 1)) with
    | none => rfl
    | some sn => simp
  rintro m σ H' ⟨parts, z, v, rfl, eL, sH, hz1, hz2, hz3, rfl, hz4, eq⟩
  have qf := quot_find (l.drop z)
  walk_at "g"
  cases ef : (l.drop z).findIdx? (· == 39) with
  | none =>
    rw [ef] at qf
    simp only [] at qf
    rw [qf] at eq
    rw [eq] at q
    refine ⟨fun _ _ => False, fun _ _ n => n.elim, ?_⟩
    walk_at "g"
    simp only [ef]
    refine w_iteD (fun c1 => ?_) (fun c1 => absurd (by decide) c1)
    walk_at "g"
    exact w_msg3 (n := p) (by decide +kernel) (by decide +kernel) (by omega) rfl fun _ => q _ sH
  | some k =>
    obtain ⟨hk, ek, _⟩ := List.findIdx?_eq_some_iff_getElem.mp ef
    rw [List.length_drop] at hk
    rw [ef] at qf
    simp only [] at qf
    have gd1 : (l.drop z).drop (k + 1) = l.drop (z + k + 1) := by rw [List.drop_drop]; rfl
    have gd2 : (l.drop z).drop (k + 2) = l.drop (z + k + 2) := by rw [List.drop_drop]; rfl
    rw [gd1, gd2] at qf
    have sU : ∀ o, Same H (upd H' L o) := fun o => same_upd sH hL
    have hx : ((l.drop z).take k).length = k := by rw [List.length_take, List.length_drop]; omega
    refine ⟨fun σ' H'' => ∃ v' : Option V, σ' = [some (.str (S l)), some (.int (p : Int)), some (.ref L), some (.int ((z + k + 2 : Nat) : Int)), v'] ∧ H'' L = some (.lst ((parts ++ [(l.drop z).take k]).map fun q => V.str (S q))) ∧ Same H H'' ∧ (l.drop (z + k + 1)).head? = some 39, ?_, ?_⟩
    · rintro σ' H'' ⟨v', rfl, e1, e2, e3⟩
      have hlt : z + k + 1 < l.length := by
        rcases Nat.lt_or_ge (z + k + 1) l.length with h2 | h2
        · exact h2
        · rw [List.drop_eq_nil_of_le h2] at e3; cases e3
      rw [if_pos e3] at qf
      refine ⟨l.length - (z + k + 2), by omega, parts ++ [(l.drop z).take k], z + k + 2, v', rfl, e1, e2, by omega, by omega, by rw [List.length_append, List.length_singleton]; omega, rfl, ?_, ?_⟩
      · rw [List.flatMap_append, List.length_append]
        simp only [List.flatMap_cons, List.flatMap_nil, List.append_nil, List.length_append, List.length_singleton, hx]
        omega
      · rw [eq, qf, Option.map_map]
        congr 1
        funext sn
        show ((parts.flatMap fun q => q ++ [39]) ++ ((l.drop z).take k ++ 39 :: sn.1), z - (p + 1) + (k + 2 + sn.2)) = (((parts ++ [(l.drop z).take k]).flatMap fun q => q ++ [39]) ++ sn.1, z + k + 2 - (p + 1) + sn.2)
        rw [List.flatMap_append]
        simp only [List.flatMap_cons, List.flatMap_nil, List.append_nil, List.append_assoc, List.singleton_append, Prod.mk.injEq, true_and]
        omega
    · walk_at "g"
      simp only [ef]
      refine w_iteD (fun c1 => ?_) (fun c1 => ?_)
      · exfalso
        have c7 : ((z + k : Nat) : Int) < 0 := c1
        omega
      walk_at "g"
      refine ⟨tyL eL, ?_⟩
      walk_at "g"
      refine w_slS hz hz2 ?_
      rw [show z + k - z = k by omega]
      walk_at "g"
      refine ⟨L, _, _, rfl, rfl, eL, by rw [List.length_map]; exact Nat.lt_of_le_of_lt hz3 (Nat.lt_of_le_of_lt (Nat.le_trans hz2 hl) (by decide)), ?_⟩
      have em : (parts.map fun q => V.str (S q)) ++ [V.str (S ((l.drop z).take k))] = (parts ++ [(l.drop z).take k]).map fun q => V.str (S q) := by rw [List.map_append]; rfl
      rw [em]
      walk_at "g"
      have ei : ((z + k : Nat) : Int) + 1 = ((z + k + 1 : Nat) : Int) := by omega
      rw [ei, starts3]
      refine w_iteN (fun c2 => ?_) (fun c2 => ?_)
      · have c3 : ¬ (l.drop (z + k + 1)).head? = some 39 := fun h => c2 (starts_head.mpr h)
        rw [if_neg c3] at qf
        rw [qf] at eq
        rw [eq] at q
        simp only [Option.map_some] at q
        have he : p + (z - (p + 1) + (k + 1) + 1) = z + k + 1 := by omega
        have e5 : (Str.ofString "quoted" : Str) = S sQuoted := rfl
        walk_at "g"
        refine ⟨_, L, (parts ++ [(l.drop z).take k]).map S, rfl, rfl, .inl (SqL.of (by rw [upd_same, List.map_map]; rfl)), ?_, ?_⟩
        · have e6 := flat_len (parts ++ [(l.drop z).take k])
          rw [List.flatMap_append, List.length_append] at e6
          simp only [List.flatMap_cons, List.flatMap_nil, List.append_nil, List.length_append, List.length_singleton, hx] at e6
          rw [SX.lens, List.length_map, SX.S_len]
          simp only [List.length_append, List.length_singleton, Nat.mul_one] at e6 ⊢
          omega
        rw [show Txt.join (S [39]) ((parts ++ [(l.drop z).take k]).map S) = S ((parts.flatMap fun q => q ++ [39]) ++ (l.drop z).take k) from (SX.join_S _ _).trans (by rw [join_pre])]
        walk_at "g"
        refine ⟨_, rfl, fun ok => ?_, fun bad => ?_⟩
        · rw [if_pos ok, he] at q
          walk_at "g"
          intro x dx hx hd ne
          refine ⟨x, dx, _, _, _, upd _ dx (.own x), rfl, rfl, rfl, ?_⟩
          walk_at "g"
          rw [e5, ei]
          exact fun r hr => gives_of (q.up (sU _)) hx hd ne hr
        · rw [if_neg bad] at q
          exact q _ (sU _)
      · have c3 : (l.drop (z + k + 1)).head? = some 39 := starts_head.mp c2
        walk_at "g"
        have e2 : ((z + k : Nat) : Int) + 2 = ((z + k + 2 : Nat) : Int) := by omega
        rw [e2]
        exact ⟨_, rfl, upd_same, sU _, c3⟩
def spTokAt (C T : Addr) : Sp := fun vs H Q E => ∃ (l : List Nat) (p : Nat), vs = [.str (S l), .int (p : Int)] ∧ l.length ≤ 1000000 ∧ p < l.length ∧
  match tokAt (l.drop p) with
  | none => ∀ H', Same H H' → E (.ref T) none H'
  | some (w, v, n) => Gives C H Q w v p (p + n)
theorem ok_token_at (W : Wt K mg cTE cTk aL aS aK) (c_word_token : Cl P w K mg base 3 "word_token" (spWord cTk)) (c_number_token : Cl P w K mg base 3 "number_token" (spNum cTk cTE))
    (c_quoted_token : Cl P w K mg base 4 "quoted_token" (spQuot cTk cTE)) (c_Token : Mc P w K mg base 1 "Token" cTk (spInit cTk)) : Cl P w K mg base 5 "token_at" (spTokAt cTk cTE) := by
  refine cl_mk W.d_token_at sc_token_at (fun _ _ _ _ _ _ us hl => match us, hl with | [_, _], _ => rfl) (fun vs H Q E h => ?_) (fun f cdv A outer s H vs Q E hr h => ?_)
  · obtain ⟨l, p, rfl, _⟩ := h; rfl
  obtain ⟨l, p, rfl, hl, hp, q⟩ := h
  have hz := le_line hl
  have e2 := drop_get hp
  rw [e2] at q
  unfold tokAt at q
  dsimp only at q
  refine ⟨_, (pss_cons (ps_set (i := 2) sc_token_at.nd rfl (Or.inl rfl) (pe_ix ix_str (pv 0) (pv 1) (fun _ _ => rfl)))
    (pss_cons (ps_if (pt_cmpR op_in_sign (pv 2) (C8.pe_gc rfl W.c_LETTERS) (by with_unfolding_all rfl))
    (pss_one (ps_ret (pe_cl c_word_token hr (by decide) rfl passL (pa_cons (pv 0) (pa_cons (pv 1) pa_nil)))))
    pss_nil)
    (pss_cons (ps_if (pt_cmpR op_in_sign (pv 2) (C8.pe_gc rfl W.c_DIGITS) (by with_unfolding_all rfl))
    (pss_one (ps_ret (pe_cl c_number_token hr (by decide) rfl passD (pa_cons (pv 0) (pa_cons (pv 1) pa_nil)))))
    pss_nil)
    (pss_cons (ps_if (pt_cmpR op_eq (pv 2) (C8.pe_gc rfl W.c_QUOTE) (nomark _))
    (pss_one (ps_ret (pe_cl c_quoted_token hr (by decide) rfl passD (pa_cons (pv 0) (pa_cons (pv 1) pa_nil)))))
    pss_nil)
    (pss_cons (ps_set (i := 3) sc_token_at.nd rfl (Or.inl rfl) (pe_slice sl_str (pv 0) (po_some (pv 1)) (po_some (pe_op op_add (pv 1) pe_int))))
    (pss_cons (ps_if (pt_cmpR op_in_seq (pv 3) (C8.pe_gc rfl W.c_LONG_SIGNS) (by with_unfolding_all rfl))
    (pss_one (ps_ret (pe_tup (pa_cons (pe_mc c_Token hr (by decide) rfl passL (pa_cons (pv 3) (pa_cons (pv 3) (pa_cons (pv 1) pa_nil)))) (pa_cons (pe_op op_add (pv 1) pe_int) pa_nil)))))
    pss_nil)
    (pss_cons (ps_if (pt_cmpR op_in_seq (pv 2) (C8.pe_gc rfl W.c_SHORT_SIGNS) (by with_unfolding_all rfl))
    (pss_one (ps_ret (pe_tup (pa_cons (pe_mc c_Token hr (by decide) rfl passL (pa_cons (pv 2) (pa_cons (pv 2) (pa_cons (pv 1) pa_nil)))) (pa_cons (pe_op op_add (pv 1) pe_int) pa_nil)))))
    pss_nil)
    (pss_one (ps_raise rfl (takes_of rfl rfl rfl rfl) (SkE.pmk_own1 PySem.F.excBase_ValueError W.e_TextError.ox W.e_TextError.og W.e_TextError.ok (raises_own W.e_TextError.ob W.e_TextError.ot) rfl (pe_joined (PJ.cons pe_str (PJ.cons (pe_fmt (pv 1)) PJ.nil))))))))))))), ?_⟩
  walk_at "g"
  refine w_ixS hz (List.getElem?_eq_getElem hp) ?_
  walk_at "g"
  refine w_iteD (fun c1 => ?_) (fun c1 => ?_)
  · have d1 : isLet l[p] = true := decide_eq_true c1
    rw [if_pos d1, ← e2] at q
    walk_at "g"
    exact ⟨l, p, rfl, hl, by omega, q⟩
  have d1 : ¬ isLet l[p] = true := fun h => c1 (of_decide_eq_true h)
  rw [if_neg d1] at q
  walk_at "g"
  refine w_iteD (fun c2 => ?_) (fun c2 => ?_)
  · have d2 : isDig l[p] = true := decide_eq_true c2
    rw [if_pos d2] at q
    have h0 : 0 < run isDig (l.drop p) := by rw [e2, run_cons, if_pos d2]; omega
    rw [← e2] at q
    walk_at "g"
    refine ⟨l, p, rfl, hl, by omega, h0, ?_⟩
    by_cases c3 : 19 < run isDig (l.drop p)
    · rw [if_pos (.inl c3)]
      rw [if_pos c3] at q
      exact q _ (Same.refl _)
    · rw [if_neg c3] at q
      by_cases c4 : 9223372036854775807 < NumText.digitsVal ((l.drop p).take (run isDig (l.drop p)))
      · rw [if_pos (.inr c4)]
        rw [if_pos c4] at q
        exact q _ (Same.refl _)
      · rw [if_neg (by rintro (h | h) <;> contradiction)]
        rw [if_neg c4] at q
        exact q
  have d2 : ¬ isDig l[p] = true := fun h => c2 (of_decide_eq_true h)
  rw [if_neg d2] at q
  walk_at "g"
  refine w_iteD (fun c3 => ?_) (fun c3 => ?_)
  · have d3 : l[p] = 39 := (List.cons.inj c3).1
    rw [if_pos d3] at q
    walk_at "g"
    refine ⟨l, p, rfl, hl, hp, ?_⟩
    cases eq : quot (l.drop (p + 1)) with
    | none => rw [eq] at q; exact q
    | some sn =>
      rw [eq] at q
      obtain ⟨s, n⟩ := sn
      simp only [] at q ⊢
      by_cases c4 : ∀ x ∈ s, x ∈ alphabet
      · rw [if_pos c4] at q ⊢; exact q
      · rw [if_neg c4] at q ⊢; exact q
  have d3 : ¬ l[p] = 39 := fun h => c3 (by rw [h])
  rw [if_neg d3] at q
  walk_at "g"
  rw [show (p : Int) + 2 = ((p + 2 : Nat) : Int) from rfl]
  refine w_slS hz (by omega) ?_
  rw [show p + 2 - p = 2 by omega, e2]
  walk_at "g"
  refine w_inT (W.q_LONG_SIGNS _) ?_
  walk_at "g"
  refine w_iteD (fun c4 => ?_) (fun c4 => ?_)
  · rw [if_pos c4] at q
    walk_at "g"
    intro x dx hx hd ne
    refine ⟨x, dx, _, _, _, upd _ dx (.own x), rfl, rfl, rfl, ?_⟩
    walk_at "g"
    rw [show (p : Int) + 2 = ((p + 2 : Nat) : Int) from rfl]
    exact fun r hr => gives_of q hx hd ne hr
  rw [if_neg c4] at q
  walk_at "g"
  refine w_inT (W.q_SHORT_SIGNS _) ?_
  walk_at "g"
  refine w_iteD (fun c5 => ?_) (fun c5 => ?_)
  · rw [if_pos c5] at q
    walk_at "g"
    intro x dx hx hd ne
    refine ⟨x, dx, _, _, _, upd _ dx (.own x), rfl, rfl, rfl, ?_⟩
    walk_at "g"
    rw [show (p : Int) + 1 = ((p + 1 : Nat) : Int) from rfl]
    exact fun r hr => gives_of q hx hd ne hr
  rw [if_neg c5] at q
  walk_at "g"
  exact w_msg2 (n := p) (by decide +kernel) (by omega) rfl fun _ => q _ (Same.refl _)
end
end K04
end

section
-- part L04E
set_option Elab.async false
set_option linter.all false
set_option maxRecDepth 100000
set_option maxHeartbeats 800000
open PySem PySem.Spec PyProof.Rows L2 Fw
local macro_rules | `(tactic| walk_at "e1") => `(tactic| first
  | ((with_reducible refine' w_var ?hv ?_); (case hv => rfl))
  | with_reducible refine w_c ?_
  | with_reducible refine w_op ?_
  | with_reducible refine w_un ?_
  | with_reducible refine w_cons ?_
  | with_reducible refine w_nil ?_
  | with_reducible refine w_cl ?_
  | with_reducible refine w_cb ?_
  | with_reducible refine w_gname ?_
  | with_reducible refine w_gsub ?_
  | with_reducible refine w_test ?_
  | with_reducible refine w_B ?_
  | with_reducible refine w_bl ?_
  | with_reducible refine w_and ?_
  | with_reducible refine w_or ?_
  | with_reducible refine w_not ?_
  | with_reducible refine w_if ?_
  | with_reducible refine w_I0 ?_
  | with_reducible refine w_ipI ?_
  | with_reducible refine w_eqS ?_
  | with_reducible refine w_neS ?_
  | with_reducible refine w_eqI ?_
  | ((with_reducible refine w_eq ?hs ?_); (case hs => rfl))
  | ((with_reducible refine w_ne ?hs ?_); (case hs => rfl))
  | with_reducible refine w_fld ?_
  | with_reducible refine w_bm ?_
  | with_reducible refine w_bm0 ?_
  | with_reducible refine w_sl ?_
  | with_reducible refine w_part ?_
  | with_reducible refine w_partI ?_
  | with_reducible refine w_nopart ?_
  | ((with_reducible refine' w_ixL ?hh ?ha ?_); (case hh => first | assumption | exact upd_same); (case ha => rfl))
  | ((with_reducible refine' w_setLu ?ha ?_); (case ha => rfl))
  | ((with_reducible refine' w_setL ?hh ?ha ?_); (case hh => first | assumption | exact upd_same); (case ha => rfl))
  | with_reducible refine w_iteT ?_
  | with_reducible refine w_iteF ?_
  | with_reducible refine w_lst ?_
  | with_reducible refine w_tup ?_
  | ((with_reducible refine w_new ?hz ?_); (case hz => rfl))
  | with_reducible refine w_lc ?_
  | with_reducible refine w_iL ?_
  | with_reducible refine w_iT ?_
  | with_reducible refine w_iR1 ?_
  | with_reducible refine w_iR2 ?_
  | with_reducible refine w_yes ?_
  | with_reducible refine w_iStr ?_
  | with_reducible exact tyS
  | with_reducible refine And.intro tyS ?_
  | ((with_reducible refine w_find3 ?_); (first | rw [find3_one] | rw [starts3] | skip))
  | ((with_reducible refine w_2s ?_); (try rw [find_one]))
  | ((with_reducible refine w_inS ?_); rw [S_list])
  | ((with_reducible refine w_lenS ?hz ?_); (case hz => first | assumption | omega | decide); rw [SX.S_len])
  | ((with_reducible refine w_addS ?hz ?_); (case hz => first | assumption | omega | decide); rw [vS_cat])
  | with_reducible refine w_mk ?_
  | with_reducible refine w_me ?_
  | with_reducible refine w_sfld ?_
  | ((with_reducible refine' w_gtup ?hh ?hn ?_); (case hh => first | assumption | exact upd_same); (case hn => rfl))
  | with_reducible refine w_gcons ?_
  | with_reducible refine w_gnil ?_
  | with_reducible refine w_repl ?_
  | with_reducible refine w_chain ?_
  | with_reducible refine w_x1i ?_
  | with_reducible refine w_x1b ?_
  | with_reducible refine w_x1s ?_
  | with_reducible refine w_int1i ?_
  | with_reducible refine w_int1b ?_
  | ((with_reducible refine w_mod ?hc ?_); (case hc => omega))
  | ((with_reducible refine w_fdivW ?hc ?hd ?_); (case hc => omega); (case hd => omega))
  | ((with_reducible refine w_mul ?hc ?_); (case hc => first | exact Or.inr ⟨by decide, by decide⟩ | exact Or.inl ⟨by decide, by decide⟩))
  | ((with_reducible refine w_pow ?hc ?_); (case hc => exact ⟨by decide, by decide, by decide⟩)))
local macro_rules | `(tactic| walk_at "s1") => `(tactic| first
  | with_reducible refine w_seq ?_
  | with_reducible refine w_asg ?_
  | with_reducible refine w_ret ?_
  | with_reducible refine w_drop ?_
  | with_reducible refine w_next ?_
  | with_reducible refine w_ifs ?_
  | ((with_reducible refine' w_aug ?hv ?_); (case hv => rfl))
  | with_reducible refine w_for ?_
  | walk_at "e1")
local macro_rules | `(tactic| walk_at "e") => `(tactic| repeat walk_at "e1")
local macro_rules | `(tactic| walk_at "g") => `(tactic| repeat walk_at "s1")

namespace K04
open Lx
section
variable {P : Program} {w : World} {K : PySem.W.Frag} {mg : Str → Option Value} {base : Heap} {cTE cTk aL aS aK : Addr}
/-- the tokens stand at these addresses -/
def TokAll (C : Addr) (H : Hp) : List Addr → List (List Nat × V × Nat) → Prop := Paired fun x t => TokO C H x (.str (S t.1)) t.2.1 (.int (t.2.2 : Int))
theorem TokAll.up {C : Addr} {H H' : Hp} : ∀ {xs : List Addr} {ts : List (List Nat × V × Nat)}, TokAll C H xs ts → (∀ x ∈ xs, ∀ o, H x = some o → H' x = some o) → TokAll C H' xs ts
  | _, _, .nil, _ => .nil
  | _, _, .cons ⟨dx, h⟩ r, e => .cons ⟨dx, e _ List.mem_cons_self _ h⟩ (TokAll.up r fun x hx => e x (List.mem_cons_of_mem _ hx))
theorem TokAll.snoc {C : Addr} {H : Hp} {x : Addr} {t : List Nat × V × Nat} (h : TokO C H x (.str (S t.1)) t.2.1 (.int (t.2.2 : Int))) : ∀ {xs : List Addr} {ts : List (List Nat × V × Nat)}, TokAll C H xs ts → TokAll C H (xs ++ [x]) (ts ++ [t])
  | _, _, .nil => .cons h .nil
  | _, _, .cons a r => .cons a (TokAll.snoc h r)
theorem TokAll.ins {C : Addr} {H : Hp} : ∀ {xs : List Addr} {ts : List (List Nat × V × Nat)}, TokAll C H xs ts → ∀ x ∈ xs, ∃ dx fs, H x = some (.ins C dx fs)
  | _, _, .cons ⟨dx, h⟩ r, x, hx => by
    rcases List.mem_cons.mp hx with rfl | hx
    · exact ⟨dx, _, h⟩
    · exact TokAll.ins r x hx
def spTokenize (C T : Addr) : Sp := fun vs H Q E => ∃ (l : List Nat), vs = [.str (S l)] ∧ l.length ≤ 1000000 ∧
  match lex (l.length + 1) 0 l with
  | none => ∀ H', Same H H' → E (.ref T) none H'
  | some ts => ∀ (H' : Hp) (p : Addr) (xs : List Addr), Same H H' → H p = none → H' p = some (.lst (xs.map V.ref)) → TokAll C H' xs ts → (∀ x ∈ xs, H x = none) → ts.length ≤ l.length + 1 → Q (.ref p) H'
theorem ok_tokenize (W : Wt K mg cTE cTk aL aS aK) (c_gap_end : Cl P w K mg base 1 "gap_end" spGap) (c_token_at : Cl P w K mg base 5 "token_at" (spTokAt cTk cTE)) (c_Token : Mc P w K mg base 1 "Token" cTk (spInit cTk)) :
    Cl P w K mg base 6 "tokenize" (spTokenize cTk cTE) := by
  refine cl_mk W.d_tokenize sc_tokenize (fun _ _ _ _ _ _ us hl => match us, hl with | [_], _ => rfl) (fun vs H Q E h => ?_) (fun f cdv A outer s H vs Q E hr h => ?_)
  · obtain ⟨l, rfl, _⟩ := h; rfl
  obtain ⟨l, rfl, hl, q⟩ := h
  have hz := le_line hl
  refine ⟨_, (pss_cons (ps_set (i := 1) sc_tokenize.nd rfl (Or.inl rfl) (pe_lst pa_nil))
    (pss_cons (ps_set (i := 2) sc_tokenize.nd rfl (Or.inl rfl) (pe_cl c_gap_end hr (by decide) rfl passL (pa_cons (pv 0) (pa_cons pe_int pa_nil))))
    (pss_cons (ps_while (passes_of rfl) (pt_cmpR op_lt (pv 2) (pe_callB call_len_str rfl W.n_len PySem.boot_len (pa_cons (pv 0) pa_nil)) (nomark _))
    (pss_cons (ps_asg (pe_cl c_token_at hr (by decide) rfl passD (pa_cons (pv 0) (pa_cons (pv 2) pa_nil))) (pg_tup rfl (pgs_cons (pg_name (i := 3) sc_tokenize.nd rfl (Or.inl rfl)) (pgs_cons (pg_name (i := 2) sc_tokenize.nd rfl (Or.inl rfl)) pgs_nil))))
    (pss_cons (ps_expr (pe_bm PySem.F.plainAttrs_list PySem.F.slot_list_append PySem.F.type_list_append mt_append (pv 1) (pa_cons (pv 3) pa_nil)))
    (pss_one (ps_set (i := 2) sc_tokenize.nd rfl (Or.inl rfl) (pe_cl c_gap_end hr (by decide) rfl passL (pa_cons (pv 0) (pa_cons (pv 2) pa_nil))))))))
    (pss_cons (ps_expr (pe_bm PySem.F.plainAttrs_list PySem.F.slot_list_append PySem.F.type_list_append mt_append (pv 1) (pa_cons (pe_mc c_Token hr (by decide) rfl passL (pa_cons (C8.pe_gc rfl W.c_END) (pa_cons pe_non (pa_cons (pe_callB call_len_str rfl W.n_len PySem.boot_len (pa_cons (pv 0) pa_nil)) pa_nil)))) pa_nil)))
    (pss_one (ps_ret (pv 1))))))), ?_⟩
  walk_at "g"
  intro L hL
  walk_at "g"
  refine ⟨l, 0, rfl, hl, Nat.zero_le _, ?_⟩
  walk_at "g"
  refine w_while (fun m σ H' => ∃ (done : List (List Nat × V × Nat)) (xs : List Addr) (b f : Nat) (v : Option V), σ = [some (.str (S l)), some (.ref L), some (.int ((b + gap false (l.drop b) : Nat) : Int)), v] ∧ H' L = some (.lst (xs.map V.ref)) ∧ Same H H' ∧
      TokAll cTk H' xs done ∧ (∀ x ∈ xs, H x = none) ∧ b ≤ l.length ∧ l.length - b < f ∧ lex (l.length + 1) 0 l = (lex f b (l.drop b)).map (done ++ ·) ∧ done.length ≤ b ∧ m = f)
    (l.length + 1) ⟨[], [], 0, l.length + 1, none, ?_, upd_same, same_new hL _, .nil, (fun x hx => absurd hx List.not_mem_nil), Nat.zero_le _, by omega, ?_, Nat.zero_le _, rfl⟩ ?_
  · rfl
  · rw [List.drop_zero]
    cases lex (l.length + 1) 0 l with
    | none => rfl
    | some ts => rfl
  rintro m σ H' ⟨done, xs, b, f, v, rfl, eL, sH, tA, fr, hb, hf, el, hd, rfl⟩
  have hg := gap_le false (l.drop b)
  rw [List.length_drop] at hg
  obtain ⟨f', rfl⟩ : ∃ f', m = f' + 1 := ⟨m - 1, by omega⟩
  have edd : (l.drop b).drop (gap false (l.drop b)) = l.drop (b + gap false (l.drop b)) := by rw [List.drop_drop]
  walk_at "g"
  refine w_iteD (fun c1 => ?_) (fun c1 => ?_)
  · have hlt : b + gap false (l.drop b) < l.length := by
      have c2 : ((b + gap false (l.drop b) : Nat) : Int) < (l.length : Int) := c1
      omega
    have hne : (l.drop b).drop (gap false (l.drop b)) ≠ [] := by rw [edd, drop_get hlt]; exact List.cons_ne_nil _ _
    cases et : tokAt (l.drop (b + gap false (l.drop b))) with
    | none =>
      rw [lex_bad hne (by rw [edd]; exact et)] at el
      rw [el] at q
      refine ⟨fun _ _ => False, fun _ _ n => n.elim, ?_⟩
      walk_at "g"
      refine ⟨l, _, rfl, hl, hlt, ?_⟩
      rw [et]
      exact fun H2 s2 => q H2 (sH.trans s2)
    | some t =>
      obtain ⟨tw, tv, n⟩ := t
      rw [lex_step hne (by rw [edd]; exact et)] at el
      have hn := tokAt_len et
      rw [List.length_drop] at hn
      have e3 : (l.drop b).drop (gap false (l.drop b) + n) = l.drop (b + gap false (l.drop b) + n) := by rw [List.drop_drop, Nat.add_assoc]
      rw [e3] at el
      refine ⟨fun σ' H2 => ∃ (x : Addr) (v' : Option V), σ' = [some (.str (S l)), some (.ref L), some (.int ((b + gap false (l.drop b) + n + gap false (l.drop (b + gap false (l.drop b) + n)) : Nat) : Int)), v'] ∧ H2 L = some (.lst ((xs ++ [x]).map V.ref)) ∧ Same H H2 ∧
        TokAll cTk H2 (xs ++ [x]) (done ++ [(tw, tv, b + gap false (l.drop b))]) ∧ H x = none, ?_, ?_⟩
      · rintro σ' H2 ⟨x, v', rfl, e4, e5, e6, e7⟩
        refine ⟨f', Nat.lt_succ_self _, done ++ [(tw, tv, b + gap false (l.drop b))], xs ++ [x], b + gap false (l.drop b) + n, f', v', rfl, e4, e5, e6, ?_, by omega, by omega, ?_, ?_, rfl⟩
        · intro y hy
          rcases List.mem_append.mp hy with hy | hy
          · exact fr y hy
          · rw [List.mem_singleton.mp hy]; exact e7
        · rw [el, Option.map_map]
          congr 1
          funext ts
          show done ++ ((tw, tv, b + gap false (l.drop b)) :: ts) = (done ++ [(tw, tv, b + gap false (l.drop b))]) ++ ts
          rw [List.append_assoc]; rfl
        · rw [List.length_append, List.length_singleton]
          omega
      · walk_at "g"
        refine ⟨l, _, rfl, hl, hlt, ?_⟩
        rw [et]
        intro H2 x r s2 hx tx hr2
        walk_at "g"
        have neL : ∀ {y : Addr} {dy : Addr} {fs : List (Str × V)} {G : Hp}, G y = some (.ins cTk dy fs) → G L = some (.lst (xs.map V.ref)) → y ≠ L := fun e1 e2 z => by
          subst z; rw [e1] at e2; cases e2
        have eL2 := s2 _ _ eL
        refine ⟨tyL eL2, ?_⟩
        walk_at "g"
        refine w_app eL2 (by rw [List.length_map, tA.length]; exact Nat.lt_of_le_of_lt (Nat.le_trans hd (Nat.le_trans hb hl)) (by decide)) ?_
        walk_at "g"
        refine ⟨l, b + gap false (l.drop b) + n, rfl, hl, by omega, ?_⟩
        walk_at "g"
        obtain ⟨dx, tx⟩ := tx
        have nx : x ≠ L := neL tx eL2
        refine ⟨x, _, rfl, by rw [upd_same, List.map_append]; rfl, same_upd (sH.trans s2) hL, ?_, sH.free hx⟩
        refine TokAll.snoc (t := (tw, tv, b + gap false (l.drop b))) ⟨dx, by rw [upd_ne nx]; exact tx⟩ (TokAll.up tA fun y hy o e => ?_)
        obtain ⟨dy, fs, ey⟩ := tA.ins y hy
        rw [upd_ne (neL ey eL)]
        exact s2 _ _ e
  · have hge : b + gap false (l.drop b) = l.length := by
      have c2 : ¬ ((b + gap false (l.drop b) : Nat) : Int) < (l.length : Int) := c1
      omega
    have ed : lex (f' + 1) b (l.drop b) = some [(sEnd, .non, b + gap false (l.drop b))] := lex_done (by rw [edd, hge]; exact List.drop_eq_nil_of_le (Nat.le_refl _))
    rw [ed] at el
    rw [el] at q
    simp only [Option.map_some] at q
    walk_at "g"
    refine ⟨tyL eL, ?_⟩
    walk_at "g"
    intro x dx hx hdx ne
    refine ⟨x, dx, _, _, _, upd _ dx (.own x), rfl, rfl, rfl, ?_⟩
    walk_at "g"
    have nx : L ≠ x := ne_of_none eL hx
    have nd : L ≠ dx := ne_of_none eL hdx
    refine w_app (by rw [upd_ne nx, upd_ne nd]; exact eL) (by rw [List.length_map, tA.length]; exact Nat.lt_of_le_of_lt (Nat.le_trans hd (Nat.le_trans hb hl)) (by decide)) ?_
    walk_at "g"
    have s3 : Same H' (upd (upd H' dx (.own x)) x (.ins cTk dx (tokF (.str (S sEnd)) .non (.int (l.length : Int))))) := fun b o e => by
      rw [upd_ne (ne_of_none e hx), upd_ne (ne_of_none e hdx)]; exact e
    refine q _ L (xs ++ [x]) (same_upd (sH.trans s3) hL) hL (by rw [upd_same, List.map_append]; rfl) (TokAll.snoc (t := (sEnd, .non, b + gap false (l.drop b))) ⟨dx, by rw [upd_ne nx.symm, upd_same, hge]⟩ (TokAll.up tA fun y hy o e => ?_)) ?_ ?_
    · obtain ⟨dy, fs, ey⟩ := tA.ins y hy
      have ny : y ≠ L := fun z => by subst z; rw [ey] at eL; cases eL
      rw [upd_ne ny]
      exact s3 _ _ e
    · intro y hy
      rcases List.mem_append.mp hy with hy | hy
      · exact fr y hy
      · rw [List.mem_singleton.mp hy]; exact sH.free hx
    · rw [List.length_append, List.length_singleton]
      omega
end
end K04
end

section
-- part K04B
set_option Elab.async false
set_option linter.all false
set_option maxRecDepth 100000
set_option maxHeartbeats 800000
open PySem PySem.Spec PyProof.Rows L2 Fw
local macro_rules | `(tactic| walk_at "e1") => `(tactic| first
  | ((with_reducible refine' w_var ?hv ?_); (case hv => rfl))
  | ((with_reducible refine' K04.w_ixA ?hh ?ha ?_); (case hh => first | assumption | exact upd_same); (case ha => rfl))
  | ((with_reducible refine' K04.w_eqLF ?hl ?_); (case hl => decide +kernel))
  | ((with_reducible refine' K04.w_eqLT ?hl ?_); (case hl => rfl))
  | ((with_reducible refine' K04.w_neLF ?hl ?_); (case hl => decide +kernel))
  | ((with_reducible refine' K04.w_neLT ?hl ?_); (case hl => rfl))
  | with_reducible refine K04.w_isNV ?_
  | with_reducible refine K04.w_notNV ?_
  | ((with_reducible refine' K04.w_modZ ?hc ?_); (case hc => assumption))
  | ((with_reducible refine' K04.w_divZ ?hc ?_); (case hc => assumption))
  | with_reducible refine K04.w_ckw ?_
  | with_reducible refine GnK.w_anyK ?_
  | with_reducible refine Fw.w_notV ?_
  | with_reducible refine F24.w_iZipM ?_
  | with_reducible refine F24.w_iZipA ?_
  | with_reducible refine Fge.w_cld ?_
  | with_reducible refine w_c ?_
  | with_reducible refine w_op ?_
  | with_reducible refine w_un ?_
  | with_reducible refine w_cons ?_
  | with_reducible refine w_nil ?_
  | with_reducible refine w_cl ?_
  | with_reducible refine w_cb ?_
  | with_reducible refine w_gname ?_
  | with_reducible refine w_gsub ?_
  | with_reducible refine w_test ?_
  | with_reducible refine w_B ?_
  | with_reducible refine w_bl ?_
  | with_reducible refine w_and ?_
  | with_reducible refine w_or ?_
  | with_reducible refine w_not ?_
  | with_reducible refine w_if ?_
  | with_reducible refine w_I0 ?_
  | with_reducible refine Gk.w_rU ?_
  | with_reducible refine Dq.w_orV ?_
  | with_reducible refine Dq.w_js ?_
  | with_reducible refine Dq.w_js0 ?_
  | with_reducible refine Dq.w_fm ?_
  | with_reducible refine Dq.w_andV ?_
  | with_reducible refine Gk.w_iEnum ?_
  | with_reducible refine Dq.w_dget ?_
  | with_reducible refine Dq.w_dpop1 ?_
  | with_reducible refine Dq.w_ddel ?_
  | with_reducible refine Dq.w_din ?_
  | with_reducible refine Dq.w_dnotin ?_
  | with_reducible refine Dq.w_dget2 ?_
  | with_reducible refine Dq.w_dnew ?_
  | with_reducible refine Dq.w_fldaug ?_
  | with_reducible refine Dq.w_aSub ?_
  | with_reducible refine Dq.w_aAdd ?_
  | with_reducible refine Dq.w_mkd ?_
  | with_reducible refine Dq.w_notN0 ?_
  | with_reducible refine Dq.w_isN0 ?_
  | with_reducible refine Ftw.w_isTI ?_
  | with_reducible refine Ftw.w_isTS ?_
  | with_reducible refine Ftw.w_isTR ?_
  | with_reducible refine Ftw.w_isTN ?_
  | with_reducible refine Ftw.w_isTtt ?_
  | with_reducible refine Ftw.w_isTft ?_
  | with_reducible refine Ftw.w_isTtf ?_
  | with_reducible refine Ftw.w_isNS ?_
  | with_reducible refine Ftw.w_isNB ?_
  | ((with_reducible refine' Ftw.w_isiRS ?hq ?_); (case hq => assumption))
  | ((with_reducible refine' Ftw.w_isiRT ?hq ?_); (case hq => assumption))
  | ((with_reducible refine' Ftw.w_isiRI ?hq ?_); (case hq => assumption))
  | with_reducible refine Ftw.w_isiIT ?_
  | with_reducible refine Ftw.w_isiII ?_
  | with_reducible refine Dq.w_notNR ?_
  | with_reducible refine Dq.w_isNR ?_
  | with_reducible refine Dq.w_notNI ?_
  | with_reducible refine Dq.w_isNI ?_
  | with_reducible refine L2.w_neOs ?_
  | with_reducible refine w_ipI ?_
  | with_reducible refine w_eqS ?_
  | with_reducible refine w_neS ?_
  | with_reducible refine w_eqI ?_
  | with_reducible refine w_neI ?_
  | with_reducible refine w_eqB ?_
  | with_reducible refine w_neB ?_
  | ((with_reducible refine w_eq ?hs ?_); (case hs => rfl))
  | ((with_reducible refine w_ne ?hs ?_); (case hs => rfl))
  | with_reducible refine w_fld ?_
  | with_reducible refine w_bm ?_
  | with_reducible refine w_bm0 ?_
  | with_reducible refine w_sl ?_
  | with_reducible refine w_part ?_
  | with_reducible refine w_partI ?_
  | with_reducible refine w_nopart ?_
  | ((with_reducible refine' w_ixL ?hh ?ha ?_); (case hh => first | assumption | exact upd_same); (case ha => rfl))
  | ((with_reducible refine' w_setLu ?ha ?_); (case ha => rfl))
  | ((with_reducible refine' w_setL ?hh ?ha ?_); (case hh => first | assumption | exact upd_same); (case ha => rfl))
  | with_reducible refine w_iteT ?_
  | with_reducible refine w_iteF ?_
  | with_reducible refine w_lst ?_
  | with_reducible refine w_tup ?_
  | ((with_reducible refine w_new ?hz ?_); (case hz => rfl))
  | with_reducible refine w_lc ?_
  | with_reducible refine w_iL ?_
  | with_reducible refine w_iT ?_
  | with_reducible refine w_iR1 ?_
  | with_reducible refine w_iR2 ?_
  | with_reducible refine w_yes ?_
  | with_reducible refine w_iStr ?_
  | with_reducible exact tyS
  | with_reducible refine And.intro tyS ?_
  | ((with_reducible refine w_find3 ?_); (first | rw [find3_one] | rw [starts3] | skip))
  | ((with_reducible refine w_2s ?_); (try rw [find_one]))
  | ((with_reducible refine w_inS ?_); rw [S_list])
  | ((with_reducible refine w_lenS ?hz ?_); (case hz => first | assumption | omega | decide); rw [SX.S_len])
  | ((with_reducible refine w_addS ?hz ?_); (case hz => first | assumption | omega | decide); rw [vS_cat])
  | with_reducible refine w_mk ?_
  | with_reducible refine w_me ?_
  | with_reducible refine w_sfld ?_
  | ((with_reducible refine' w_gtup ?hh ?hn ?_); (case hh => first | assumption | exact upd_same); (case hn => rfl))
  | with_reducible refine w_gcons ?_
  | with_reducible refine w_gnil ?_
  | with_reducible refine w_repl ?_
  | with_reducible refine w_star ?_
  | with_reducible refine w_revL ?_
  | with_reducible refine w_isiS ?_
  | with_reducible refine w_isiI ?_
  | with_reducible refine w_isiN ?_
  | with_reducible refine w_chain ?_
  | with_reducible refine w_iEnumT ?_
  | with_reducible refine w_iZip3 ?_
  | with_reducible refine w_iZip ?_
  | with_reducible refine w_lenR3 ?_
  | with_reducible refine w_x1i ?_
  | with_reducible refine w_x1b ?_
  | with_reducible refine w_x1s ?_
  | with_reducible refine w_int1i ?_
  | with_reducible refine w_int1b ?_
  | ((with_reducible refine w_mod ?hc ?_); (case hc => omega))
  | ((with_reducible refine w_fdivW ?hc ?hd ?_); (case hc => omega); (case hd => omega))
  | ((with_reducible refine w_mul ?hc ?_); (case hc => first | exact Or.inr ⟨by decide, by decide⟩ | exact Or.inl ⟨by decide, by decide⟩))
  | ((with_reducible refine w_pow ?hc ?_); (case hc => exact ⟨by decide, by decide, by decide⟩)))
local macro_rules | `(tactic| walk_at "f1") => `(tactic| first
  | walk_at "e1")
local macro_rules | `(tactic| walk_at "s1") => `(tactic| first
  | with_reducible refine w_seq ?_
  | with_reducible refine w_asg ?_
  | with_reducible refine w_ret ?_
  | with_reducible refine w_par ?_
  | with_reducible refine w_drop ?_
  | with_reducible refine w_next ?_
  | with_reducible refine w_ifs ?_
  | ((with_reducible refine' w_aug ?hv ?_); (case hv => rfl))
  | with_reducible refine w_for ?_
  | walk_at "f1")
local macro_rules | `(tactic| walk_at "e") => `(tactic| repeat walk_at "e1")
local macro_rules | `(tactic| walk_at "g") => `(tactic| repeat walk_at "s1")
local macro_rules | `(tactic| walk_at "n1") => `(tactic| ((fail_if_success (with_reducible refine w_if ?_)); walk_at "s1"))
local macro_rules | `(tactic| walk_at "n") => `(tactic| repeat walk_at "n1")
local macro_rules | `(tactic| walk_at "p1") => `(tactic| ((fail_if_success (with_reducible refine w_ifs ?_)); walk_at "s1"))
local macro_rules | `(tactic| walk_at "p") => `(tactic| repeat walk_at "p1")
local macro_rules | `(tactic| walk_at "q1") => `(tactic| ((fail_if_success (with_reducible refine w_seq ?_)); walk_at "s1"))
local macro_rules | `(tactic| walk_at "q") => `(tactic| repeat walk_at "q1")

namespace K04
open Dc M24 M5
-- kind_of: 0:value
theorem sc_kind_of : FnScope ["value"] ["value"] (defScope s_kind_of) := ⟨rfl, rfl, rfl, by decide +kernel, rfl, by decide +kernel, by decide +kernel⟩
-- in_range: 0:number
theorem sc_in_range : FnScope ["number"] ["number"] (defScope s_in_range) := ⟨rfl, rfl, rfl, by decide +kernel, rfl, by decide +kernel, by decide +kernel⟩
-- rank: 0:value
theorem sc_rank : FnScope ["value"] ["value"] (defScope s_rank) := ⟨rfl, rfl, rfl, by decide +kernel, rfl, by decide +kernel, by decide +kernel⟩
-- row_rank: 0:row 1:value
theorem sc_row_rank : FnScope ["row", "value"] ["row"] (defScope s_row_rank) := ⟨rfl, rfl, rfl, by decide +kernel, rfl, by decide +kernel, by decide +kernel⟩
-- same_kind: 0:one 1:other
theorem sc_same_kind : FnScope ["one", "other"] ["one", "other"] (defScope s_same_kind) := ⟨rfl, rfl, rfl, by decide +kernel, rfl, by decide +kernel, by decide +kernel⟩
-- compare: 0:sign 1:one 2:other
theorem sc_compare : FnScope ["sign", "one", "other"] ["sign", "one", "other"] (defScope s_compare) := ⟨rfl, rfl, rfl, by decide +kernel, rfl, by decide +kernel, by decide +kernel⟩
-- arithmetic: 0:sign 1:one 2:other 3:value
theorem sc_arithmetic : FnScope ["sign", "one", "other", "value"] ["sign", "one", "other"] (defScope s_arithmetic) := ⟨rfl, rfl, rfl, by decide +kernel, rfl, by decide +kernel, by decide +kernel⟩
-- concat: 0:one 1:other 2:value
theorem sc_concat : FnScope ["one", "other", "value"] ["one", "other"] (defScope s_concat) := ⟨rfl, rfl, rfl, by decide +kernel, rfl, by decide +kernel, by decide +kernel⟩
-- both: 0:one 1:other
theorem sc_both : FnScope ["one", "other"] ["one", "other"] (defScope s_both) := ⟨rfl, rfl, rfl, by decide +kernel, rfl, by decide +kernel, by decide +kernel⟩
-- either: 0:one 1:other
theorem sc_either : FnScope ["one", "other"] ["one", "other"] (defScope s_either) := ⟨rfl, rfl, rfl, by decide +kernel, rfl, by decide +kernel, by decide +kernel⟩
-- negated: 0:truth
theorem sc_negated : FnScope ["truth"] ["truth"] (defScope s_negated) := ⟨rfl, rfl, rfl, by decide +kernel, rfl, by decide +kernel, by decide +kernel⟩
-- like: 0:text 1:pattern 2:value 3:states 4:sign
theorem sc_like : FnScope ["text", "pattern", "value", "states", "sign"] ["text", "pattern"] (defScope s_like) := ⟨rfl, rfl, rfl, by decide +kernel, rfl, by decide +kernel, by decide +kernel⟩
-- closed: 0:states 1:pattern 2:found 3:state 4:place
theorem sc_closed : FnScope ["states", "pattern", "found", "state", "place"] ["states", "pattern"] (defScope s_closed) := ⟨rfl, rfl, rfl, by decide +kernel, rfl, by decide +kernel, by decide +kernel⟩
-- stepped: 0:states 1:sign 2:pattern 3:found 4:place
theorem sc_stepped : FnScope ["states", "sign", "pattern", "found", "place"] ["states", "sign", "pattern"] (defScope s_stepped) := ⟨rfl, rfl, rfl, by decide +kernel, rfl, by decide +kernel, by decide +kernel⟩
-- value_text: 0:value
theorem sc_value_text : FnScope ["value"] ["value"] (defScope s_value_text) := ⟨rfl, rfl, rfl, by decide +kernel, rfl, by decide +kernel, by decide +kernel⟩
-- quoted: 0:text
theorem sc_quoted : FnScope ["text"] ["text"] (defScope s_quoted) := ⟨rfl, rfl, rfl, by decide +kernel, rfl, by decide +kernel, by decide +kernel⟩
-- sum_of: 0:values 1:known 2:value
theorem sc_sum_of : FnScope ["values", "known", "value"] ["values"] (defScope s_sum_of) := ⟨rfl, rfl, rfl, by decide +kernel, rfl, by decide +kernel, by decide +kernel⟩
-- least_of: 0:values 1:greatest 2:known 3:value
theorem sc_least_of : FnScope ["values", "greatest", "known", "value"] ["values", "greatest"] (defScope s_least_of) := ⟨rfl, rfl, rfl, by decide +kernel, rfl, by decide +kernel, by decide +kernel⟩
-- _law_told: 0:what
theorem sc__law_told : FnScope ["what"] ["what"] (defScope s__law_told) := ⟨rfl, rfl, rfl, by decide +kernel, rfl, by decide +kernel, by decide +kernel⟩
-- _law_rank: 0:value
theorem sc__law_rank : FnScope ["value"] ["value"] (defScope s__law_rank) := ⟨rfl, rfl, rfl, by decide +kernel, rfl, by decide +kernel, by decide +kernel⟩
-- _law_and: 0:one 1:other
theorem sc__law_and : FnScope ["one", "other"] ["one", "other"] (defScope s__law_and) := ⟨rfl, rfl, rfl, by decide +kernel, rfl, by decide +kernel, by decide +kernel⟩
-- _law_not: 0:truth
theorem sc__law_not : FnScope ["truth"] ["truth"] (defScope s__law_not) := ⟨rfl, rfl, rfl, by decide +kernel, rfl, by decide +kernel, by decide +kernel⟩
-- _law_number: 0:sign 1:one 2:other 3:found
theorem sc__law_number : FnScope ["sign", "one", "other", "found"] ["sign", "one", "other"] (defScope s__law_number) := ⟨rfl, rfl, rfl, by decide +kernel, rfl, by decide +kernel, by decide +kernel⟩
-- _law_cmp: 0:sign 1:one 2:other
theorem sc__law_cmp : FnScope ["sign", "one", "other"] ["sign", "one", "other"] (defScope s__law_cmp) := ⟨rfl, rfl, rfl, by decide +kernel, rfl, by decide +kernel, by decide +kernel⟩
-- _law_like: 0:text 1:pattern 2:k
theorem sc__law_like : FnScope ["text", "pattern", "k"] ["text", "pattern"] (defScope s__law_like) := ⟨rfl, rfl, rfl, by decide +kernel, rfl, by decide +kernel, by decide +kernel⟩
-- _law_value_drawn: 0:dice 1:sort 2:k
theorem sc__law_value_drawn : FnScope ["dice", "sort", "k"] ["dice"] (defScope s__law_value_drawn) := ⟨rfl, rfl, rfl, by decide +kernel, rfl, by decide +kernel, by decide +kernel⟩
-- _law_sort: 0:value
theorem sc__law_sort : FnScope ["value"] ["value"] (defScope s__law_sort) := ⟨rfl, rfl, rfl, by decide +kernel, rfl, by decide +kernel, by decide +kernel⟩
-- law: 0:script 1:dice 2:one 3:other 4:fit 5:sign 6:told_now 7:truths 8:k 9:values 10:numbers 11:value 12:known 13:due 14:tree
theorem sc_law : FnScope ["script", "dice", "one", "other", "fit", "sign", "told_now", "truths", "k", "values", "numbers", "value", "known", "due", "tree"] ["script"] (defScope s_law) := ⟨rfl, rfl, rfl, by decide +kernel, rfl, by decide +kernel, by decide +kernel⟩
/-- the values' part -/
structure Wv (K : PySem.W.Frag) (mg : Str → Option Value) (cTE cTk aL aS aK cKF : Addr) : Prop extends Wt K mg cTE cTk aL aS aK where
  n_isinstance : mg "isinstance" = none
  n_tuple : mg "tuple" = none
  n_sorted : mg "sorted" = none
  n_max : mg "max" = none
  n_min : mg "min" = none
  n_sum : mg "sum" = none
  n_any : mg "any" = none
  e_KindFault : Ex K mg "KindFault" cKF
  c_ANY_SIGN : Ct mg "ANY_SIGN" [95]
  c_ANY_TEXT : Ct mg "ANY_TEXT" [42]
  d_kind_of : FnP K mg "kind_of" s_kind_of
  d_in_range : FnP K mg "in_range" s_in_range
  d_rank : FnP K mg "rank" s_rank
  d_row_rank : FnP K mg "row_rank" s_row_rank
  d_same_kind : FnP K mg "same_kind" s_same_kind
  d_compare : FnP K mg "compare" s_compare
  d_arithmetic : FnP K mg "arithmetic" s_arithmetic
  d_concat : FnP K mg "concat" s_concat
  d_both : FnP K mg "both" s_both
  d_either : FnP K mg "either" s_either
  d_negated : FnP K mg "negated" s_negated
  d_like : FnP K mg "like" s_like
  d_closed : FnP K mg "closed" s_closed
  d_stepped : FnP K mg "stepped" s_stepped
  d_value_text : FnP K mg "value_text" s_value_text
  d_quoted : FnP K mg "quoted" s_quoted
  d_sum_of : FnP K mg "sum_of" s_sum_of
  d_least_of : FnP K mg "least_of" s_least_of
  d__law_rank : FnP K mg "_law_rank" s__law_rank
  d__law_and : FnP K mg "_law_and" s__law_and
  d__law_not : FnP K mg "_law_not" s__law_not
  d__law_number : FnP K mg "_law_number" s__law_number
  d__law_cmp : FnP K mg "_law_cmp" s__law_cmp
  d__law_like : FnP K mg "_law_like" s__law_like
  d__law_value_drawn : FnP K mg "_law_value_drawn" s__law_value_drawn
  d__law_sort : FnP K mg "_law_sort" s__law_sort
def spKind : Sp := fun vs H Q _ => ∃ v : RV, vs = [vV v] ∧ Q (.str (kindS v)) H
def spRange : Sp := fun vs H Q _ => ∃ n : Int, vs = [.int n] ∧ Q (inR n) H
def spRank : Sp := fun vs H Q _ => ∃ v : RV, vs = [vV v] ∧ ∀ p, H p = none → Q (.ref p) (upd H p (.tup (rkV v)))
def spSame (C : Addr) : Sp := fun vs H Q E => ∃ u v : RV, vs = [vV u, vV v] ∧ (Fit u v → Q .non H) ∧ (¬ Fit u v → E (.ref C) none H)
def spComp (C : Addr) : Sp := fun vs H Q E => ∃ (g : Sg) (u v : RV), vs = [.str (sgS g), vV u, vV v] ∧ (Fit u v → Q (oV (cmpV g u v)) H) ∧ (¬ Fit u v → E (.ref C) none H)
def spArith (C : Addr) : Sp := fun vs H Q E => ∃ (g : Ar) (u v : RV), vs = [.str (arS g), vV u, vV v] ∧ okN u ∧ okN v ∧ (isT u = false ∧ isT v = false → ∀ H', Same H H' → Q (arV g u v) H') ∧ (isT u = true ∨ isT v = true → ∀ H', Same H H' → E (.ref C) none H')
def catV : RV → RV → V
  | .txt a, .txt b => .str (S (a ++ b))
  | _, _ => .non
def spCat (C : Addr) : Sp := fun vs H Q E => ∃ (u v : RV), vs = [vV u, vV v] ∧ (∀ l, u = .txt l ∨ v = .txt l → l.length ≤ 1000) ∧ (isI u = false ∧ isI v = false → ∀ H', Same H H' → Q (catV u v) H') ∧ (isI u = true ∨ isI v = true → ∀ H', Same H H' → E (.ref C) none H')
def spBoth : Sp := fun vs H Q _ => ∃ x y : Option Bool, vs = [oV x, oV y] ∧ Q (oV (and3 x y)) H
def spEither : Sp := fun vs H Q _ => ∃ x y : Option Bool, vs = [oV x, oV y] ∧ Q (oV (or3 x y)) H
def spNot : Sp := fun vs H Q _ => ∃ x : Option Bool, vs = [oV x] ∧ Q (oV (not3 x)) H
section
variable {P : Program} {w : World} {K : PySem.W.Frag} {mg : Str → Option Value} {base : Heap} {cTE cTk aL aS aK cKF : Addr}
theorem ok_kind_of (W : Wv K mg cTE cTk aL aS aK cKF) : Cl P w K mg base 1 "kind_of" spKind := by
  refine cl_mk W.d_kind_of sc_kind_of (fun _ _ _ _ _ _ us hl => match us, hl with | [_], _ => rfl) (fun vs H Q E h => ?_) (fun f cdv A outer s H vs Q E hr h => ?_)
  · obtain ⟨v, rfl, _⟩ := h; rfl
  obtain ⟨v, rfl, q⟩ := h
  refine ⟨_, (pss_cons (ps_if (pt_cmpR op_isN1 (pv 0) pe_non (nomark _))
    (pss_one (ps_ret pe_str))
    pss_nil)
    (pss_cons (ps_if (pt_val (pe_callB L2.call_isi rfl W.n_isinstance PyProof.Rows.boot_isinstance (pa_cons (pv 0) (pa_cons (pe_bltn (v := .ty "str") rfl W.n_str (by decide +kernel) rfl) pa_nil))))
    (pss_one (ps_ret pe_str))
    pss_nil)
    (pss_one (ps_ret pe_str)))), ?_⟩
  cases v with
  | non =>
    rw [show vV .non = V.non from rfl]
    walk_at "g"
    exact q
  | txt l =>
    rw [show vV (.txt l) = V.str (S l) from rfl]
    walk_at "g"
    exact q
  | num n =>
    rw [show vV (.num n) = V.int n from rfl]
    walk_at "g"
    exact q
theorem ok_in_range (W : Wv K mg cTE cTk aL aS aK cKF) : Cl P w K mg base 1 "in_range" spRange := by
  refine cl_mk W.d_in_range sc_in_range (fun _ _ _ _ _ _ us hl => match us, hl with | [_], _ => rfl) (fun vs H Q E h => ?_) (fun f cdv A outer s H vs Q E hr h => ?_)
  · obtain ⟨v, rfl, _⟩ := h; rfl
  obtain ⟨n, rfl, q⟩ := h
  refine ⟨_, (pss_cons (ps_if (pt_chain op_le op_le (pe_op op_sub pe_int (C8.pe_gc rfl W.c_HIGHEST)) (pv 0) (C8.pe_gc rfl W.c_HIGHEST))
    (pss_one (ps_ret (pv 0)))
    pss_nil)
    (pss_one (ps_ret pe_non))), ?_⟩
  unfold inR HI at q
  walk_at "g"
  refine w_iteD (fun c1 => ?_) (fun c1 => ?_)
  · walk_at "g"
    refine w_iteD (fun c2 => ?_) (fun c2 => ?_)
    · rw [if_pos ⟨by omega, c2⟩] at q
      walk_at "g"
      exact q
    · rw [if_neg (fun h => c2 h.2)] at q
      walk_at "g"
      exact q
  · rw [if_neg (fun h => c1 (by omega))] at q
    walk_at "g"
    exact q
theorem ok_rank (W : Wv K mg cTE cTk aL aS aK cKF) : Cl P w K mg base 1 "rank" spRank := by
  refine cl_mk W.d_rank sc_rank (fun _ _ _ _ _ _ us hl => match us, hl with | [_], _ => rfl) (fun vs H Q E h => ?_) (fun f cdv A outer s H vs Q E hr h => ?_)
  · obtain ⟨v, rfl, _⟩ := h; rfl
  obtain ⟨v, rfl, q⟩ := h
  refine ⟨_, (pss_cons (ps_if (pt_cmpR op_isN1 (pv 0) pe_non (nomark _))
    (pss_one (ps_ret (pe_tup (pa_cons pe_int (pa_cons pe_int pa_nil)))))
    pss_nil)
    (pss_cons (ps_if (pt_val (pe_callB L2.call_isi rfl W.n_isinstance PyProof.Rows.boot_isinstance (pa_cons (pv 0) (pa_cons (pe_bltn (v := .ty "str") rfl W.n_str (by decide +kernel) rfl) pa_nil))))
    (pss_one (ps_ret (pe_tup (pa_cons pe_int (pa_cons (pv 0) pa_nil)))))
    pss_nil)
    (pss_one (ps_ret (pe_tup (pa_cons pe_int (pa_cons (pv 0) pa_nil))))))), ?_⟩
  cases v with
  | non =>
    rw [show vV .non = V.non from rfl]
    walk_at "g"
    exact q
  | txt l =>
    rw [show vV (.txt l) = V.str (S l) from rfl]
    walk_at "g"
    exact q
  | num n =>
    rw [show vV (.num n) = V.int n from rfl]
    walk_at "g"
    exact q
theorem ok_same_kind (W : Wv K mg cTE cTk aL aS aK cKF) (c_kind_of : Cl P w K mg base 1 "kind_of" spKind) : Cl P w K mg base 2 "same_kind" (spSame cKF) := by
  refine cl_mk W.d_same_kind sc_same_kind (fun _ _ _ _ _ _ us hl => match us, hl with | [_, _], _ => rfl) (fun vs H Q E h => ?_) (fun f cdv A outer s H vs Q E hr h => ?_)
  · obtain ⟨u, v, rfl, _⟩ := h; rfl
  obtain ⟨u, v, rfl, q1, q2⟩ := h
  refine ⟨_, (pss_one (ps_if (PW.pt (pw_and (pt_cmpR op_notN1 (pv 0) pe_non (nomark _)) (pw_and (pt_cmpR op_notN1 (pv 1) pe_non (nomark _)) (pw_and1 (pt_cmpR op_ne (pe_cl c_kind_of hr (by decide) rfl passL (pa_cons (pv 0) pa_nil)) (pe_cl c_kind_of hr (by decide) rfl passL (pa_cons (pv 1) pa_nil)) (nomark _))))))
    (pss_one (ps_raise rfl (takes_of rfl rfl rfl rfl) (pmk_own PySem.F.excBase_ValueError W.e_KindFault.ox W.e_KindFault.og W.e_KindFault.ok (raises_own W.e_KindFault.ob W.e_KindFault.ot) rfl)))
    pss_nil)), ?_⟩
  walk_at "g"
  refine w_iteN (fun c1 => ?_) (fun c1 => ?_)
  · walk_at "g"
    refine w_iteN (fun c2 => ?_) (fun c2 => ?_)
    · walk_at "g"
      refine ⟨u, rfl, ?_⟩
      walk_at "g"
      refine ⟨v, rfl, ?_⟩
      refine w_neSt ?_
      walk_at "g"
      refine w_iteN (fun c3 => ?_) (fun c3 => ?_)
      · exact q2 fun h => h.elim c1 fun h => h.elim c2 fun h => c3 ((kind_eq c1 c2).mpr h)
      · walk_at "g"
        exact q1 (.inr (.inr ((kind_eq c1 c2).mp c3)))
    · walk_at "g"
      exact q1 (.inr (.inl c2))
  · walk_at "g"
    exact q1 (.inl c1)
theorem ok_compare (W : Wv K mg cTE cTk aL aS aK cKF) (c_same_kind : Cl P w K mg base 2 "same_kind" (spSame cKF)) : Cl P w K mg base 3 "compare" (spComp cKF) := by
  refine cl_mk W.d_compare sc_compare (fun _ _ _ _ _ _ us hl => match us, hl with | [_, _, _], _ => rfl) (fun vs H Q E h => ?_) (fun f cdv A outer s H vs Q E hr h => ?_)
  · obtain ⟨g, u, v, rfl, _⟩ := h; rfl
  obtain ⟨g, u, v, rfl, q, qE⟩ := h
  refine ⟨_, (pss_cons (ps_expr (pe_cl c_same_kind hr (by decide) rfl passD (pa_cons (pv 1) (pa_cons (pv 2) pa_nil))))
    (pss_cons (ps_if (PW.pt (pw_or (pt_cmpR op_isN1 (pv 1) pe_non (nomark _)) (pw_or1 (pt_cmpR op_isN1 (pv 2) pe_non (nomark _)))))
    (pss_one (ps_ret pe_non))
    pss_nil)
    (pss_cons (ps_if (pt_cmpR op_eq (pv 0) pe_str (nomark _))
    (pss_one (ps_ret (pe_cmpR op_eq (pv 1) (pv 2) (nomark _))))
    pss_nil)
    (pss_cons (ps_if (pt_cmpR op_eq (pv 0) pe_str (nomark _))
    (pss_one (ps_ret (pe_cmpR op_ne (pv 1) (pv 2) (nomark _))))
    pss_nil)
    (pss_cons (ps_if (pt_cmpR op_eq (pv 0) pe_str (nomark _))
    (pss_one (ps_ret (pe_cmpR (Fge.or_op op_lt op_lt_str) (pv 1) (pv 2) (nomark _))))
    pss_nil)
    (pss_cons (ps_if (pt_cmpR op_eq (pv 0) pe_str (nomark _))
    (pss_one (ps_ret (pe_cmpR (Fge.or_op op_le op_le_str) (pv 1) (pv 2) (nomark _))))
    pss_nil)
    (pss_cons (ps_if (pt_cmpR op_eq (pv 0) pe_str (nomark _))
    (pss_one (ps_ret (pe_cmpR (Fge.or_op op_gt op_gt_str) (pv 1) (pv 2) (nomark _))))
    pss_nil)
    (pss_one (ps_ret (pe_cmpR (Fge.or_op op_ge op_ge_str) (pv 1) (pv 2) (nomark _))))))))))), ?_⟩
  walk_at "g"
  refine ⟨u, v, rfl, fun hf => ?_, qE⟩
  have q := q hf
  walk_at "g"
  unfold cmpV at q
  refine w_iteD (fun c1 => ?_) (fun c1 => ?_)
  · rw [if_pos (.inl c1)] at q
    walk_at "g"
    exact q
  walk_at "g"
  refine w_iteD (fun c2 => ?_) (fun c2 => ?_)
  · rw [if_pos (.inr c2)] at q
    walk_at "g"
    exact q
  rw [if_neg (fun h => h.elim c1 c2)] at q
  have ft : isT u = isT v := hf.elim (absurd · c1) fun h => h.elim (absurd · c2) id
  cases g with
  | eq =>
    rw [show sgS .eq = Str.ofString "=" from rfl]
    walk_at "g"
    refine w_eqVV ?_
    exact q
  | ne =>
    rw [show sgS .ne = Str.ofString "<>" from rfl]
    walk_at "g"
    refine w_neVV ?_
    exact q
  | lt =>
    rw [show sgS .lt = Str.ofString "<" from rfl]
    walk_at "g"
    refine or_lt c1 c2 ft ?_
    exact q
  | le =>
    rw [show sgS .le = Str.ofString "<=" from rfl]
    walk_at "g"
    refine or_le c1 c2 ft ?_
    exact q
  | gt =>
    rw [show sgS .gt = Str.ofString ">" from rfl]
    walk_at "g"
    refine or_gt c1 c2 ft ?_
    exact q
  | ge =>
    rw [show sgS .ge = Str.ofString ">=" from rfl]
    walk_at "g"
    refine or_ge c1 c2 ft ?_
    exact q
theorem ok_both (W : Wv K mg cTE cTk aL aS aK cKF) : Cl P w K mg base 1 "both" spBoth := by
  refine cl_mk W.d_both sc_both (fun _ _ _ _ _ _ us hl => match us, hl with | [_, _], _ => rfl) (fun vs H Q E h => ?_) (fun f cdv A outer s H vs Q E hr h => ?_)
  · obtain ⟨x, y, rfl, _⟩ := h; rfl
  obtain ⟨x, y, rfl, q⟩ := h
  refine ⟨_, (pss_cons (ps_if (PW.pt (pw_or (pt_cmpR Ftx.op_isT (pv 0) pe_bl (nomark _)) (pw_or1 (pt_cmpR Ftx.op_isT (pv 1) pe_bl (nomark _)))))
    (pss_one (ps_ret pe_bl))
    pss_nil)
    (pss_cons (ps_if (PW.pt (pw_or (pt_cmpR op_isN1 (pv 0) pe_non (nomark _)) (pw_or1 (pt_cmpR op_isN1 (pv 1) pe_non (nomark _)))))
    (pss_one (ps_ret pe_non))
    pss_nil)
    (pss_one (ps_ret pe_bl)))), ?_⟩
  rcases x with _ | _ | _ <;> rcases y with _ | _ | _ <;> dsimp only [oV, and3, M24.and3] at q ⊢ <;> walk_at "g" <;> exact q
theorem ok_either (W : Wv K mg cTE cTk aL aS aK cKF) : Cl P w K mg base 1 "either" spEither := by
  refine cl_mk W.d_either sc_either (fun _ _ _ _ _ _ us hl => match us, hl with | [_, _], _ => rfl) (fun vs H Q E h => ?_) (fun f cdv A outer s H vs Q E hr h => ?_)
  · obtain ⟨x, y, rfl, _⟩ := h; rfl
  obtain ⟨x, y, rfl, q⟩ := h
  refine ⟨_, (pss_cons (ps_if (PW.pt (pw_or (pt_cmpR Ftx.op_isT (pv 0) pe_bl (nomark _)) (pw_or1 (pt_cmpR Ftx.op_isT (pv 1) pe_bl (nomark _)))))
    (pss_one (ps_ret pe_bl))
    pss_nil)
    (pss_cons (ps_if (PW.pt (pw_or (pt_cmpR op_isN1 (pv 0) pe_non (nomark _)) (pw_or1 (pt_cmpR op_isN1 (pv 1) pe_non (nomark _)))))
    (pss_one (ps_ret pe_non))
    pss_nil)
    (pss_one (ps_ret pe_bl)))), ?_⟩
  rcases x with _ | _ | _ <;> rcases y with _ | _ | _ <;> dsimp only [oV, or3] at q ⊢ <;> walk_at "g" <;> exact q
theorem ok_negated (W : Wv K mg cTE cTk aL aS aK cKF) : Cl P w K mg base 1 "negated" spNot := by
  refine cl_mk W.d_negated sc_negated (fun _ _ _ _ _ _ us hl => match us, hl with | [_], _ => rfl) (fun vs H Q E h => ?_) (fun f cdv A outer s H vs Q E hr h => ?_)
  · obtain ⟨x, rfl, _⟩ := h; rfl
  obtain ⟨x, rfl, q⟩ := h
  refine ⟨_, (pss_cons (ps_if (pt_cmpR op_isN1 (pv 0) pe_non (nomark _))
    (pss_one (ps_ret pe_non))
    pss_nil)
    (pss_one (ps_ret (pe_not (pv 0))))), ?_⟩
  rcases x with _ | _ | _ <;> dsimp only [oV, not3, Option.map] at q ⊢ <;> walk_at "g" <;> exact q
end
end K04
end

section
-- part K04C
set_option Elab.async false
set_option linter.all false
set_option maxRecDepth 100000
set_option maxHeartbeats 800000
open PySem PySem.Spec PyProof.Rows L2 Fw
local macro_rules | `(tactic| walk_at "e1") => `(tactic| first
  | ((with_reducible refine' w_var ?hv ?_); (case hv => rfl))
  | ((with_reducible refine' K04.w_ixA ?hh ?ha ?_); (case hh => first | assumption | exact upd_same); (case ha => rfl))
  | ((with_reducible refine' K04.w_eqLF ?hl ?_); (case hl => decide +kernel))
  | ((with_reducible refine' K04.w_eqLT ?hl ?_); (case hl => rfl))
  | ((with_reducible refine' K04.w_neLF ?hl ?_); (case hl => decide +kernel))
  | ((with_reducible refine' K04.w_neLT ?hl ?_); (case hl => rfl))
  | with_reducible refine K04.w_isNV ?_
  | with_reducible refine K04.w_notNV ?_
  | ((with_reducible refine' K04.w_modZ ?hc ?_); (case hc => assumption))
  | ((with_reducible refine' K04.w_divZ ?hc ?_); (case hc => assumption))
  | with_reducible refine K04.w_ckw ?_
  | with_reducible refine GnK.w_anyK ?_
  | with_reducible refine Fw.w_notV ?_
  | with_reducible refine F24.w_iZipM ?_
  | with_reducible refine F24.w_iZipA ?_
  | with_reducible refine Fge.w_cld ?_
  | with_reducible refine w_c ?_
  | with_reducible refine w_op ?_
  | with_reducible refine w_un ?_
  | with_reducible refine w_cons ?_
  | with_reducible refine w_nil ?_
  | with_reducible refine w_cl ?_
  | with_reducible refine w_cb ?_
  | with_reducible refine w_gname ?_
  | with_reducible refine w_gsub ?_
  | with_reducible refine w_test ?_
  | with_reducible refine w_B ?_
  | with_reducible refine w_bl ?_
  | with_reducible refine w_and ?_
  | with_reducible refine w_or ?_
  | with_reducible refine w_not ?_
  | with_reducible refine w_if ?_
  | with_reducible refine w_I0 ?_
  | with_reducible refine Gk.w_rU ?_
  | with_reducible refine Dq.w_orV ?_
  | with_reducible refine Dq.w_js ?_
  | with_reducible refine Dq.w_js0 ?_
  | with_reducible refine Dq.w_fm ?_
  | with_reducible refine Dq.w_andV ?_
  | with_reducible refine Gk.w_iEnum ?_
  | with_reducible refine Dq.w_dget ?_
  | with_reducible refine Dq.w_dpop1 ?_
  | with_reducible refine Dq.w_ddel ?_
  | with_reducible refine Dq.w_din ?_
  | with_reducible refine Dq.w_dnotin ?_
  | with_reducible refine Dq.w_dget2 ?_
  | with_reducible refine Dq.w_dnew ?_
  | with_reducible refine Dq.w_fldaug ?_
  | with_reducible refine Dq.w_aSub ?_
  | with_reducible refine Dq.w_aAdd ?_
  | with_reducible refine Dq.w_mkd ?_
  | with_reducible refine Dq.w_notN0 ?_
  | with_reducible refine Dq.w_isN0 ?_
  | with_reducible refine Ftw.w_isTI ?_
  | with_reducible refine Ftw.w_isTS ?_
  | with_reducible refine Ftw.w_isTR ?_
  | with_reducible refine Ftw.w_isTN ?_
  | with_reducible refine Ftw.w_isTtt ?_
  | with_reducible refine Ftw.w_isTft ?_
  | with_reducible refine Ftw.w_isTtf ?_
  | with_reducible refine Ftw.w_isNS ?_
  | with_reducible refine Ftw.w_isNB ?_
  | ((with_reducible refine' Ftw.w_isiRS ?hq ?_); (case hq => assumption))
  | ((with_reducible refine' Ftw.w_isiRT ?hq ?_); (case hq => assumption))
  | ((with_reducible refine' Ftw.w_isiRI ?hq ?_); (case hq => assumption))
  | with_reducible refine Ftw.w_isiIT ?_
  | with_reducible refine Ftw.w_isiII ?_
  | with_reducible refine Dq.w_notNR ?_
  | with_reducible refine Dq.w_isNR ?_
  | with_reducible refine Dq.w_notNI ?_
  | with_reducible refine Dq.w_isNI ?_
  | with_reducible refine L2.w_neOs ?_
  | with_reducible refine w_ipI ?_
  | with_reducible refine w_eqS ?_
  | with_reducible refine w_neS ?_
  | with_reducible refine w_eqI ?_
  | with_reducible refine w_neI ?_
  | with_reducible refine w_eqB ?_
  | with_reducible refine w_neB ?_
  | ((with_reducible refine w_eq ?hs ?_); (case hs => rfl))
  | ((with_reducible refine w_ne ?hs ?_); (case hs => rfl))
  | with_reducible refine w_fld ?_
  | with_reducible refine w_bm ?_
  | with_reducible refine w_bm0 ?_
  | with_reducible refine w_sl ?_
  | with_reducible refine w_part ?_
  | with_reducible refine w_partI ?_
  | with_reducible refine w_nopart ?_
  | ((with_reducible refine' w_ixL ?hh ?ha ?_); (case hh => first | assumption | exact upd_same); (case ha => rfl))
  | ((with_reducible refine' w_setLu ?ha ?_); (case ha => rfl))
  | ((with_reducible refine' w_setL ?hh ?ha ?_); (case hh => first | assumption | exact upd_same); (case ha => rfl))
  | with_reducible refine w_iteT ?_
  | with_reducible refine w_iteF ?_
  | with_reducible refine w_lst ?_
  | with_reducible refine w_tup ?_
  | ((with_reducible refine w_new ?hz ?_); (case hz => rfl))
  | with_reducible refine w_lc ?_
  | with_reducible refine w_iL ?_
  | with_reducible refine w_iT ?_
  | with_reducible refine w_iR1 ?_
  | with_reducible refine w_iR2 ?_
  | with_reducible refine w_yes ?_
  | with_reducible refine w_iStr ?_
  | with_reducible exact tyS
  | with_reducible refine And.intro tyS ?_
  | ((with_reducible refine w_find3 ?_); (first | rw [find3_one] | rw [starts3] | skip))
  | ((with_reducible refine w_2s ?_); (try rw [find_one]))
  | ((with_reducible refine w_inS ?_); rw [S_list])
  | ((with_reducible refine w_lenS ?hz ?_); (case hz => first | assumption | omega | decide); rw [SX.S_len])
  | ((with_reducible refine w_addS ?hz ?_); (case hz => first | assumption | omega | decide); rw [vS_cat])
  | with_reducible refine w_mk ?_
  | with_reducible refine w_me ?_
  | with_reducible refine w_sfld ?_
  | ((with_reducible refine' w_gtup ?hh ?hn ?_); (case hh => first | assumption | exact upd_same); (case hn => rfl))
  | with_reducible refine w_gcons ?_
  | with_reducible refine w_gnil ?_
  | with_reducible refine w_repl ?_
  | with_reducible refine w_star ?_
  | with_reducible refine w_revL ?_
  | with_reducible refine w_isiS ?_
  | with_reducible refine w_isiI ?_
  | with_reducible refine w_isiN ?_
  | with_reducible refine w_chain ?_
  | with_reducible refine w_iEnumT ?_
  | with_reducible refine w_iZip3 ?_
  | with_reducible refine w_iZip ?_
  | with_reducible refine w_lenR3 ?_
  | with_reducible refine w_x1i ?_
  | with_reducible refine w_x1b ?_
  | with_reducible refine w_x1s ?_
  | with_reducible refine w_int1i ?_
  | with_reducible refine w_int1b ?_
  | ((with_reducible refine w_mod ?hc ?_); (case hc => omega))
  | ((with_reducible refine w_fdivW ?hc ?hd ?_); (case hc => omega); (case hd => omega))
  | ((with_reducible refine w_mul ?hc ?_); (case hc => first | exact Or.inr ⟨by decide, by decide⟩ | exact Or.inl ⟨by decide, by decide⟩))
  | ((with_reducible refine w_pow ?hc ?_); (case hc => exact ⟨by decide, by decide, by decide⟩)))
local macro_rules | `(tactic| walk_at "f1") => `(tactic| first
  | walk_at "e1")
local macro_rules | `(tactic| walk_at "s1") => `(tactic| first
  | with_reducible refine w_seq ?_
  | with_reducible refine w_asg ?_
  | with_reducible refine w_ret ?_
  | with_reducible refine w_par ?_
  | with_reducible refine w_drop ?_
  | with_reducible refine w_next ?_
  | with_reducible refine w_ifs ?_
  | ((with_reducible refine' w_aug ?hv ?_); (case hv => rfl))
  | with_reducible refine w_for ?_
  | walk_at "f1")
local macro_rules | `(tactic| walk_at "e") => `(tactic| repeat walk_at "e1")
local macro_rules | `(tactic| walk_at "g") => `(tactic| repeat walk_at "s1")
local macro_rules | `(tactic| walk_at "n1") => `(tactic| ((fail_if_success (with_reducible refine w_if ?_)); walk_at "s1"))
local macro_rules | `(tactic| walk_at "n") => `(tactic| repeat walk_at "n1")
local macro_rules | `(tactic| walk_at "p1") => `(tactic| ((fail_if_success (with_reducible refine w_ifs ?_)); walk_at "s1"))
local macro_rules | `(tactic| walk_at "p") => `(tactic| repeat walk_at "p1")
local macro_rules | `(tactic| walk_at "q1") => `(tactic| ((fail_if_success (with_reducible refine w_seq ?_)); walk_at "s1"))
local macro_rules | `(tactic| walk_at "q") => `(tactic| repeat walk_at "q1")

namespace K04
open Dc M24 M5
theorem kind_text {y : RV} : ((kindS y).1.toList = (Str.ofString "text").1.toList) ↔ isT y = true := by
  have h1 : (Str.ofString "null").1.toList ≠ (Str.ofString "text").1.toList := by decide +kernel
  have h2 : (Str.ofString "int").1.toList ≠ (Str.ofString "text").1.toList := by decide +kernel
  cases y with
  | non => exact ⟨fun h => absurd h h1, fun h => by cases h⟩
  | txt l => exact ⟨fun _ => rfl, fun _ => rfl⟩
  | num n => exact ⟨fun h => absurd h h2, fun h => by cases h⟩
theorem kind_int {y : RV} : ((kindS y).1.toList = (Str.ofString "int").1.toList) ↔ isI y = true := by
  have h1 : (Str.ofString "null").1.toList ≠ (Str.ofString "int").1.toList := by decide +kernel
  have h2 : (Str.ofString "text").1.toList ≠ (Str.ofString "int").1.toList := by decide +kernel
  cases y with
  | non => exact ⟨fun h => absurd h h1, fun h => by cases h⟩
  | txt l => exact ⟨fun h => absurd h h2, fun h => by cases h⟩
  | num n => exact ⟨fun _ => rfl, fun _ => rfl⟩
theorem take_next {α : Type} {l : List α} {i : Nat} {y : α} {p : α → Prop} (h : l[i]? = some y) (ht : ∀ x ∈ l.take i, p x) (hy : p y) : ∀ x ∈ l.take (i + 1), p x := by
  intro x hx
  rw [List.take_add_one, h] at hx
  rcases List.mem_append.mp hx with hx | hx
  · exact ht x hx
  · rcases List.mem_singleton.mp (by simpa using hx) with rfl
    exact hy
theorem vv_at {l : List RV} {i : Nat} {x : V} (h : (l.map vV)[i]? = some x) : ∃ y, l[i]? = some y ∧ x = vV y := by
  rw [List.getElem?_map] at h
  cases e : l[i]? with
  | none => rw [e] at h; cases h
  | some y => rw [e] at h; exact ⟨y, rfl, (Option.some.inj h).symm⟩
theorem no_eq {b : Bool} (h : ¬ b = true) : b = false := by cases b; rfl; exact absurd rfl h
section
variable {P : Program} {w : World} {K : PySem.W.Frag} {mg : Str → Option Value} {base : Heap} {cTE cTk aL aS aK cKF : Addr}
theorem ok_arithmetic (W : Wv K mg cTE cTk aL aS aK cKF) (c_kind_of : Cl P w K mg base 1 "kind_of" spKind) (c_in_range : Cl P w K mg base 1 "in_range" spRange) : Cl P w K mg base 2 "arithmetic" (spArith cKF) := by
  refine cl_mk W.d_arithmetic sc_arithmetic (fun _ _ _ _ _ _ us hl => match us, hl with | [_, _, _], _ => rfl) (fun vs H Q E h => ?_) (fun f cdv A outer s H vs Q E hr h => ?_)
  · obtain ⟨g, u, v, rfl, _⟩ := h; rfl
  obtain ⟨g, u, v, rfl, ou, ov, q1, qE⟩ := h
  refine ⟨_, (pss_cons (ps_for (passes_of rfl) rfl (pi_tup (pe_tup (pa_cons (pv 1) (pa_cons (pv 2) pa_nil)))) (pg_name (i := 3) sc_arithmetic.nd rfl (Or.inl rfl))
    (pss_one (ps_if (pt_cmpR op_eq (pe_cl c_kind_of hr (by decide) rfl passL (pa_cons (pv 3) pa_nil)) pe_str (nomark _))
    (pss_one (ps_raise rfl (takes_of rfl rfl rfl rfl) (pmk_own PySem.F.excBase_ValueError W.e_KindFault.ox W.e_KindFault.og W.e_KindFault.ok (raises_own W.e_KindFault.ob W.e_KindFault.ot) rfl)))
    pss_nil)))
    (pss_cons (ps_if (PW.pt (pw_or (pt_cmpR op_isN1 (pv 1) pe_non (nomark _)) (pw_or1 (pt_cmpR op_isN1 (pv 2) pe_non (nomark _)))))
    (pss_one (ps_ret pe_non))
    pss_nil)
    (pss_cons (ps_if (pt_cmpR op_eq (pv 0) pe_str (nomark _))
    (pss_one (ps_ret (pe_cl c_in_range hr (by decide) rfl passL (pa_cons (pe_op op_add (pv 1) (pv 2)) pa_nil))))
    pss_nil)
    (pss_cons (ps_if (pt_cmpR op_eq (pv 0) pe_str (nomark _))
    (pss_one (ps_ret (pe_cl c_in_range hr (by decide) rfl passL (pa_cons (pe_op op_sub (pv 1) (pv 2)) pa_nil))))
    pss_nil)
    (pss_cons (ps_if (pt_cmpR op_eq (pv 0) pe_str (nomark _))
    (pss_one (ps_ret (pe_cl c_in_range hr (by decide) rfl passL (pa_cons (pe_op op_mul (pv 1) (pv 2)) pa_nil))))
    pss_nil)
    (pss_cons (ps_if (pt_cmpR op_eq (pv 2) pe_int (nomark _))
    (pss_one (ps_ret pe_non))
    pss_nil)
    (pss_cons (ps_if (pt_cmpR op_eq (pv 0) pe_str (nomark _))
    (pss_one (ps_ret (pe_cl c_in_range hr (by decide) rfl passL (pa_cons (pe_op MnK.op_fdivZ (pv 1) (pv 2)) pa_nil))))
    pss_nil)
    (pss_one (ps_ret (pe_op op_modN (pv 1) (pv 2))))))))))), ?_⟩
  walk_at "g"
  intro p hp
  refine w_forT (xs := [u, v].map vV) (SqT.of upd_same) (fun i σ H' => H' = upd H p (.tup ([u, v].map vV)) ∧ (∀ x ∈ [u, v].take i, isT x = false) ∧ ∃ z : Option V, σ = [some (.str (arS g)), some (vV u), some (vV v), z]) ⟨rfl, by simp, none, rfl⟩ (fun i σ H' _ h => h.1 ▸ SqT.of upd_same) ?_ ?_
  · rintro i x σ H' hi ⟨rfl, ht, z, rfl⟩
    obtain ⟨y, hy, rfl⟩ := vv_at hi
    walk_at "g"
    refine ⟨y, rfl, ?_⟩
    walk_at "g"
    refine w_iteD (fun c1 => ?_) (fun c1 => ?_)
    · refine qE ?_ _ (same_new hp _)
      have c2 := kind_text.mp c1
      have := List.mem_of_getElem? hy
      rcases List.mem_cons.mp this with rfl | h
      · exact .inl c2
      · rw [List.mem_singleton.mp h] at c2; exact .inr c2
    · walk_at "g"
      exact ⟨rfl, take_next hy ht (no_eq fun h => c1 (kind_text.mpr h)), _, rfl⟩
  rintro σ H' ⟨rfl, ht, z, rfl⟩
  have hu : isT u = false := ht u (by simp)
  have hv : isT v = false := ht v (by simp)
  have q := q1 ⟨hu, hv⟩ _ (same_new hp (.tup ([u, v].map vV)))
  generalize upd H p (.tup ([u, v].map vV)) = H1 at q
  clear q1 qE ht
  cases u with
  | txt l => cases hu
  | non =>
    rw [show arV g .non v = V.non from rfl] at q
    walk_at "g"
    refine w_iteD (fun c1 => ?_) (fun c1 => absurd rfl c1)
    walk_at "g"
    exact q
  | num n =>
    cases v with
    | txt l => cases hv
    | non =>
      rw [show arV g (.num n) .non = V.non from rfl] at q
      walk_at "g"
      refine w_iteD (fun c1 => ?_) (fun c1 => ?_)
      · walk_at "g"
        exact q
      walk_at "g"
      refine w_iteD (fun c1 => ?_) (fun c1 => absurd rfl c1)
      walk_at "g"
      exact q
    | num m =>
      have on : -HI ≤ n ∧ n ≤ HI := ou
      have om : -HI ≤ m ∧ m ≤ HI := ov
      have cm : CMul n m := by unfold HI at on om; unfold CMul; omega
      have cd : m ≠ 0 → MnK.CDivZ n m := fun h => ⟨h, by unfold HI at om; omega⟩
      rw [show arV g (.num n) (.num m) = arI g n m from rfl] at q
      rw [show vV (.num n) = V.int n from rfl, show vV (.num m) = V.int m from rfl]
      cases g with
      | add =>
        rw [show arS .add = Str.ofString "+" from rfl]
        walk_at "g"
        exact ⟨_, rfl, q⟩
      | sub =>
        rw [show arS .sub = Str.ofString "-" from rfl]
        walk_at "g"
        exact ⟨_, rfl, q⟩
      | mul =>
        rw [show arS .mul = Str.ofString "*" from rfl]
        walk_at "g"
        refine w_mul cm ?_
        walk_at "g"
        exact ⟨_, rfl, q⟩
      | div =>
        rw [show arS .div = Str.ofString "/" from rfl]
        dsimp only [arI] at q
        walk_at "g"
        refine w_iteD (fun c1 => ?_) (fun c1 => ?_)
        · rw [if_pos c1] at q
          walk_at "g"
          exact q
        · rw [if_neg c1] at q
          have := cd c1
          walk_at "g"
          exact ⟨_, rfl, q⟩
      | mod =>
        rw [show arS .mod = Str.ofString "mod" from rfl]
        dsimp only [arI] at q
        walk_at "g"
        refine w_iteD (fun c1 => ?_) (fun c1 => ?_)
        · rw [if_pos c1] at q
          walk_at "g"
          exact q
        · rw [if_neg c1] at q
          walk_at "g"
          exact q
theorem ok_concat (W : Wv K mg cTE cTk aL aS aK cKF) (c_kind_of : Cl P w K mg base 1 "kind_of" spKind) : Cl P w K mg base 2 "concat" (spCat cKF) := by
  refine cl_mk W.d_concat sc_concat (fun _ _ _ _ _ _ us hl => match us, hl with | [_, _], _ => rfl) (fun vs H Q E h => ?_) (fun f cdv A outer s H vs Q E hr h => ?_)
  · obtain ⟨u, v, rfl, _⟩ := h; rfl
  obtain ⟨u, v, rfl, hl, q1, qE⟩ := h
  refine ⟨_, (pss_cons (ps_for (passes_of rfl) rfl (pi_tup (pe_tup (pa_cons (pv 0) (pa_cons (pv 1) pa_nil)))) (pg_name (i := 2) sc_concat.nd rfl (Or.inl rfl))
    (pss_one (ps_if (pt_cmpR op_eq (pe_cl c_kind_of hr (by decide) rfl passL (pa_cons (pv 2) pa_nil)) pe_str (nomark _))
    (pss_one (ps_raise rfl (takes_of rfl rfl rfl rfl) (pmk_own PySem.F.excBase_ValueError W.e_KindFault.ox W.e_KindFault.og W.e_KindFault.ok (raises_own W.e_KindFault.ob W.e_KindFault.ot) rfl)))
    pss_nil)))
    (pss_cons (ps_if (PW.pt (pw_or (pt_cmpR op_isN1 (pv 0) pe_non (nomark _)) (pw_or1 (pt_cmpR op_isN1 (pv 1) pe_non (nomark _)))))
    (pss_one (ps_ret pe_non))
    pss_nil)
    (pss_one (ps_ret (pe_op op_add_str (pv 0) (pv 1)))))), ?_⟩
  walk_at "g"
  intro p hp
  refine w_forT (xs := [u, v].map vV) (SqT.of upd_same) (fun i σ H' => H' = upd H p (.tup ([u, v].map vV)) ∧ (∀ x ∈ [u, v].take i, isI x = false) ∧ ∃ z : Option V, σ = [some (vV u), some (vV v), z]) ⟨rfl, by simp, none, rfl⟩ (fun i σ H' _ h => h.1 ▸ SqT.of upd_same) ?_ ?_
  · rintro i x σ H' hi ⟨rfl, ht, z, rfl⟩
    obtain ⟨y, hy, rfl⟩ := vv_at hi
    walk_at "g"
    refine ⟨y, rfl, ?_⟩
    walk_at "g"
    refine w_iteD (fun c1 => ?_) (fun c1 => ?_)
    · refine qE ?_ _ (same_new hp _)
      have c2 := kind_int.mp c1
      have := List.mem_of_getElem? hy
      rcases List.mem_cons.mp this with rfl | h
      · exact .inl c2
      · rw [List.mem_singleton.mp h] at c2; exact .inr c2
    · walk_at "g"
      exact ⟨rfl, take_next hy ht (no_eq fun h => c1 (kind_int.mpr h)), _, rfl⟩
  rintro σ H' ⟨rfl, ht, z, rfl⟩
  have hu : isI u = false := ht u (by simp)
  have hv : isI v = false := ht v (by simp)
  have q := q1 ⟨hu, hv⟩ _ (same_new hp (.tup ([u, v].map vV)))
  generalize upd H p (.tup ([u, v].map vV)) = H1 at q
  clear q1 qE ht
  cases u with
  | num l => cases hu
  | non =>
    rw [show catV .non v = V.non from by cases v <;> rfl] at q
    walk_at "g"
    refine w_iteD (fun c1 => ?_) (fun c1 => absurd rfl c1)
    walk_at "g"
    exact q
  | txt n =>
    cases v with
    | num l => cases hv
    | non =>
      rw [show catV (.txt n) .non = V.non from rfl] at q
      walk_at "g"
      refine w_iteD (fun c1 => ?_) (fun c1 => ?_)
      · walk_at "g"
        exact q
      walk_at "g"
      refine w_iteD (fun c1 => ?_) (fun c1 => absurd rfl c1)
      walk_at "g"
      exact q
    | txt m =>
      have a1 := hl n (.inl rfl)
      have a2 := hl m (.inr rfl)
      have a3 : n.length + m.length ≤ sizeLine := Nat.le_trans (show n.length + m.length ≤ 2000 by omega) (by decide)
      rw [show vV (.txt n) = V.str (S n) from rfl, show vV (.txt m) = V.str (S m) from rfl]
      walk_at "g"
      exact q
end
end K04
end

section
-- part F04b
set_option Elab.async false
set_option linter.all false
set_option maxRecDepth 100000
set_option maxHeartbeats 800000
/-! F04b: data that may be compared with itself; places in a list -/
namespace K04
open PySem PySem.Spec PyProof.Rows L2 Fw M5 M24 Gk
theorem all_lay {ds : List PyData} (h : ∀ d ∈ ds, d.canLay0 = true) : PyData.canLayAll0 ds = true := by
  induction ds with
  | nil => rfl
  | cons d r ih => rw [PyData.canLayAll0, h d List.mem_cons_self, ih fun x hx => h x (List.mem_cons_of_mem _ hx)]; rfl
theorem all_depth {ds : List PyData} {k : Nat} (h : ∀ d ∈ ds, d.depth ≤ k) : PyData.depthAll ds ≤ k := by
  induction ds with
  | nil => simp [PyData.depthAll]
  | cons d r ih =>
    have h1 := h d List.mem_cons_self
    have h2 := ih fun x hx => h x (List.mem_cons_of_mem _ hx)
    rw [PyData.depthAll]
    omega
theorem all_eqv {ds : List PyData} (h : ∀ d ∈ ds, PyData.eqv d d = true) : PyData.eqvAll ds ds = true := by
  induction ds with
  | nil => rfl
  | cons d r ih => rw [PyData.eqvAll, h d List.mem_cons_self, ih fun x hx => h x (List.mem_cons_of_mem _ hx)]; rfl
abbrev nI (q : Nat) : V := .int (q : Int)
/-- what may be compared with itself -/
def Fine (k : Nat) (d : PyData) : Prop := d.canLay0 = true ∧ d.depth ≤ k ∧ PyData.eqv d d = true
theorem Fine.int (n : Int) : Fine 0 (.int n) := ⟨rfl, by simp [PyData.depth], by simp [PyData.eqv]⟩
theorem Fine.str {x : Str} (h : PyData.strOk x = true) : Fine 0 (.str x) := ⟨by rw [PyData.canLay0]; exact h, by simp [PyData.depth], by simp [PyData.eqv]⟩
theorem Fine.le {j k : Nat} {d : PyData} (h : Fine j d) (hk : j ≤ k) : Fine k d := ⟨h.1, Nat.le_trans h.2.1 hk, h.2.2⟩
theorem Fine.tup {k : Nat} {ds : List PyData} (h : ∀ d ∈ ds, Fine k d) : Fine (k + 1) (.tuple ds) := by
  refine ⟨all_lay fun d hd => (h d hd).1, ?_, all_eqv fun d hd => (h d hd).2.2⟩
  have := all_depth fun d hd => (h d hd).2.1
  rw [PyData.depth]
  omega
theorem Fine.lst {k : Nat} {ds : List PyData} (h : ∀ d ∈ ds, Fine k d) : Fine (k + 1) (.list ds) := by
  refine ⟨all_lay fun d hd => (h d hd).1, ?_, all_eqv fun d hd => (h d hd).2.2⟩
  have := all_depth fun d hd => (h d hd).2.1
  rw [PyData.depth]
  omega
theorem Fine.shaped {k : Nat} {d : PyData} (h : Fine k d) (hk : k ≤ 64) : SeqAt.shaped d = true := by
  unfold SeqAt.shaped
  rw [Bool.and_eq_true]
  exact ⟨h.1, decide_eq_true (Nat.le_trans h.2.1 hk)⟩
theorem S_ok {l : List Nat} (h : ∀ c ∈ l, c < 128) : PyData.strOk (S l) = true := by
  unfold PyData.strOk
  rw [Array.all_eq_true_iff_forall_mem]
  intro c hc
  have : c ∈ (S l).cps.toList := hc.val
  rw [S_list] at this
  exact decide_eq_true (by have := h c this; omega)
section
variable {K : PySem.W.Frag} {H : Hp} {Q : VK}
/-- the same data on both sides -/
theorem w_neFine {x y : V} {d : PyData} {k : Nat} (h1 : Dp K H x d) (h2 : Dp K H y d) (f : Fine k d) (hk : k ≤ 64) (q : Q (.bl false) H) : rNeD K x y H Q := ⟨d, d, h1, h2, f.shaped hk, f.shaped hk, by rw [f.2.2]; exact q⟩
theorem w_eqFine {x y : V} {d : PyData} {k : Nat} (h1 : Dp K H x d) (h2 : Dp K H y d) (f : Fine k d) (hk : k ≤ 64) (q : Q (.bl true) H) : rEqD K x y H Q := ⟨d, d, h1, h2, f.shaped hk, f.shaped hk, by rw [f.2.2]; exact q⟩
/-- a list of ints against [] -/
theorem w_eqNilD {a b : Addr} {ns : List Int} (ha : H a = some (.lst (ns.map V.int))) (hb : H b = some (.lst [])) (q : Q (.bl (decide (ns = []))) H) : rEqD K (.ref a) (.ref b) H Q :=
  ⟨_, _, .lst (SqL.of ha) (dp_ints ns), .lst (SqL.of hb) .nil, shaped_ints ns, rfl, by rw [eqv_nil]; exact q⟩
theorem w_neNilD {a b : Addr} {ns : List Int} (ha : H a = some (.lst (ns.map V.int))) (hb : H b = some (.lst [])) (q : Q (.bl (!decide (ns = []))) H) : rNeD K (.ref a) (.ref b) H Q :=
  ⟨_, _, .lst (SqL.of ha) (dp_ints ns), .lst (SqL.of hb) .nil, shaped_ints ns, rfl, by rw [eqv_nil]; exact q⟩
theorem inV_nat (a : Nat) : ∀ ls : List Nat, inV (.int (a : Int)) (ls.map nI) = decide (a ∈ ls)
  | [] => by simp [inV]
  | l :: r => by
    have ih := inV_nat a r
    unfold inV at ih ⊢
    rw [List.map_cons, List.any_cons, ih]
    show (((l : Int) == (a : Int)) || decide (a ∈ r)) = _
    by_cases h : l = a
    · subst h; simp
    · have : ((l : Int) == (a : Int)) = false := by simp; omega
      rw [this, Bool.false_or]
      have h' : ¬ a = l := fun e => h e.symm
      simp [h']
theorem flat_nat : ∀ ls : List Nat, (ls.map nI).all flatV = true
  | [] => rfl
  | _ :: r => flat_nat r
theorem w_inNat {a : Nat} {p : Addr} {ls : List Nat} (h : H p = some (.lst (ls.map nI))) (q : Q (.bl (decide (a ∈ ls))) H) : rIn K false (.int (a : Int)) (.ref p) H Q :=
  ⟨p, _, rfl, .inl (SqL.of h), rfl, flat_nat ls, by rw [inV_nat]; exact q⟩
end
def dV : RV → PyData
  | .non => .none
  | .txt l => .str (S l)
  | .num n => .int n
def rkD : RV → PyData
  | .non => .tuple [.int 0, .int 0]
  | .txt l => .tuple [.int 2, .str (S l)]
  | .num n => .tuple [.int 1, .int n]
def okS : RV → Prop
  | .txt l => ∀ c ∈ l, c < 128
  | _ => True
theorem fine2 {a b : PyData} (h1 : Fine 0 a) (h2 : Fine 0 b) : Fine 1 (.tuple [a, b]) := Fine.tup fun d hd => by
  rcases List.mem_cons.mp hd with rfl | hd
  · exact h1
  · rw [List.mem_singleton.mp hd]; exact h2
theorem rk_fine {v : RV} (h : okS v) : Fine 1 (rkD v) := by
  cases v with
  | non => exact fine2 (Fine.int _) (Fine.int _)
  | txt l => exact fine2 (Fine.int _) (Fine.str (S_ok h))
  | num n => exact fine2 (Fine.int _) (Fine.int _)
theorem rk_dp {K : PySem.W.Frag} {H : Hp} {a : Addr} {v : RV} (h : H a = some (.tup (rkV v))) : Dp K H (.ref a) (rkD v) := by
  cases v with
  | non => exact .tup (SqT.of h) (.cons (.int _) (.cons (.int _) .nil))
  | txt l => exact .tup (SqT.of h) (.cons (.int _) (.cons (.str _) .nil))
  | num n => exact .tup (SqT.of h) (.cons (.int _) (.cons (.int _) .nil))
end K04
end

section
-- part K04D
set_option Elab.async false
set_option linter.all false
set_option maxRecDepth 100000
set_option maxHeartbeats 800000
open PySem PySem.Spec PyProof.Rows L2 Fw
local macro_rules | `(tactic| walk_at "e1") => `(tactic| first
  | ((with_reducible refine' w_var ?hv ?_); (case hv => rfl))
  | ((with_reducible refine' K04.w_ixA ?hh ?ha ?_); (case hh => first | assumption | exact upd_same); (case ha => rfl))
  | ((with_reducible refine' K04.w_eqLF ?hl ?_); (case hl => decide +kernel))
  | ((with_reducible refine' K04.w_eqLT ?hl ?_); (case hl => rfl))
  | ((with_reducible refine' K04.w_neLF ?hl ?_); (case hl => decide +kernel))
  | ((with_reducible refine' K04.w_neLT ?hl ?_); (case hl => rfl))
  | with_reducible refine K04.w_isNV ?_
  | with_reducible refine K04.w_notNV ?_
  | ((with_reducible refine' K04.w_modZ ?hc ?_); (case hc => assumption))
  | ((with_reducible refine' K04.w_divZ ?hc ?_); (case hc => assumption))
  | with_reducible refine K04.w_ckw ?_
  | with_reducible refine GnK.w_anyK ?_
  | with_reducible refine Fw.w_notV ?_
  | with_reducible refine F24.w_iZipM ?_
  | with_reducible refine F24.w_iZipA ?_
  | with_reducible refine Fge.w_cld ?_
  | with_reducible refine w_c ?_
  | with_reducible refine w_op ?_
  | with_reducible refine w_un ?_
  | with_reducible refine w_cons ?_
  | with_reducible refine w_nil ?_
  | with_reducible refine w_cl ?_
  | with_reducible refine w_cb ?_
  | with_reducible refine w_gname ?_
  | with_reducible refine w_gsub ?_
  | with_reducible refine w_test ?_
  | with_reducible refine w_B ?_
  | with_reducible refine w_bl ?_
  | with_reducible refine w_and ?_
  | with_reducible refine w_or ?_
  | with_reducible refine w_not ?_
  | with_reducible refine w_if ?_
  | with_reducible refine w_I0 ?_
  | with_reducible refine Gk.w_rU ?_
  | with_reducible refine Dq.w_orV ?_
  | with_reducible refine Dq.w_js ?_
  | with_reducible refine Dq.w_js0 ?_
  | with_reducible refine Dq.w_fm ?_
  | with_reducible refine Dq.w_andV ?_
  | with_reducible refine Gk.w_iEnum ?_
  | with_reducible refine Dq.w_dget ?_
  | with_reducible refine Dq.w_dpop1 ?_
  | with_reducible refine Dq.w_ddel ?_
  | with_reducible refine Dq.w_din ?_
  | with_reducible refine Dq.w_dnotin ?_
  | with_reducible refine Dq.w_dget2 ?_
  | with_reducible refine Dq.w_dnew ?_
  | with_reducible refine Dq.w_fldaug ?_
  | with_reducible refine Dq.w_aSub ?_
  | with_reducible refine Dq.w_aAdd ?_
  | with_reducible refine Dq.w_mkd ?_
  | with_reducible refine Dq.w_notN0 ?_
  | with_reducible refine Dq.w_isN0 ?_
  | with_reducible refine Ftw.w_isTI ?_
  | with_reducible refine Ftw.w_isTS ?_
  | with_reducible refine Ftw.w_isTR ?_
  | with_reducible refine Ftw.w_isTN ?_
  | with_reducible refine Ftw.w_isTtt ?_
  | with_reducible refine Ftw.w_isTft ?_
  | with_reducible refine Ftw.w_isTtf ?_
  | with_reducible refine Ftw.w_isNS ?_
  | with_reducible refine Ftw.w_isNB ?_
  | ((with_reducible refine' Ftw.w_isiRS ?hq ?_); (case hq => assumption))
  | ((with_reducible refine' Ftw.w_isiRT ?hq ?_); (case hq => assumption))
  | ((with_reducible refine' Ftw.w_isiRI ?hq ?_); (case hq => assumption))
  | with_reducible refine Ftw.w_isiIT ?_
  | with_reducible refine Ftw.w_isiII ?_
  | with_reducible refine Dq.w_notNR ?_
  | with_reducible refine Dq.w_isNR ?_
  | with_reducible refine Dq.w_notNI ?_
  | with_reducible refine Dq.w_isNI ?_
  | with_reducible refine L2.w_neOs ?_
  | with_reducible refine w_ipI ?_
  | with_reducible refine w_eqS ?_
  | with_reducible refine w_neS ?_
  | with_reducible refine w_eqI ?_
  | with_reducible refine w_neI ?_
  | with_reducible refine w_eqB ?_
  | with_reducible refine w_neB ?_
  | ((with_reducible refine w_eq ?hs ?_); (case hs => rfl))
  | ((with_reducible refine w_ne ?hs ?_); (case hs => rfl))
  | with_reducible refine w_fld ?_
  | with_reducible refine w_bm ?_
  | with_reducible refine w_bm0 ?_
  | with_reducible refine w_sl ?_
  | with_reducible refine w_part ?_
  | with_reducible refine w_partI ?_
  | with_reducible refine w_nopart ?_
  | ((with_reducible refine' w_ixL ?hh ?ha ?_); (case hh => first | assumption | exact upd_same); (case ha => rfl))
  | ((with_reducible refine' w_setLu ?ha ?_); (case ha => rfl))
  | ((with_reducible refine' w_setL ?hh ?ha ?_); (case hh => first | assumption | exact upd_same); (case ha => rfl))
  | with_reducible refine w_iteT ?_
  | with_reducible refine w_iteF ?_
  | with_reducible refine w_lst ?_
  | with_reducible refine w_tup ?_
  | ((with_reducible refine w_new ?hz ?_); (case hz => rfl))
  | with_reducible refine w_lc ?_
  | with_reducible refine w_iL ?_
  | with_reducible refine w_iT ?_
  | with_reducible refine w_iR1 ?_
  | with_reducible refine w_iR2 ?_
  | with_reducible refine w_yes ?_
  | with_reducible refine w_iStr ?_
  | with_reducible exact tyS
  | with_reducible refine And.intro tyS ?_
  | ((with_reducible refine w_find3 ?_); (first | rw [find3_one] | rw [starts3] | skip))
  | ((with_reducible refine w_2s ?_); (try rw [find_one]))
  | ((with_reducible refine w_inS ?_); rw [S_list])
  | ((with_reducible refine w_lenS ?hz ?_); (case hz => first | assumption | omega | decide); rw [SX.S_len])
  | ((with_reducible refine w_addS ?hz ?_); (case hz => first | assumption | omega | decide); rw [vS_cat])
  | with_reducible refine w_mk ?_
  | with_reducible refine w_me ?_
  | with_reducible refine w_sfld ?_
  | ((with_reducible refine' w_gtup ?hh ?hn ?_); (case hh => first | assumption | exact upd_same); (case hn => rfl))
  | with_reducible refine w_gcons ?_
  | with_reducible refine w_gnil ?_
  | with_reducible refine w_repl ?_
  | with_reducible refine w_star ?_
  | with_reducible refine w_revL ?_
  | with_reducible refine w_isiS ?_
  | with_reducible refine w_isiI ?_
  | with_reducible refine w_isiN ?_
  | with_reducible refine w_chain ?_
  | with_reducible refine w_iEnumT ?_
  | with_reducible refine w_iZip3 ?_
  | with_reducible refine w_iZip ?_
  | with_reducible refine w_lenR3 ?_
  | with_reducible refine w_x1i ?_
  | with_reducible refine w_x1b ?_
  | with_reducible refine w_x1s ?_
  | with_reducible refine w_int1i ?_
  | with_reducible refine w_int1b ?_
  | ((with_reducible refine w_mod ?hc ?_); (case hc => omega))
  | ((with_reducible refine w_fdivW ?hc ?hd ?_); (case hc => omega); (case hd => omega))
  | ((with_reducible refine w_mul ?hc ?_); (case hc => first | exact Or.inr ⟨by decide, by decide⟩ | exact Or.inl ⟨by decide, by decide⟩))
  | ((with_reducible refine w_pow ?hc ?_); (case hc => exact ⟨by decide, by decide, by decide⟩)))
local macro_rules | `(tactic| walk_at "f1") => `(tactic| first
  | walk_at "e1")
local macro_rules | `(tactic| walk_at "s1") => `(tactic| first
  | with_reducible refine w_seq ?_
  | with_reducible refine w_asg ?_
  | with_reducible refine w_ret ?_
  | with_reducible refine w_par ?_
  | with_reducible refine w_drop ?_
  | with_reducible refine w_next ?_
  | with_reducible refine w_ifs ?_
  | ((with_reducible refine' w_aug ?hv ?_); (case hv => rfl))
  | with_reducible refine w_for ?_
  | walk_at "f1")
local macro_rules | `(tactic| walk_at "e") => `(tactic| repeat walk_at "e1")
local macro_rules | `(tactic| walk_at "g") => `(tactic| repeat walk_at "s1")
local macro_rules | `(tactic| walk_at "n1") => `(tactic| ((fail_if_success (with_reducible refine w_if ?_)); walk_at "s1"))
local macro_rules | `(tactic| walk_at "n") => `(tactic| repeat walk_at "n1")
local macro_rules | `(tactic| walk_at "p1") => `(tactic| ((fail_if_success (with_reducible refine w_ifs ?_)); walk_at "s1"))
local macro_rules | `(tactic| walk_at "p") => `(tactic| repeat walk_at "p1")
local macro_rules | `(tactic| walk_at "q1") => `(tactic| ((fail_if_success (with_reducible refine w_seq ?_)); walk_at "s1"))
local macro_rules | `(tactic| walk_at "q") => `(tactic| repeat walk_at "q1")

namespace K04
open Dc M24 M5 M04
theorem keys_put (kvs : List (Key × V)) (k : Key) (v : V) : (putK kvs k v).map (·.1) = if (kvs.any fun p => decide (p.1 = k)) = true then kvs.map (·.1) else kvs.map (·.1) ++ [k] := by
  unfold putK
  split
  · rw [List.map_map]
    refine List.map_congr_left fun p _ => ?_
    show (if p.1 = k then (p.1, v) else p).1 = p.1
    split <;> rfl
  · rw [List.map_append]; rfl
/-- a dict whose keys are these places -/
structure DD (kvs : List (Key × V)) (n : Nat) (F : Nat → Prop) (ks : List Nat) : Prop where
  eq : kvs.map (·.1) = ks.map fun q : Nat => (Sum.inl (q : Int) : Key)
  nd : ks.Nodup
  mem : ∀ q, q ∈ ks ↔ F q
  le : ∀ q ∈ ks, q ≤ n
theorem nodup_le {n : Nat} : ∀ {ks : List Nat}, ks.Nodup → (∀ q ∈ ks, q ≤ n) → ks.length ≤ n + 1 := by
  induction n with
  | zero =>
    intro ks hn hl
    match ks, hn, hl with
    | [], _, _ => exact Nat.zero_le _
    | [_], _, _ => exact Nat.le_refl _
    | a :: b :: r, hn, hl =>
      have h1 := hl a List.mem_cons_self
      have h2 := hl b (List.mem_cons_of_mem _ List.mem_cons_self)
      have h3 := (List.nodup_cons.mp hn).1
      exact absurd (by rw [show a = b by omega]; exact List.mem_cons_self) h3
  | succ n ih =>
    intro ks hn hl
    have h1 := ih (ks := ks.filter fun q => decide (q ≠ n + 1)) (hn.filter _) fun q hq => by
      obtain ⟨a, b⟩ := List.mem_filter.mp hq
      have := hl q a
      have := of_decide_eq_true b
      omega
    have h2 : ks.length ≤ (ks.filter fun q => decide (q ≠ n + 1)).length + 1 := by
      clear ih h1 hl
      induction ks with
      | nil => exact Nat.zero_le _
      | cons a r ihr =>
        obtain ⟨na, nr⟩ := List.nodup_cons.mp hn
        by_cases c : a = n + 1
        · rw [List.filter_cons, if_neg (by simp [c])]
          have : r.filter (fun q => decide (q ≠ n + 1)) = r := List.filter_eq_self.mpr fun q hq => decide_eq_true fun e => na (by rw [c, ← e]; exact hq)
          rw [this]
          exact Nat.le_refl _
        · rw [List.filter_cons, if_pos (by simp [c])]
          have := ihr nr
          simp only [List.length_cons]
          omega
    omega
theorem DD.len {kvs : List (Key × V)} {n : Nat} {F : Nat → Prop} {ks : List Nat} (d : DD kvs n F ks) : kvs.length ≤ n + 1 := by
  have e := congrArg List.length d.eq
  rw [List.length_map, List.length_map] at e
  rw [e]
  exact nodup_le d.nd d.le
theorem DD.nil {n : Nat} : DD [] n (fun _ => False) [] := ⟨rfl, List.nodup_nil, fun q => ⟨fun h => absurd h List.not_mem_nil, fun h => h.elim⟩, fun q h => absurd h List.not_mem_nil⟩
theorem DD.congr {kvs : List (Key × V)} {n : Nat} {F G : Nat → Prop} {ks : List Nat} (d : DD kvs n F ks) (h : ∀ q, F q ↔ G q) : DD kvs n G ks := ⟨d.eq, d.nd, fun q => (d.mem q).trans (h q), d.le⟩
theorem DD.put {kvs : List (Key × V)} {n : Nat} {F : Nat → Prop} {ks : List Nat} (d : DD kvs n F ks) {z : Nat} (hz : z ≤ n) (v : V) : ∃ ks', DD (putK kvs (.inl (z : Int)) v) n (fun q => F q ∨ q = z) ks' := by
  have hany : ((kvs.any fun p => decide (p.1 = (Sum.inl (z : Int) : Key))) = true) ↔ z ∈ ks := by
    rw [List.any_eq_true]
    constructor
    · rintro ⟨p, hp, e⟩
      have e := of_decide_eq_true e
      have : (Sum.inl (z : Int) : Key) ∈ kvs.map (·.1) := List.mem_map.mpr ⟨p, hp, e⟩
      rw [d.eq] at this
      obtain ⟨q, hq, e2⟩ := List.mem_map.mp this
      have e3 : (q : Int) = (z : Int) := Sum.inl.inj e2
      have : q = z := by omega
      exact this ▸ hq
    · intro hq
      have : (Sum.inl (z : Int) : Key) ∈ kvs.map (·.1) := by rw [d.eq]; exact List.mem_map.mpr ⟨z, hq, rfl⟩
      obtain ⟨p, hp, e⟩ := List.mem_map.mp this
      exact ⟨p, hp, decide_eq_true e⟩
  by_cases c : z ∈ ks
  · refine ⟨ks, ?_, d.nd, fun q => ⟨fun h => .inl ((d.mem q).mp h), fun h => h.elim (d.mem q).mpr fun e => e ▸ c⟩, d.le⟩
    rw [keys_put, if_pos (hany.mpr c)]
    exact d.eq
  · refine ⟨ks ++ [z], ?_, ?_, fun q => ?_, fun q hq => ?_⟩
    · rw [keys_put, if_neg (fun h => c (hany.mp h)), d.eq, List.map_append]
      rfl
    · refine List.nodup_append.mpr ⟨d.nd, List.nodup_cons.mpr ⟨List.not_mem_nil, List.nodup_nil⟩, fun a ha b hb e => c ?_⟩
      rw [List.mem_singleton.mp hb] at e
      exact e ▸ ha
    · rw [List.mem_append, List.mem_singleton, d.mem]
    · rcases List.mem_append.mp hq with h | h
      · exact d.le q h
      · rw [List.mem_singleton.mp h]; exact hz
theorem sorted_eq : ∀ {a b : List Nat}, a.Pairwise (· < ·) → b.Pairwise (· < ·) → (∀ q, q ∈ a ↔ q ∈ b) → a = b
  | [], [], _, _, _ => rfl
  | [], y :: b, _, _, h => absurd ((h y).mpr List.mem_cons_self) List.not_mem_nil
  | x :: a, [], _, _, h => absurd ((h x).mp List.mem_cons_self) List.not_mem_nil
  | x :: a, y :: b, ha, hb, h => by
    obtain ⟨a1, a2⟩ := List.pairwise_cons.mp ha
    obtain ⟨b1, b2⟩ := List.pairwise_cons.mp hb
    have exy : x = y := by
      have h1 := (h x).mp List.mem_cons_self
      have h2 := (h y).mpr List.mem_cons_self
      rcases List.mem_cons.mp h1 with e | h1
      · exact e
      · rcases List.mem_cons.mp h2 with e | h2
        · exact e.symm
        · have := b1 x h1
          have := a1 y h2
          omega
    subst exy
    rw [sorted_eq a2 b2 fun q => ⟨fun hq => ?_, fun hq => ?_⟩]
    · rcases List.mem_cons.mp ((h q).mp (List.mem_cons_of_mem _ hq)) with e | k
      · have := a1 q hq; omega
      · exact k
    · rcases List.mem_cons.mp ((h q).mpr (List.mem_cons_of_mem _ hq)) with e | k
      · have := b1 q hq; omega
      · exact k
/-- the sorted keys -/
theorem DD.sorted {kvs : List (Key × V)} {n : Nat} {f : Sts} {ks : List Nat} (d : DD kvs n (fun q => f q = true) ks) (hb : bnd f n) {ys : List Int} (hp : ys.Perm (ks.map fun q : Nat => (q : Int))) (hs : ys.Pairwise (· ≤ ·)) : ys = (lst f n).map fun q : Nat => (q : Int) := by
  obtain ⟨zs, rfl⟩ : ∃ zs : List Nat, ys = zs.map fun q : Nat => (q : Int) := by
    have hall : ∀ y ∈ ys, ∃ q : Nat, y = (q : Int) := fun y hy => by
      obtain ⟨q, _, e⟩ := List.mem_map.mp (hp.mem_iff.mp hy)
      exact ⟨q, e.symm⟩
    clear hp hs
    induction ys with
    | nil => exact ⟨[], rfl⟩
    | cons y ys ih =>
      obtain ⟨q, rfl⟩ := hall y List.mem_cons_self
      obtain ⟨zs, rfl⟩ := ih fun y hy => hall y (List.mem_cons_of_mem _ hy)
      exact ⟨q :: zs, rfl⟩
  have inj : ∀ a b : Nat, ((a : Int) = (b : Int)) → a = b := fun a b h => by omega
  have hmem : ∀ q, q ∈ zs ↔ q ∈ ks := fun q => by
    have h1 := hp.mem_iff (a := (q : Int))
    constructor
    · intro h
      obtain ⟨k, hk, e⟩ := List.mem_map.mp (h1.mp (List.mem_map.mpr ⟨q, h, rfl⟩))
      exact inj _ _ e ▸ hk
    · intro h
      obtain ⟨k, hk, e⟩ := List.mem_map.mp (h1.mpr (List.mem_map.mpr ⟨q, h, rfl⟩))
      exact inj _ _ e ▸ hk
  have hnd : (zs.map fun q : Nat => (q : Int)).Nodup := hp.nodup_iff.mpr (List.pairwise_map.mpr (d.nd.imp fun {a b} h e => h (inj a b e)))
  have hlt : zs.Pairwise (· < ·) := by
    have h2 := List.pairwise_map.mp hs
    have h3 := List.pairwise_map.mp (List.nodup_iff_pairwise_ne.mp hnd)
    refine (h2.and h3).imp fun {a b} h => ?_
    omega
  rw [sorted_eq hlt (lst_sorted f n) fun q => ?_]
  rw [hmem, d.mem, mem_lst]
  exact ⟨fun h => ⟨hb q h, h⟩, fun h => h.2⟩
def spClosed : Sp := fun vs H Q _ => ∃ (a : Addr) (xs p : List Nat), vs = [.ref a, .str (S p)] ∧ H a = some (.lst (xs.map nI)) ∧ p.length ≤ 20 ∧ (∀ q ∈ xs, q ≤ p.length) ∧
  ∀ H' r, Same H H' → H r = none → H' r = some (.lst ((lst (clo p fun q => decide (q ∈ xs)) p.length).map nI)) → Q (.ref r) H'
def spStepped : Sp := fun vs H Q _ => ∃ (a : Addr) (xs p : List Nat) (c : Nat), vs = [.ref a, .str (S [c]), .str (S p)] ∧ H a = some (.lst (xs.map nI)) ∧ p.length ≤ 20 ∧ (∀ q ∈ xs, q ≤ p.length) ∧
  ∀ H' r, Same H H' → H r = none → H' r = some (.lst ((lst (stp p c fun q => decide (q ∈ xs)) p.length).map nI)) → Q (.ref r) H'
theorem clo_mem {p xs : List Nat} {q : Nat} : clo p (fun q => decide (q ∈ xs)) q = true ↔ ∃ s ∈ xs, s ≤ q ∧ ∀ j, s ≤ j → j < q → p[j]? = some 42 := by
  rw [clo_iff]
  constructor
  · rintro ⟨s, h1, h2, h3⟩; exact ⟨s, of_decide_eq_true h2, h1, h3⟩
  · rintro ⟨s, h2, h1, h3⟩; exact ⟨s, h1, decide_eq_true h2, h3⟩
theorem stp_mem {p xs : List Nat} {c q : Nat} : stp p c (fun q => decide (q ∈ xs)) q = true ↔ ∃ s ∈ xs, (s = q ∧ p[s]? = some 42) ∨ (s + 1 = q ∧ ∃ d, p[s]? = some d ∧ d ≠ 42 ∧ (d = 95 ∨ d = c)) := by
  unfold stp
  rw [Bool.or_eq_true, Bool.and_eq_true, decide_eq_true_eq, decide_eq_true_eq]
  constructor
  · rintro (⟨h1, h2⟩ | h)
    · exact ⟨q, h1, .inl ⟨rfl, h2⟩⟩
    · cases q with
      | zero => cases h
      | succ q =>
        simp only [Bool.and_eq_true, decide_eq_true_eq] at h
        exact ⟨q, h.1, .inr ⟨rfl, h.2⟩⟩
  · rintro ⟨s, hs, ⟨rfl, h⟩ | ⟨rfl, h⟩⟩
    · exact .inl ⟨hs, h⟩
    · right
      show (decide (s ∈ xs) && decide _) = true
      rw [decide_eq_true hs, decide_eq_true h]
      rfl
theorem nI_map (xs : List Nat) : xs.map nI = (xs.map fun q : Nat => (q : Int)).map V.int := by rw [List.map_map]; rfl
theorem up_same0 {H H' : Hp} {D : Addr} {o : HO} (s : Same H H') (hD : H D = none) : Same H (upd H' D o) := fun b u e => by rw [upd_ne (ne_of_none e hD)]; exact s _ _ e
section
variable {P : Program} {w : World} {K : PySem.W.Frag} {mg : Str → Option Value} {base : Heap} {cTE cTk aL aS aK cKF : Addr}
theorem ok_closed (W : Wv K mg cTE cTk aL aS aK cKF) : Cl P w K mg base 1 "closed" spClosed := by
  refine cl_mk W.d_closed sc_closed (fun _ _ _ _ _ _ us hl => match us, hl with | [_, _], _ => rfl) (fun vs H Q E h => ?_) (fun f cdv A outer s H vs Q E hr h => ?_)
  · obtain ⟨a, xs, p, rfl, _⟩ := h; rfl
  obtain ⟨a, xs, p, rfl, ha, hl, hx, q⟩ := h
  have hz : p.length ≤ sizeLine := Nat.le_trans hl (by decide)
  refine ⟨_, (pss_cons (ps_set (i := 2) sc_closed.nd rfl (Or.inl rfl) pe_dnewK)
    (pss_cons (ps_for (passes_of rfl) rfl (pi_list (pv 0)) (pg_name (i := 3) sc_closed.nd rfl (Or.inl rfl))
    (pss_cons (ps_set (i := 4) sc_closed.nd rfl (Or.inl rfl) (pv 3))
    (pss_cons (ps_asg pe_bl (pg_sub (pv 2) (pv 4) (set_dict (hu_of hr))))
    (pss_one (ps_while (passes_of rfl) (PW.pt (pw_and (pt_cmpR op_lt (pv 4) (pe_callB call_len_str rfl W.n_len PySem.boot_len (pa_cons (pv 1) pa_nil)) (nomark _)) (pw_and1 (pt_cmpR op_eq (pe_ix ix_str (pv 1) (pv 4) (fun _ _ => rfl)) (C8.pe_gc rfl W.c_ANY_TEXT) (nomark _)))))
    (pss_cons (ps_aug (i := 4) sc_closed.nd rfl (Or.inl rfl) pe_int ip_add)
    (pss_one (ps_asg pe_bl (pg_sub (pv 2) (pv 4) (set_dict (hu_of hr)))))))))))
    (pss_one (ps_ret (pe_callB (call_sortedDI rfl) rfl W.n_sorted (by decide +kernel) (pa_cons (pv 2) pa_nil)))))), ?_⟩
  walk_at "g"
  intro D hD
  walk_at "g"
  have hb : bnd (clo p fun q => decide (q ∈ xs)) p.length := clo_bnd fun q h => hx q (of_decide_eq_true h)
  refine w_forL (xs := xs.map nI) (SqL.of (same_new hD _ _ _ ha)) (fun i σ H' => ∃ kvs ks v3 v4, σ = [some (.ref a), some (.str (S p)), some (.ref D), v3, v4] ∧ Same H H' ∧ H' D = some (.dK kvs) ∧
    DD kvs p.length (fun q => ∃ s ∈ xs.take i, s ≤ q ∧ ∀ j, s ≤ j → j < q → p[j]? = some 42) ks) ⟨[], [], none, none, rfl, same_new hD _, upd_same, DD.nil.congr fun q => by simp⟩ (fun i σ H' _ ⟨_, _, _, _, _, e, _⟩ => SqL.of (e _ _ ha)) ?_ ?_
  · rintro i x σ H' hi ⟨kvs, ks, v3, v4, rfl, sH, eD, dd⟩
    obtain ⟨s0, hs0, rfl⟩ : ∃ s0, xs[i]? = some s0 ∧ x = nI s0 := by
      rw [List.getElem?_map] at hi
      cases e : xs[i]? with
      | none => rw [e] at hi; cases hi
      | some y => rw [e] at hi; exact ⟨y, rfl, (Option.some.inj hi).symm⟩
    have hs1 := hx s0 (List.mem_of_getElem? hs0)
    have hlen : ∀ {kvs : List (Key × V)} {F : Nat → Prop} {ks : List Nat}, DD kvs p.length F ks → kvs.length < sizeLine := fun d => Nat.lt_of_le_of_lt d.len (Nat.lt_of_le_of_lt (Nat.succ_le_succ hl) (by decide))
    walk_at "g"
    refine ⟨D, _, rfl, DPut.k (k := .inl (s0 : Int)) eD (hlen dd), ?_⟩
    obtain ⟨ks1, d1⟩ := dd.put hs1 (.bl true)
    refine w_while (fun m σ H' => ∃ (kvs : List (Key × V)) (ks : List Nat) (z : Nat), σ = [some (.ref a), some (.str (S p)), some (.ref D), some (nI s0), some (nI z)] ∧ Same H H' ∧ H' D = some (.dK kvs) ∧ s0 ≤ z ∧ z ≤ p.length ∧ m = p.length - z ∧ (∀ j, s0 ≤ j → j < z → p[j]? = some 42) ∧
      DD kvs p.length (fun q => (∃ s ∈ xs.take i, s ≤ q ∧ ∀ j, s ≤ j → j < q → p[j]? = some 42) ∨ (s0 ≤ q ∧ q ≤ z)) ks)
      (p.length - s0) ⟨_, ks1, s0, rfl, up_same0 sH hD, upd_same, Nat.le_refl _, hs1, rfl, fun j h1 h2 => absurd h2 (by omega), d1.congr fun q => or_congr Iff.rfl (by constructor <;> intro h <;> omega)⟩ ?_
    rintro m σ H2 ⟨kvs2, ks2, z, rfl, s2, e2, hz1, hz2, rfl, hst, d2⟩
    have fin : (z = p.length ∨ p[z]? ≠ some 42) → DD kvs2 p.length (fun q => ∃ s ∈ xs.take (i + 1), s ≤ q ∧ ∀ j, s ≤ j → j < q → p[j]? = some 42) ks2 := by
      intro hend
      refine ⟨d2.eq, d2.nd, fun q => ?_, d2.le⟩
      rw [d2.mem q, List.take_add_one, hs0]
      constructor
      · rintro (⟨s, h1, h2⟩ | ⟨h1, h2⟩)
        · exact ⟨s, List.mem_append_left _ h1, h2⟩
        · exact ⟨s0, List.mem_append_right _ (by simp), h1, fun j h3 h4 => hst j h3 (by omega)⟩
      · rintro ⟨s, h1, h2, h3⟩
        rcases List.mem_append.mp h1 with h1 | h1
        · exact .inl ⟨s, h1, h2, h3⟩
        · have e : s = s0 := by simpa using h1
          subst e
          refine .inr ⟨h2, Nat.le_of_not_lt fun c => ?_⟩
          have h4 := h3 z hz1 c
          rcases hend with h | h
          · rw [h, List.getElem?_eq_none (Nat.le_refl _)] at h4; cases h4
          · exact h h4
    walk_at "g"
    refine w_iteD (fun c1 => ?_) (fun c1 => ?_)
    · have hlt : z < p.length := by have : (z : Int) < (p.length : Int) := c1; omega
      walk_at "g"
      refine w_ixS hz (List.getElem?_eq_getElem hlt) ?_
      walk_at "g"
      refine w_iteD (fun c2 => ?_) (fun c2 => ?_)
      · have c3 : p[z]? = some 42 := by rw [List.getElem?_eq_getElem hlt]; exact congrArg some (List.cons.inj c2).1
        obtain ⟨ks3, d3⟩ := d2.put (z := z + 1) hlt (.bl true)
        refine ⟨fun σ' H'' => ∃ kvs ks, σ' = [some (.ref a), some (.str (S p)), some (.ref D), some (nI s0), some (nI (z + 1))] ∧ Same H H'' ∧ H'' D = some (.dK kvs) ∧ DD kvs p.length (fun q => (∃ s ∈ xs.take i, s ≤ q ∧ ∀ j, s ≤ j → j < q → p[j]? = some 42) ∨ (s0 ≤ q ∧ q ≤ z + 1)) ks,
          fun σ' H'' ⟨kvs, ks, h1, h2, h3, h4⟩ => ⟨p.length - (z + 1), by omega, kvs, ks, z + 1, h1, h2, h3, by omega, hlt, rfl, fun j h5 h6 => ?_, h4⟩, ?_⟩
        · by_cases e : j = z
          · rw [e]; exact c3
          · exact hst j h5 (by omega)
        · walk_at "g"
          refine ⟨D, _, rfl, DPut.k (k := .inl ((z + 1 : Nat) : Int)) e2 (hlen d2), _, ks3, rfl, up_same0 s2 hD, upd_same, d3.congr fun q => ?_⟩
          constructor
          · rintro ((h | h) | h)
            · exact .inl h
            · exact .inr (by omega)
            · exact .inr (by omega)
          · rintro (h | h)
            · exact .inl (.inl h)
            · by_cases e : q = z + 1
              · exact .inr e
              · exact .inl (.inr (by omega))
      · walk_at "g"
        refine ⟨kvs2, ks2, _, _, rfl, s2, e2, fin (.inr fun h => c2 ?_)⟩
        rw [List.getElem?_eq_getElem hlt] at h
        rw [Option.some.inj h]
    · walk_at "g"
      exact ⟨kvs2, ks2, _, _, rfl, s2, e2, fin (.inl (by have : ¬ (z : Int) < (p.length : Int) := c1; omega))⟩
  · rintro σ H' ⟨kvs, ks, v3, v4, rfl, sH, eD, dd⟩
    rw [List.length_map, List.take_length] at dd
    walk_at "g"
    refine ⟨D, kvs, ks.map (fun q : Nat => (q : Int)), rfl, .inl eD, by rw [dd.eq, List.map_map]; rfl, by
      rw [List.length_map]
      have e := congrArg List.length dd.eq
      rw [List.length_map, List.length_map] at e
      have := dd.len
      omega, fun ys r hp hs hr2 => ?_⟩
    have d2 : DD kvs p.length (fun q => clo p (fun q => decide (q ∈ xs)) q = true) ks := dd.congr fun q => clo_mem.symm
    rw [d2.sorted hb hp hs]
    exact q _ r (sH.trans (same_new hr2 _)) (sH.free hr2) (by rw [upd_same, nI_map])
theorem ok_stepped (W : Wv K mg cTE cTk aL aS aK cKF) : Cl P w K mg base 1 "stepped" spStepped := by
  refine cl_mk W.d_stepped sc_stepped (fun _ _ _ _ _ _ us hl => match us, hl with | [_, _, _], _ => rfl) (fun vs H Q E h => ?_) (fun f cdv A outer s H vs Q E hr h => ?_)
  · obtain ⟨a, xs, p, c, rfl, _⟩ := h; rfl
  obtain ⟨a, xs, p, c, rfl, ha, hl, hx, q⟩ := h
  have hz : p.length ≤ sizeLine := Nat.le_trans hl (by decide)
  refine ⟨_, (pss_cons (ps_set (i := 3) sc_stepped.nd rfl (Or.inl rfl) pe_dnewK)
    (pss_cons (ps_for (passes_of rfl) rfl (pi_list (pv 0)) (pg_name (i := 4) sc_stepped.nd rfl (Or.inl rfl))
    (pss_one (ps_if (pt_cmpR op_lt (pv 4) (pe_callB call_len_str rfl W.n_len PySem.boot_len (pa_cons (pv 2) pa_nil)) (nomark _))
    (pss_one (ps_if (pt_cmpR op_eq (pe_ix ix_str (pv 2) (pv 4) (fun _ _ => rfl)) (C8.pe_gc rfl W.c_ANY_TEXT) (nomark _))
    (pss_one (ps_asg pe_bl (pg_sub (pv 3) (pv 4) (set_dict (hu_of hr)))))
    (pss_one (ps_if (pt_cmpR op_in_seq (pe_ix ix_str (pv 2) (pv 4) (fun _ _ => rfl)) (pe_tup (pa_cons (C8.pe_gc rfl W.c_ANY_SIGN) (pa_cons (pv 1) pa_nil))) (by with_unfolding_all rfl))
    (pss_one (ps_asg pe_bl (pg_sub (pv 3) (pe_op op_add (pv 4) pe_int) (set_dict (hu_of hr)))))
    pss_nil))))
    pss_nil)))
    (pss_one (ps_ret (pe_callB (call_sortedDI rfl) rfl W.n_sorted (by decide +kernel) (pa_cons (pv 3) pa_nil)))))), ?_⟩
  walk_at "g"
  intro D hD
  walk_at "g"
  have hb : bnd (stp p c fun q => decide (q ∈ xs)) p.length := stp_bnd fun q h => hx q (of_decide_eq_true h)
  have hlen : ∀ {kvs : List (Key × V)} {F : Nat → Prop} {ks : List Nat}, DD kvs p.length F ks → kvs.length < sizeLine := fun d => Nat.lt_of_le_of_lt d.len (Nat.lt_of_le_of_lt (Nat.succ_le_succ hl) (by decide))
  refine w_forL (xs := xs.map nI) (SqL.of (same_new hD _ _ _ ha)) (fun i σ H' => ∃ kvs ks v4, σ = [some (.ref a), some (.str (S [c])), some (.str (S p)), some (.ref D), v4] ∧ Same H H' ∧ H' D = some (.dK kvs) ∧
    DD kvs p.length (fun q => ∃ s ∈ xs.take i, (s = q ∧ p[s]? = some 42) ∨ (s + 1 = q ∧ ∃ d, p[s]? = some d ∧ d ≠ 42 ∧ (d = 95 ∨ d = c))) ks) ⟨[], [], none, rfl, same_new hD _, upd_same, DD.nil.congr fun q => by simp⟩ (fun i σ H' _ ⟨_, _, _, _, e, _⟩ => SqL.of (e _ _ ha)) ?_ ?_
  · rintro i x σ H' hi ⟨kvs, ks, v4, rfl, sH, eD, dd⟩
    obtain ⟨s0, hs0, rfl⟩ : ∃ s0, xs[i]? = some s0 ∧ x = nI s0 := by
      rw [List.getElem?_map] at hi
      cases e : xs[i]? with
      | none => rw [e] at hi; cases hi
      | some y => rw [e] at hi; exact ⟨y, rfl, (Option.some.inj hi).symm⟩
    have hs1 := hx s0 (List.mem_of_getElem? hs0)
    -- what is added
    have nxt : ∀ {kvs : List (Key × V)} {ks : List Nat} {F : Nat → Prop}, DD kvs p.length (fun q => (∃ s ∈ xs.take i, (s = q ∧ p[s]? = some 42) ∨ (s + 1 = q ∧ ∃ d, p[s]? = some d ∧ d ≠ 42 ∧ (d = 95 ∨ d = c))) ∨ F q) ks →
        (∀ q, F q ↔ ((s0 = q ∧ p[s0]? = some 42) ∨ (s0 + 1 = q ∧ ∃ d, p[s0]? = some d ∧ d ≠ 42 ∧ (d = 95 ∨ d = c)))) → DD kvs p.length (fun q => ∃ s ∈ xs.take (i + 1), (s = q ∧ p[s]? = some 42) ∨ (s + 1 = q ∧ ∃ d, p[s]? = some d ∧ d ≠ 42 ∧ (d = 95 ∨ d = c))) ks := by
      intro kvs ks F d hF
      refine d.congr fun q => ?_
      rw [hF q, List.take_add_one, hs0]
      constructor
      · rintro (⟨s, h1, h2⟩ | h)
        · exact ⟨s, List.mem_append_left _ h1, h2⟩
        · exact ⟨s0, List.mem_append_right _ (by simp), h⟩
      · rintro ⟨s, h1, h2⟩
        rcases List.mem_append.mp h1 with h1 | h1
        · exact .inl ⟨s, h1, h2⟩
        · have e : s = s0 := by simpa using h1
          subst e
          exact .inr h2
    have none0 : (∀ q, ¬ ((s0 = q ∧ p[s0]? = some 42) ∨ (s0 + 1 = q ∧ ∃ d, p[s0]? = some d ∧ d ≠ 42 ∧ (d = 95 ∨ d = c)))) → DD kvs p.length (fun q => ∃ s ∈ xs.take (i + 1), (s = q ∧ p[s]? = some 42) ∨ (s + 1 = q ∧ ∃ d, p[s]? = some d ∧ d ≠ 42 ∧ (d = 95 ∨ d = c))) ks := fun h =>
      nxt (F := fun _ => False) (dd.congr fun q => by simp) fun q => ⟨fun z => z.elim, fun z => h q z⟩
    walk_at "g"
    refine w_iteD (fun c1 => ?_) (fun c1 => ?_)
    · have hlt : s0 < p.length := by have : (s0 : Int) < (p.length : Int) := c1; omega
      have eg : p[s0]? = some p[s0] := List.getElem?_eq_getElem hlt
      walk_at "g"
      refine w_ixS hz eg ?_
      walk_at "g"
      refine w_iteD (fun c2 => ?_) (fun c2 => ?_)
      · have c3 : p[s0] = 42 := (List.cons.inj c2).1
        walk_at "g"
        obtain ⟨ks1, d1⟩ := dd.put hs1 (.bl true)
        refine ⟨D, _, rfl, DPut.k (k := .inl (s0 : Int)) eD (hlen dd), _, ks1, _, rfl, up_same0 sH hD, upd_same, nxt d1 fun q => ?_⟩
        constructor
        · rintro rfl; exact .inl ⟨rfl, by rw [eg, c3]⟩
        · rintro (⟨h, _⟩ | ⟨_, d, h, n, _⟩)
          · exact h.symm
          · rw [eg, c3] at h; exact absurd (Option.some.inj h).symm n
      · have c3 : p[s0] ≠ 42 := fun h => c2 (by rw [h])
        walk_at "g"
        refine w_ixS hz eg ?_
        walk_at "g"
        intro t ht
        refine w_inT (ls := [[95], [c]]) (SqT.of upd_same) ?_
        walk_at "g"
        refine w_iteD (fun c4 => ?_) (fun c4 => ?_)
        · have c5 : p[s0] = 95 ∨ p[s0] = c := by
            rcases List.mem_cons.mp c4 with h | h
            · exact .inl (List.cons.inj h).1
            · exact .inr (List.cons.inj (List.mem_singleton.mp h)).1
          walk_at "g"
          obtain ⟨ks1, d1⟩ := dd.put (z := s0 + 1) hlt (.bl true)
          have nt : D ≠ t := ne_of_none eD ht
          refine ⟨D, _, rfl, DPut.k (k := .inl ((s0 + 1 : Nat) : Int)) (by rw [upd_ne nt]; exact eD) (hlen dd), _, ks1, _, rfl, up_same0 (sH.trans (same_new ht _)) hD, upd_same, nxt d1 fun q => ?_⟩
          constructor
          · rintro rfl; exact .inr ⟨rfl, _, eg, c3, c5⟩
          · rintro (⟨_, h⟩ | ⟨h, _⟩)
            · rw [eg] at h; exact absurd (Option.some.inj h) c3
            · exact h.symm
        · walk_at "g"
          have nt : D ≠ t := ne_of_none eD ht
          refine ⟨kvs, ks, _, rfl, sH.trans (same_new ht _), by rw [upd_ne nt]; exact eD, none0 fun q h => ?_⟩
          rcases h with ⟨_, h⟩ | ⟨_, d, h, _, h2⟩
          · rw [eg] at h; exact c3 (Option.some.inj h)
          · rw [eg] at h
            have e := Option.some.inj h
            refine c4 ?_
            rcases h2 with h2 | h2
            · rw [e, h2]; exact List.mem_cons_self
            · rw [e, h2]; exact List.mem_cons_of_mem _ List.mem_cons_self
    · walk_at "g"
      have hge : p[s0]? = none := List.getElem?_eq_none (by have : ¬ (s0 : Int) < (p.length : Int) := c1; omega)
      refine ⟨kvs, ks, _, rfl, sH, eD, none0 fun q h => ?_⟩
      rcases h with ⟨_, h⟩ | ⟨_, d, h, _⟩
      · rw [hge] at h; cases h
      · rw [hge] at h; cases h
  · rintro σ H' ⟨kvs, ks, v4, rfl, sH, eD, dd⟩
    rw [List.length_map, List.take_length] at dd
    walk_at "g"
    refine ⟨D, kvs, ks.map (fun q : Nat => (q : Int)), rfl, .inl eD, by rw [dd.eq, List.map_map]; rfl, by
      rw [List.length_map]
      have e := congrArg List.length dd.eq
      rw [List.length_map, List.length_map] at e
      have := dd.len
      omega, fun ys r hp hs hr2 => ?_⟩
    have d2 : DD kvs p.length (fun q => stp p c (fun q => decide (q ∈ xs)) q = true) ks := dd.congr fun q => stp_mem.symm
    rw [d2.sorted hb hp hs]
    exact q _ r (sH.trans (same_new hr2 _)) (sH.free hr2) (by rw [upd_same, nI_map])
end
end K04
end

section
-- part K04E
set_option Elab.async false
set_option linter.all false
set_option maxRecDepth 100000
set_option maxHeartbeats 800000
open PySem PySem.Spec PyProof.Rows L2 Fw
local macro_rules | `(tactic| walk_at "e1") => `(tactic| first
  | ((with_reducible refine' w_var ?hv ?_); (case hv => rfl))
  | ((with_reducible refine' K04.w_ixA ?hh ?ha ?_); (case hh => first | assumption | exact upd_same); (case ha => rfl))
  | ((with_reducible refine' K04.w_eqLF ?hl ?_); (case hl => decide +kernel))
  | ((with_reducible refine' K04.w_eqLT ?hl ?_); (case hl => rfl))
  | ((with_reducible refine' K04.w_neLF ?hl ?_); (case hl => decide +kernel))
  | ((with_reducible refine' K04.w_neLT ?hl ?_); (case hl => rfl))
  | with_reducible refine K04.w_isNV ?_
  | with_reducible refine K04.w_notNV ?_
  | ((with_reducible refine' K04.w_modZ ?hc ?_); (case hc => assumption))
  | ((with_reducible refine' K04.w_divZ ?hc ?_); (case hc => assumption))
  | with_reducible refine K04.w_ckw ?_
  | with_reducible refine GnK.w_anyK ?_
  | with_reducible refine Fw.w_notV ?_
  | with_reducible refine F24.w_iZipM ?_
  | with_reducible refine F24.w_iZipA ?_
  | with_reducible refine Fge.w_cld ?_
  | with_reducible refine w_c ?_
  | with_reducible refine w_op ?_
  | with_reducible refine w_un ?_
  | with_reducible refine w_cons ?_
  | with_reducible refine w_nil ?_
  | with_reducible refine w_cl ?_
  | with_reducible refine w_cb ?_
  | with_reducible refine w_gname ?_
  | with_reducible refine w_gsub ?_
  | with_reducible refine w_test ?_
  | with_reducible refine w_B ?_
  | with_reducible refine w_bl ?_
  | with_reducible refine w_and ?_
  | with_reducible refine w_or ?_
  | with_reducible refine w_not ?_
  | with_reducible refine w_if ?_
  | with_reducible refine w_I0 ?_
  | with_reducible refine Gk.w_rU ?_
  | with_reducible refine Dq.w_orV ?_
  | with_reducible refine Dq.w_js ?_
  | with_reducible refine Dq.w_js0 ?_
  | with_reducible refine Dq.w_fm ?_
  | with_reducible refine Dq.w_andV ?_
  | with_reducible refine Gk.w_iEnum ?_
  | with_reducible refine Dq.w_dget ?_
  | with_reducible refine Dq.w_dpop1 ?_
  | with_reducible refine Dq.w_ddel ?_
  | with_reducible refine Dq.w_din ?_
  | with_reducible refine Dq.w_dnotin ?_
  | with_reducible refine Dq.w_dget2 ?_
  | with_reducible refine Dq.w_dnew ?_
  | with_reducible refine Dq.w_fldaug ?_
  | with_reducible refine Dq.w_aSub ?_
  | with_reducible refine Dq.w_aAdd ?_
  | with_reducible refine Dq.w_mkd ?_
  | with_reducible refine Dq.w_notN0 ?_
  | with_reducible refine Dq.w_isN0 ?_
  | with_reducible refine Ftw.w_isTI ?_
  | with_reducible refine Ftw.w_isTS ?_
  | with_reducible refine Ftw.w_isTR ?_
  | with_reducible refine Ftw.w_isTN ?_
  | with_reducible refine Ftw.w_isTtt ?_
  | with_reducible refine Ftw.w_isTft ?_
  | with_reducible refine Ftw.w_isTtf ?_
  | with_reducible refine Ftw.w_isNS ?_
  | with_reducible refine Ftw.w_isNB ?_
  | ((with_reducible refine' Ftw.w_isiRS ?hq ?_); (case hq => assumption))
  | ((with_reducible refine' Ftw.w_isiRT ?hq ?_); (case hq => assumption))
  | ((with_reducible refine' Ftw.w_isiRI ?hq ?_); (case hq => assumption))
  | with_reducible refine Ftw.w_isiIT ?_
  | with_reducible refine Ftw.w_isiII ?_
  | with_reducible refine Dq.w_notNR ?_
  | with_reducible refine Dq.w_isNR ?_
  | with_reducible refine Dq.w_notNI ?_
  | with_reducible refine Dq.w_isNI ?_
  | with_reducible refine L2.w_neOs ?_
  | with_reducible refine w_ipI ?_
  | with_reducible refine w_eqS ?_
  | with_reducible refine w_neS ?_
  | with_reducible refine w_eqI ?_
  | with_reducible refine w_neI ?_
  | with_reducible refine w_eqB ?_
  | with_reducible refine w_neB ?_
  | ((with_reducible refine w_eq ?hs ?_); (case hs => rfl))
  | ((with_reducible refine w_ne ?hs ?_); (case hs => rfl))
  | with_reducible refine w_fld ?_
  | with_reducible refine w_bm ?_
  | with_reducible refine w_bm0 ?_
  | with_reducible refine w_sl ?_
  | with_reducible refine w_part ?_
  | with_reducible refine w_partI ?_
  | with_reducible refine w_nopart ?_
  | ((with_reducible refine' w_ixL ?hh ?ha ?_); (case hh => first | assumption | exact upd_same); (case ha => rfl))
  | ((with_reducible refine' w_setLu ?ha ?_); (case ha => rfl))
  | ((with_reducible refine' w_setL ?hh ?ha ?_); (case hh => first | assumption | exact upd_same); (case ha => rfl))
  | with_reducible refine w_iteT ?_
  | with_reducible refine w_iteF ?_
  | with_reducible refine w_lst ?_
  | with_reducible refine w_tup ?_
  | ((with_reducible refine w_new ?hz ?_); (case hz => rfl))
  | with_reducible refine w_lc ?_
  | with_reducible refine w_iL ?_
  | with_reducible refine w_iT ?_
  | with_reducible refine w_iR1 ?_
  | with_reducible refine w_iR2 ?_
  | with_reducible refine w_yes ?_
  | with_reducible refine w_iStr ?_
  | with_reducible exact tyS
  | with_reducible refine And.intro tyS ?_
  | ((with_reducible refine w_find3 ?_); (first | rw [find3_one] | rw [starts3] | skip))
  | ((with_reducible refine w_2s ?_); (try rw [find_one]))
  | ((with_reducible refine w_inS ?_); rw [S_list])
  | ((with_reducible refine w_lenS ?hz ?_); (case hz => first | assumption | omega | decide); rw [SX.S_len])
  | ((with_reducible refine w_addS ?hz ?_); (case hz => first | assumption | omega | decide); rw [vS_cat])
  | with_reducible refine w_mk ?_
  | with_reducible refine w_me ?_
  | with_reducible refine w_sfld ?_
  | ((with_reducible refine' w_gtup ?hh ?hn ?_); (case hh => first | assumption | exact upd_same); (case hn => rfl))
  | with_reducible refine w_gcons ?_
  | with_reducible refine w_gnil ?_
  | with_reducible refine w_repl ?_
  | with_reducible refine w_star ?_
  | with_reducible refine w_revL ?_
  | with_reducible refine w_isiS ?_
  | with_reducible refine w_isiI ?_
  | with_reducible refine w_isiN ?_
  | with_reducible refine w_chain ?_
  | with_reducible refine w_iEnumT ?_
  | with_reducible refine w_iZip3 ?_
  | with_reducible refine w_iZip ?_
  | with_reducible refine w_lenR3 ?_
  | with_reducible refine w_x1i ?_
  | with_reducible refine w_x1b ?_
  | with_reducible refine w_x1s ?_
  | with_reducible refine w_int1i ?_
  | with_reducible refine w_int1b ?_
  | ((with_reducible refine w_mod ?hc ?_); (case hc => omega))
  | ((with_reducible refine w_fdivW ?hc ?hd ?_); (case hc => omega); (case hd => omega))
  | ((with_reducible refine w_mul ?hc ?_); (case hc => first | exact Or.inr ⟨by decide, by decide⟩ | exact Or.inl ⟨by decide, by decide⟩))
  | ((with_reducible refine w_pow ?hc ?_); (case hc => exact ⟨by decide, by decide, by decide⟩)))
local macro_rules | `(tactic| walk_at "f1") => `(tactic| first
  | walk_at "e1")
local macro_rules | `(tactic| walk_at "s1") => `(tactic| first
  | with_reducible refine w_seq ?_
  | with_reducible refine w_asg ?_
  | with_reducible refine w_ret ?_
  | with_reducible refine w_par ?_
  | with_reducible refine w_drop ?_
  | with_reducible refine w_next ?_
  | with_reducible refine w_ifs ?_
  | ((with_reducible refine' w_aug ?hv ?_); (case hv => rfl))
  | with_reducible refine w_for ?_
  | walk_at "f1")
local macro_rules | `(tactic| walk_at "e") => `(tactic| repeat walk_at "e1")
local macro_rules | `(tactic| walk_at "g") => `(tactic| repeat walk_at "s1")
local macro_rules | `(tactic| walk_at "n1") => `(tactic| ((fail_if_success (with_reducible refine w_if ?_)); walk_at "s1"))
local macro_rules | `(tactic| walk_at "n") => `(tactic| repeat walk_at "n1")
local macro_rules | `(tactic| walk_at "p1") => `(tactic| ((fail_if_success (with_reducible refine w_ifs ?_)); walk_at "s1"))
local macro_rules | `(tactic| walk_at "p") => `(tactic| repeat walk_at "p1")
local macro_rules | `(tactic| walk_at "q1") => `(tactic| ((fail_if_success (with_reducible refine w_seq ?_)); walk_at "s1"))
local macro_rules | `(tactic| walk_at "q") => `(tactic| repeat walk_at "q1")

namespace K04
open Dc M24 M5 M04
def likV : RV → RV → V
  | .txt t, .txt p => .bl (likeR t p)
  | _, _ => .non
def spLike (C : Addr) : Sp := fun vs H Q E => ∃ (u v : RV), vs = [vV u, vV v] ∧ (∀ l, u = .txt l ∨ v = .txt l → l.length ≤ 20) ∧ (isI u = false ∧ isI v = false → ∀ H', Same H H' → Q (likV u v) H') ∧ (isI u = true ∨ isI v = true → ∀ H', Same H H' → E (.ref C) none H')
theorem run_snoc {p : List Nat} : ∀ {t : List Nat} {f : Sts} {x : Nat}, runS p f (t ++ [x]) = clo p (stp p x (runS p f t))
  | [], _, _ => rfl
  | y :: t, f, x => by rw [List.cons_append, runS, runS, run_snoc]
theorem run_bnd {p : List Nat} : ∀ {t : List Nat} {f : Sts}, bnd f p.length → bnd (runS p f t) p.length
  | [], _, h => h
  | y :: t, f, h => run_bnd (t := t) (clo_bnd (stp_bnd h))
theorem lst_mem {f : Sts} {n : Nat} (hb : bnd f n) : (fun q => decide (q ∈ lst f n)) = f := by
  funext q
  cases e : f q with
  | true => exact decide_eq_true (mem_lst.mpr ⟨hb q e, e⟩)
  | false => exact decide_eq_false fun h => by rw [(mem_lst.mp h).2] at e; cases e
theorem f0_mem : (fun q => decide (q ∈ [0])) = f0 := by
  funext q
  unfold f0
  exact decide_eq_decide.mpr List.mem_singleton
theorem f0_bnd (n : Nat) : bnd f0 n := fun q h => by rw [of_decide_eq_true h]; exact Nat.zero_le _
def spRow : Sp := fun vs H Q _ => ∃ (a : Addr) (l : List RV), vs = [.ref a] ∧ H a = some (.tup (l.map vV)) ∧ l.length ≤ 10 ∧
  ∀ (H' : Hp) (r : Addr) (as : List Addr), Same H H' → H r = none → H' r = some (.tup (as.map V.ref)) → as.length = l.length → (∀ (i : Nat) (x : Addr) (v : RV), as[i]? = some x → l[i]? = some v → H' x = some (.tup (rkV v))) → Q (.ref r) H'
section
variable {P : Program} {w : World} {K : PySem.W.Frag} {mg : Str → Option Value} {base : Heap} {cTE cTk aL aS aK cKF : Addr}
theorem ok_like (W : Wv K mg cTE cTk aL aS aK cKF) (c_kind_of : Cl P w K mg base 1 "kind_of" spKind) (c_closed : Cl P w K mg base 1 "closed" spClosed) (c_stepped : Cl P w K mg base 1 "stepped" spStepped) : Cl P w K mg base 2 "like" (spLike cKF) := by
  refine cl_mk W.d_like sc_like (fun _ _ _ _ _ _ us hl => match us, hl with | [_, _], _ => rfl) (fun vs H Q E h => ?_) (fun f cdv A outer s H vs Q E hr h => ?_)
  · obtain ⟨u, v, rfl, _⟩ := h; rfl
  obtain ⟨u, v, rfl, hl, q1, qE⟩ := h
  refine ⟨_, (pss_cons (ps_for (passes_of rfl) rfl (pi_tup (pe_tup (pa_cons (pv 0) (pa_cons (pv 1) pa_nil)))) (pg_name (i := 2) sc_like.nd rfl (Or.inl rfl))
    (pss_one (ps_if (pt_cmpR op_eq (pe_cl c_kind_of hr (by decide) rfl passL (pa_cons (pv 2) pa_nil)) pe_str (nomark _))
    (pss_one (ps_raise rfl (takes_of rfl rfl rfl rfl) (pmk_own PySem.F.excBase_ValueError W.e_KindFault.ox W.e_KindFault.og W.e_KindFault.ok (raises_own W.e_KindFault.ob W.e_KindFault.ot) rfl)))
    pss_nil)))
    (pss_cons (ps_if (PW.pt (pw_or (pt_cmpR op_isN1 (pv 0) pe_non (nomark _)) (pw_or1 (pt_cmpR op_isN1 (pv 1) pe_non (nomark _)))))
    (pss_one (ps_ret pe_non))
    pss_nil)
    (pss_cons (ps_set (i := 3) sc_like.nd rfl (Or.inl rfl) (pe_cl c_closed hr (by decide) rfl passL (pa_cons (pe_lst (pa_cons pe_int pa_nil)) (pa_cons (pv 1) pa_nil))))
    (pss_cons (ps_for (passes_of rfl) rfl (pi_str (pv 0)) (pg_name (i := 4) sc_like.nd rfl (Or.inl rfl))
    (pss_one (ps_set (i := 3) sc_like.nd rfl (Or.inl rfl) (pe_cl c_closed hr (by decide) rfl passL (pa_cons (pe_cl c_stepped hr (by decide) rfl passL (pa_cons (pv 3) (pa_cons (pv 4) (pa_cons (pv 1) pa_nil)))) (pa_cons (pv 1) pa_nil))))))
    (pss_one (ps_ret (pe_cmpR op_in_seq (pe_callB call_len_str rfl W.n_len PySem.boot_len (pa_cons (pv 1) pa_nil)) (pv 3) (by with_unfolding_all rfl)))))))), ?_⟩
  walk_at "g"
  intro p hp
  refine w_forT (xs := [u, v].map vV) (SqT.of upd_same) (fun i σ H' => H' = upd H p (.tup ([u, v].map vV)) ∧ (∀ x ∈ [u, v].take i, isI x = false) ∧ ∃ z : Option V, σ = [some (vV u), some (vV v), z, none, none]) ⟨rfl, by simp, none, rfl⟩ (fun i σ H' _ h => h.1 ▸ SqT.of upd_same) ?_ ?_
  · rintro i x σ H' hi ⟨rfl, ht, z, rfl⟩
    obtain ⟨y, hy, rfl⟩ := vv_at hi
    walk_at "g"
    refine ⟨y, rfl, ?_⟩
    walk_at "g"
    refine w_iteD (fun c1 => ?_) (fun c1 => ?_)
    · refine qE ?_ _ (same_new hp _)
      have c2 := kind_int.mp c1
      have := List.mem_of_getElem? hy
      rcases List.mem_cons.mp this with rfl | h
      · exact .inl c2
      · rw [List.mem_singleton.mp h] at c2; exact .inr c2
    · walk_at "g"
      exact ⟨rfl, take_next hy ht (no_eq fun h => c1 (kind_int.mpr h)), _, rfl⟩
  rintro σ H' ⟨rfl, ht, z, rfl⟩
  have hu : isI u = false := ht u (by simp)
  have hv : isI v = false := ht v (by simp)
  have q : ∀ H', Same (upd H p (.tup ([u, v].map vV))) H' → Q (likV u v) H' := fun H' s => q1 ⟨hu, hv⟩ _ ((same_new hp _).trans s)
  generalize upd H p (.tup ([u, v].map vV)) = H1 at q
  clear q1 qE ht
  cases u with
  | num l => cases hu
  | non =>
    rw [show likV .non v = V.non from by cases v <;> rfl] at q
    walk_at "g"
    refine w_iteD (fun c1 => ?_) (fun c1 => absurd rfl c1)
    walk_at "g"
    exact q _ (Same.refl _)
  | txt t =>
    cases v with
    | num l => cases hv
    | non =>
      rw [show likV (.txt t) .non = V.non from rfl] at q
      walk_at "g"
      refine w_iteD (fun c1 => ?_) (fun c1 => ?_)
      · walk_at "g"
        exact q _ (Same.refl _)
      walk_at "g"
      refine w_iteD (fun c1 => ?_) (fun c1 => absurd rfl c1)
      walk_at "g"
      exact q _ (Same.refl _)
    | txt pt =>
      have a1 := hl t (.inl rfl)
      have a2 := hl pt (.inr rfl)
      have hz : pt.length ≤ sizeLine := Nat.le_trans a2 (by decide)
      rw [show likV (.txt t) (.txt pt) = V.bl (likeR t pt) from rfl] at q
      rw [show vV (.txt t) = V.str (S t) from rfl, show vV (.txt pt) = V.str (S pt) from rfl]
      walk_at "g"
      intro l0 hl0
      walk_at "g"
      refine ⟨l0, [0], pt, rfl, upd_same, a2, fun q hq => by rw [List.mem_singleton.mp hq]; exact Nat.zero_le _, fun H2 r s2 hr2 e2 => ?_⟩
      rw [f0_mem] at e2
      have sA : Same H1 H2 := (same_new hl0 _).trans s2
      walk_at "g"
      refine w_forS (fun i σ H' => ∃ (r : Addr) (v : Option V), σ = [some (.str (S t)), some (.str (S pt)), z, some (.ref r), v] ∧ Same H1 H' ∧ H' r = some (.lst ((lst (runS pt (clo pt f0) (t.take i)) pt.length).map nI)))
        ⟨r, none, rfl, sA, e2⟩ ?_ ?_
      · rintro i c σ H3 hi ⟨r3, v3, rfl, s3, e3⟩
        have hb : bnd (runS pt (clo pt f0) (t.take i)) pt.length := run_bnd (clo_bnd (f0_bnd _))
        walk_at "g"
        refine ⟨r3, _, pt, c, rfl, e3, a2, fun q hq => (mem_lst.mp hq).1, fun H4 r4 s4 hr4 e4 => ?_⟩
        rw [lst_mem hb] at e4
        walk_at "g"
        refine ⟨r4, _, pt, rfl, e4, a2, fun q hq => (mem_lst.mp hq).1, fun H5 r5 s5 hr5 e5 => ?_⟩
        rw [lst_mem (stp_bnd hb), ← run_snoc] at e5
        refine ⟨r5, _, rfl, (s3.trans s4).trans s5, ?_⟩
        rw [List.take_add_one, hi]
        exact e5
      · rintro σ H3 ⟨r3, v3, rfl, s3, e3⟩
        rw [List.take_length] at e3
        walk_at "g"
        refine w_inNat e3 ?_
        have hb : bnd (runS pt (clo pt f0) t) pt.length := run_bnd (clo_bnd (f0_bnd _))
        have e : decide (pt.length ∈ lst (runS pt (clo pt f0) t) pt.length) = likeR t pt := by
          rw [← like_run]
          exact congrFun (lst_mem hb) pt.length
        rw [e]
        exact q _ s3
theorem ok_row_rank (W : Wv K mg cTE cTk aL aS aK cKF) (c_rank : Cl P w K mg base 1 "rank" spRank) : Cl P w K mg base 2 "row_rank" spRow := by
  refine cl_mk W.d_row_rank sc_row_rank (fun _ _ _ _ _ _ us hl => match us, hl with | [_], _ => rfl) (fun vs H Q E h => ?_) (fun f cdv A outer s H vs Q E hr h => ?_)
  · obtain ⟨a, l, rfl, _⟩ := h; rfl
  obtain ⟨a, l, rfl, ha, hl, q⟩ := h
  refine ⟨_, (pss_one (ps_ret (pe_callTy call_tuple_of rfl W.n_tuple (by decide +kernel) (pa_cons (pe_lc (own := [("value", 1)]) rfl sc_row_rank.nd (pi_tup (pv 0)) (blkOk_by (own := [("value", 1)]) (N := ["row", "value"]) (sc := defScope s_row_rank) (by decide +kernel)) (fun _ _ _ _ _ => (pg_name (i := 1) sc_row_rank.nd rfl (by first | exact Or.inl rfl | exact Or.inr rfl))) (fun _ _ _ _ _ => pts_nil) (fun _ _ _ _ _ => (pe_cl c_rank hr (by decide) rfl passL (pa_cons (pv 1) pa_nil)))) pa_nil)))), ?_⟩
  walk_at "g"
  refine w_lcTn (SqT.of ha) fun D hD => ⟨fun i H2 => ∃ as : List Addr, as.length = i ∧ Same H H2 ∧ H2 D = some (.lst (as.map V.ref)) ∧ (∀ (j : Nat) (x : Addr) (v : RV), as[j]? = some x → l[j]? = some v → H2 x = some (.tup (rkV v)) ∧ x ≠ D),
    ⟨[], rfl, same_new hD _, upd_same, fun j x v h => by simp at h⟩, fun i H2 _ ⟨as, _, s2, _⟩ => SqT.of (s2 _ _ ha), ?_, ?_⟩
  · rintro i x H2 hi ⟨as, el, s2, eD, hr2⟩
    obtain ⟨y, hy, rfl⟩ := vv_at hi
    have hil := (List.getElem?_eq_some_iff.mp hy).1
    walk_at "g"
    refine ⟨rfl, ?_⟩
    walk_at "g"
    refine ⟨y, rfl, fun p hp => ?_⟩
    have np : D ≠ p := ne_of_none eD hp
    refine ⟨as.map V.ref, by rw [upd_ne np]; exact eD, by rw [List.length_map, el]; exact Nat.lt_of_lt_of_le (Nat.lt_of_lt_of_le hil hl) (by decide), as ++ [p], by rw [List.length_append, el]; rfl, ?_, by rw [upd_same, List.map_append]; rfl, fun j x v h1 h2 => ?_⟩
    · exact up_same0 (s2.trans (same_new hp _)) hD
    · by_cases c : j < i
      · rw [List.getElem?_append_left (by omega)] at h1
        obtain ⟨h3, h4⟩ := hr2 j x v h1 h2
        exact ⟨by rw [upd_ne h4, upd_ne (ne_of_none h3 hp)]; exact h3, h4⟩
      · rw [List.getElem?_append_right (by omega)] at h1
        have hj : j = i := by
          have := (List.getElem?_eq_some_iff.mp h1).1
          simp at this
          omega
        subst hj
        rw [el, Nat.sub_self] at h1
        have e1 : p = x := Option.some.inj h1
        subst e1
        rw [hy] at h2
        cases h2
        exact ⟨by rw [upd_ne np.symm, upd_same], np.symm⟩
  · rintro H2 ⟨as, el, s2, eD, hr2⟩
    rw [List.length_map] at el
    walk_at "g"
    refine ⟨D, _, rfl, .inl ⟨SqL.of eD, fun r hr3 => ?_⟩⟩
    refine q _ r as (s2.trans (same_new hr3 _)) (s2.free hr3) upd_same el fun i x v h1 h2 => ?_
    obtain ⟨h3, _⟩ := hr2 i x v h1 h2
    rw [upd_ne (ne_of_none h3 hr3)]
    exact h3
end
end K04
end

section
-- part K04F
set_option Elab.async false
set_option linter.all false
set_option maxRecDepth 100000
set_option maxHeartbeats 800000
open PySem PySem.Spec PyProof.Rows L2 Fw
local macro_rules | `(tactic| walk_at "e1") => `(tactic| first
  | ((with_reducible refine' w_var ?hv ?_); (case hv => rfl))
  | ((with_reducible refine' K04.w_ixA ?hh ?ha ?_); (case hh => first | assumption | exact upd_same); (case ha => rfl))
  | ((with_reducible refine' K04.w_eqLF ?hl ?_); (case hl => decide +kernel))
  | ((with_reducible refine' K04.w_eqLT ?hl ?_); (case hl => rfl))
  | ((with_reducible refine' K04.w_neLF ?hl ?_); (case hl => decide +kernel))
  | ((with_reducible refine' K04.w_neLT ?hl ?_); (case hl => rfl))
  | with_reducible refine K04.w_isNV ?_
  | with_reducible refine K04.w_notNV ?_
  | ((with_reducible refine' K04.w_modZ ?hc ?_); (case hc => assumption))
  | ((with_reducible refine' K04.w_divZ ?hc ?_); (case hc => assumption))
  | with_reducible refine K04.w_ckw ?_
  | with_reducible refine GnK.w_anyK ?_
  | with_reducible refine Fw.w_notV ?_
  | with_reducible refine F24.w_iZipM ?_
  | with_reducible refine F24.w_iZipA ?_
  | with_reducible refine Fge.w_cld ?_
  | with_reducible refine w_c ?_
  | with_reducible refine w_op ?_
  | with_reducible refine w_un ?_
  | with_reducible refine w_cons ?_
  | with_reducible refine w_nil ?_
  | with_reducible refine w_cl ?_
  | with_reducible refine w_cb ?_
  | with_reducible refine w_gname ?_
  | with_reducible refine w_gsub ?_
  | with_reducible refine w_test ?_
  | with_reducible refine w_B ?_
  | with_reducible refine w_bl ?_
  | with_reducible refine w_and ?_
  | with_reducible refine w_or ?_
  | with_reducible refine w_not ?_
  | with_reducible refine w_if ?_
  | with_reducible refine w_I0 ?_
  | with_reducible refine Gk.w_rU ?_
  | with_reducible refine Dq.w_orV ?_
  | with_reducible refine Dq.w_js ?_
  | with_reducible refine Dq.w_js0 ?_
  | with_reducible refine Dq.w_fm ?_
  | with_reducible refine Dq.w_andV ?_
  | with_reducible refine Gk.w_iEnum ?_
  | with_reducible refine Dq.w_dget ?_
  | with_reducible refine Dq.w_dpop1 ?_
  | with_reducible refine Dq.w_ddel ?_
  | with_reducible refine Dq.w_din ?_
  | with_reducible refine Dq.w_dnotin ?_
  | with_reducible refine Dq.w_dget2 ?_
  | with_reducible refine Dq.w_dnew ?_
  | with_reducible refine Dq.w_fldaug ?_
  | with_reducible refine Dq.w_aSub ?_
  | with_reducible refine Dq.w_aAdd ?_
  | with_reducible refine Dq.w_mkd ?_
  | with_reducible refine Dq.w_notN0 ?_
  | with_reducible refine Dq.w_isN0 ?_
  | with_reducible refine Ftw.w_isTI ?_
  | with_reducible refine Ftw.w_isTS ?_
  | with_reducible refine Ftw.w_isTR ?_
  | with_reducible refine Ftw.w_isTN ?_
  | with_reducible refine Ftw.w_isTtt ?_
  | with_reducible refine Ftw.w_isTft ?_
  | with_reducible refine Ftw.w_isTtf ?_
  | with_reducible refine Ftw.w_isNS ?_
  | with_reducible refine Ftw.w_isNB ?_
  | ((with_reducible refine' Ftw.w_isiRS ?hq ?_); (case hq => assumption))
  | ((with_reducible refine' Ftw.w_isiRT ?hq ?_); (case hq => assumption))
  | ((with_reducible refine' Ftw.w_isiRI ?hq ?_); (case hq => assumption))
  | with_reducible refine Ftw.w_isiIT ?_
  | with_reducible refine Ftw.w_isiII ?_
  | with_reducible refine Dq.w_notNR ?_
  | with_reducible refine Dq.w_isNR ?_
  | with_reducible refine Dq.w_notNI ?_
  | with_reducible refine Dq.w_isNI ?_
  | with_reducible refine L2.w_neOs ?_
  | with_reducible refine w_ipI ?_
  | with_reducible refine w_eqS ?_
  | with_reducible refine w_neS ?_
  | with_reducible refine w_eqI ?_
  | with_reducible refine w_neI ?_
  | with_reducible refine w_eqB ?_
  | with_reducible refine w_neB ?_
  | ((with_reducible refine w_eq ?hs ?_); (case hs => rfl))
  | ((with_reducible refine w_ne ?hs ?_); (case hs => rfl))
  | with_reducible refine w_fld ?_
  | with_reducible refine w_bm ?_
  | with_reducible refine w_bm0 ?_
  | with_reducible refine w_sl ?_
  | with_reducible refine w_part ?_
  | with_reducible refine w_partI ?_
  | with_reducible refine w_nopart ?_
  | ((with_reducible refine' w_ixL ?hh ?ha ?_); (case hh => first | assumption | exact upd_same); (case ha => rfl))
  | ((with_reducible refine' w_setLu ?ha ?_); (case ha => rfl))
  | ((with_reducible refine' w_setL ?hh ?ha ?_); (case hh => first | assumption | exact upd_same); (case ha => rfl))
  | with_reducible refine w_iteT ?_
  | with_reducible refine w_iteF ?_
  | with_reducible refine w_lst ?_
  | with_reducible refine w_tup ?_
  | ((with_reducible refine w_new ?hz ?_); (case hz => rfl))
  | with_reducible refine w_lc ?_
  | with_reducible refine w_iL ?_
  | with_reducible refine w_iT ?_
  | with_reducible refine w_iR1 ?_
  | with_reducible refine w_iR2 ?_
  | with_reducible refine w_yes ?_
  | with_reducible refine w_iStr ?_
  | with_reducible exact tyS
  | with_reducible refine And.intro tyS ?_
  | ((with_reducible refine w_find3 ?_); (first | rw [find3_one] | rw [starts3] | skip))
  | ((with_reducible refine w_2s ?_); (try rw [find_one]))
  | ((with_reducible refine w_inS ?_); rw [S_list])
  | ((with_reducible refine w_lenS ?hz ?_); (case hz => first | assumption | omega | decide); rw [SX.S_len])
  | ((with_reducible refine w_addS ?hz ?_); (case hz => first | assumption | omega | decide); rw [vS_cat])
  | with_reducible refine w_mk ?_
  | with_reducible refine w_me ?_
  | with_reducible refine w_sfld ?_
  | ((with_reducible refine' w_gtup ?hh ?hn ?_); (case hh => first | assumption | exact upd_same); (case hn => rfl))
  | with_reducible refine w_gcons ?_
  | with_reducible refine w_gnil ?_
  | with_reducible refine w_repl ?_
  | with_reducible refine w_star ?_
  | with_reducible refine w_revL ?_
  | with_reducible refine w_isiS ?_
  | with_reducible refine w_isiI ?_
  | with_reducible refine w_isiN ?_
  | with_reducible refine w_chain ?_
  | with_reducible refine w_iEnumT ?_
  | with_reducible refine w_iZip3 ?_
  | with_reducible refine w_iZip ?_
  | with_reducible refine w_lenR3 ?_
  | with_reducible refine w_x1i ?_
  | with_reducible refine w_x1b ?_
  | with_reducible refine w_x1s ?_
  | with_reducible refine w_int1i ?_
  | with_reducible refine w_int1b ?_
  | ((with_reducible refine w_mod ?hc ?_); (case hc => omega))
  | ((with_reducible refine w_fdivW ?hc ?hd ?_); (case hc => omega); (case hd => omega))
  | ((with_reducible refine w_mul ?hc ?_); (case hc => first | exact Or.inr ⟨by decide, by decide⟩ | exact Or.inl ⟨by decide, by decide⟩))
  | ((with_reducible refine w_pow ?hc ?_); (case hc => exact ⟨by decide, by decide, by decide⟩)))
local macro_rules | `(tactic| walk_at "f1") => `(tactic| first
  | walk_at "e1")
local macro_rules | `(tactic| walk_at "s1") => `(tactic| first
  | with_reducible refine w_seq ?_
  | with_reducible refine w_asg ?_
  | with_reducible refine w_ret ?_
  | with_reducible refine w_par ?_
  | with_reducible refine w_drop ?_
  | with_reducible refine w_next ?_
  | with_reducible refine w_ifs ?_
  | ((with_reducible refine' w_aug ?hv ?_); (case hv => rfl))
  | with_reducible refine w_for ?_
  | walk_at "f1")
local macro_rules | `(tactic| walk_at "e") => `(tactic| repeat walk_at "e1")
local macro_rules | `(tactic| walk_at "g") => `(tactic| repeat walk_at "s1")
local macro_rules | `(tactic| walk_at "n1") => `(tactic| ((fail_if_success (with_reducible refine w_if ?_)); walk_at "s1"))
local macro_rules | `(tactic| walk_at "n") => `(tactic| repeat walk_at "n1")
local macro_rules | `(tactic| walk_at "p1") => `(tactic| ((fail_if_success (with_reducible refine w_ifs ?_)); walk_at "s1"))
local macro_rules | `(tactic| walk_at "p") => `(tactic| repeat walk_at "p1")
local macro_rules | `(tactic| walk_at "q1") => `(tactic| ((fail_if_success (with_reducible refine w_seq ?_)); walk_at "s1"))
local macro_rules | `(tactic| walk_at "q") => `(tactic| repeat walk_at "q1")

namespace K04
open Dc Gk M24 M5 M04 LamX
def txtV : RV → List Nat
  | .non => [110, 117, 108, 108]
  | .txt l => 39 :: (StrLaws.dbl 39 l ++ [39])
  | .num n => M7.intL n
def spQuo : Sp := fun vs H Q _ => ∃ l : List Nat, vs = [.str (S l)] ∧ l.length ≤ 1000 ∧ Q (.str (S (39 :: (StrLaws.dbl 39 l ++ [39])))) H
def spText : Sp := fun vs H Q _ => ∃ v : RV, vs = [vV v] ∧ (∀ l, v = .txt l → l.length ≤ 1000) ∧ okN v ∧ Q (.str (S (txtV v))) H
def kn (l : List RV) : List RV := l.filter fun v => !decide (v = .non)
def nums (l : List RV) : List Int := l.filterMap fun v => match v with | .num n => some n | _ => none
theorem kn_nums : ∀ {l : List RV}, (∀ v ∈ l, isT v = false) → (kn l).map vV = (nums l).map V.int
  | [], _ => rfl
  | .non :: r, h => kn_nums (l := r) fun v hv => h v (List.mem_cons_of_mem _ hv)
  | .txt t :: r, h => by have := h (.txt t) List.mem_cons_self; cases this
  | .num n :: r, h => congrArg (V.int n :: ·) (kn_nums fun v hv => h v (List.mem_cons_of_mem _ hv))
theorem kn_any : ∀ l : List RV, (kn l).any isT = l.any isT
  | [] => rfl
  | .non :: r => kn_any r
  | .txt t :: r => rfl
  | .num n :: r => kn_any r
theorem kn_len : ∀ l : List RV, (kn l).length ≤ l.length := fun l => List.length_filter_le _ _
theorem kn_snoc (l : List RV) (v : RV) : kn (l ++ [v]) = if (!decide (v = .non)) = true then kn l ++ [v] else kn l := by
  unfold kn
  rw [List.filter_append, List.filter_cons]
  split
  · rfl
  · simp
def sumV (l : List RV) : V := if nums l = [] then .non else inR (nums l).sum
abbrev TQ (Pl Pf : Addr) : List (Addr × Str) := [(Pl, (("law" : Str) ++ (".<locals>." : Str)) ++ ("<lambda>" : Str)), (Pf, (("sum_of" : Str) ++ (".<locals>." : Str)) ++ ("<genexpr>" : Str))]
theorem tq_f {Pl Pf : Addr} : (Pf, (("sum_of" : Str) ++ (".<locals>." : Str)) ++ ("<genexpr>" : Str)) ∈ TQ Pl Pf := List.mem_cons_of_mem _ List.mem_cons_self
theorem tq_l {Pl Pf : Addr} : (Pl, (("law" : Str) ++ (".<locals>." : Str)) ++ ("<lambda>" : Str)) ∈ TQ Pl Pf := List.mem_cons_self
theorem tq_uf {Pl Pf : Addr} (n : Pl ≠ Pf) : ∀ p ∈ TQ Pl Pf, p.1 = Pf → p.2 = (("sum_of" : Str) ++ (".<locals>." : Str)) ++ ("<genexpr>" : Str) := fun p hp e => by
  rcases List.mem_cons.mp hp with rfl | hp
  · exact absurd e n
  · rw [List.mem_singleton.mp hp]
theorem tq_ul {Pl Pf : Addr} (n : Pl ≠ Pf) : ∀ p ∈ TQ Pl Pf, p.1 = Pl → p.2 = (("law" : Str) ++ (".<locals>." : Str)) ++ ("<lambda>" : Str) := fun p hp e => by
  rcases List.mem_cons.mp hp with rfl | hp
  · rfl
  · rw [List.mem_singleton.mp hp] at e
    exact absurd e.symm n
def spSum (C : Addr) (T : List (Addr × Str)) : Sp := fun vs H Q E => ∃ (a : Addr) (l : List RV), vs = [.ref a] ∧ H a = some (.lst (l.map vV)) ∧ l.length ≤ 20 ∧ Tabs T H ∧
  (l.any isT = true → ∀ H', ExtN H H' → Tabs T H' → E (.ref C) none H') ∧ (l.any isT = false → ∀ H', ExtN H H' → Tabs T H' → Q (sumV l) H')
def spLeast : Sp := fun vs H Q _ => ∃ (a : Addr) (l : List RV) (g : Bool), vs = [.ref a, .bl g] ∧ H a = some (.lst (l.map vV)) ∧ l.length ≤ 20 ∧ (∀ v ∈ l, isT v = false) ∧
  (nums l = [] → ∀ H', Same H H' → Q .non H') ∧ (nums l ≠ [] → ∀ m, m ∈ nums l → (∀ k ∈ nums l, if g = true then k ≤ m else m ≤ k) → ∀ H', Same H H' → Q (.int m) H')
/-- sum_of as the top has it -/
structure TabF (K : PySem.W.Frag) (mg : Str → Option Value) (base : Heap) (Pf : Addr) : Prop where
  ex : ∃ (f c : Addr) (fd : FuncData), FunD K "sum_of" "sum_of" (defArgs s_sum_of) (defBody s_sum_of) (defScope s_sum_of) [] [] f fd ∧ mg "sum_of" = some (.ref f) ∧ fd.code = .ref c ∧ TabB base mg c Pf
section
variable {P : Program} {w : World} {K : PySem.W.Frag} {mg : Str → Option Value} {base : Heap} {cTE cTk aL aS aK cKF : Addr}
theorem ok_quoted (W : Wv K mg cTE cTk aL aS aK cKF) : Cl P w K mg base 1 "quoted" spQuo := by
  refine cl_mk W.d_quoted sc_quoted (fun _ _ _ _ _ _ us hl => match us, hl with | [_], _ => rfl) (fun vs H Q E h => ?_) (fun f cdv A outer s H vs Q E hr h => ?_)
  · obtain ⟨l, rfl, _⟩ := h; rfl
  obtain ⟨l, rfl, hl, q⟩ := h
  refine ⟨_, (pss_one (ps_ret (pe_op op_add_str (pe_opStr op_add_str (CwR.pet_replC (pv 0))) pe_str))), ?_⟩
  walk_at "g"
  refine ⟨_, rfl, ?_, ?_⟩
  · rw [SX.S_len]
    have e : (Str.ofString "''").length = 2 := by decide
    rw [e]
    omega
  rw [show (Str.ofString "'" : Str) = S [39] from rfl, show (Str.ofString "''" : Str) = S [39, 39] from rfl, repl_dbl]
  have hd := dbl_len 39 l
  have h1 : ([39] : List Nat).length + (StrLaws.dbl 39 l).length ≤ sizeLine := Nat.le_trans (show ([39] : List Nat).length + (StrLaws.dbl 39 l).length ≤ 2001 by simp only [List.length_singleton]; omega) (by decide)
  have h2 : ([39] ++ StrLaws.dbl 39 l).length + ([39] : List Nat).length ≤ sizeLine := Nat.le_trans (show ([39] ++ StrLaws.dbl 39 l).length + ([39] : List Nat).length ≤ 2002 by simp only [List.length_append, List.length_singleton]; omega) (by decide)
  refine w_addS h1 ?_
  rw [vS_cat]
  walk_at "g"
  exact q
theorem ok_value_text (W : Wv K mg cTE cTk aL aS aK cKF) (c_quoted : Cl P w K mg base 1 "quoted" spQuo) : Cl P w K mg base 2 "value_text" spText := by
  refine cl_mk W.d_value_text sc_value_text (fun _ _ _ _ _ _ us hl => match us, hl with | [_], _ => rfl) (fun vs H Q E h => ?_) (fun f cdv A outer s H vs Q E hr h => ?_)
  · obtain ⟨v, rfl, _⟩ := h; rfl
  obtain ⟨v, rfl, hl, ho, q⟩ := h
  refine ⟨_, (pss_cons (ps_if (pt_cmpR op_isN1 (pv 0) pe_non (nomark _))
    (pss_one (ps_ret pe_str))
    pss_nil)
    (pss_cons (ps_if (pt_val (pe_callB L2.call_isi rfl W.n_isinstance PyProof.Rows.boot_isinstance (pa_cons (pv 0) (pa_cons (pe_bltn (v := .ty "str") rfl W.n_str (by decide +kernel) rfl) pa_nil))))
    (pss_one (ps_ret (pe_cl c_quoted hr (by decide) rfl passL (pa_cons (pv 0) pa_nil))))
    pss_nil)
    (pss_one (ps_ret (pe_callTy call_str_int rfl W.n_str (by decide +kernel) (pa_cons (pv 0) pa_nil)))))), ?_⟩
  cases v with
  | non =>
    rw [show vV .non = V.non from rfl]
    walk_at "g"
    exact q
  | txt l =>
    rw [show vV (.txt l) = V.str (S l) from rfl]
    walk_at "g"
    exact ⟨l, rfl, hl l rfl, q⟩
  | num n =>
    rw [show vV (.num n) = V.int n from rfl]
    walk_at "g"
    refine ⟨?_, ?_⟩
    · have hn : n.natAbs < 2 ^ 64 := by
        have h := ho
        unfold okN HI at h
        omega
      exact Nat.lt_trans (PySem.Flt.log2_lt_of (by decide) hn) (by decide)
    · rw [show V.str (toString n) = V.str (S (M7.intL n)) from congrArg V.str (Ftw.int_S n)]
      exact q
theorem ok_sum_of {Pl Pf : Addr} (W : Wv K mg cTE cTk aL aS aK cKF) (TF : TabF K mg base Pf) (nT : Pl ≠ Pf) (c_in_range : Cl P w K mg base 1 "in_range" spRange) : Cl P w K mg base 3 "sum_of" (spSum cKF (TQ Pl Pf)) := by
  obtain ⟨f, c, fd, F, hmg, hc, TB⟩ := TF.ex
  have bb := F.bindsN (ps := ["values"]) (fun _ _ _ _ _ _ us hl => match us, hl with | [_], _ => rfl)
  refine ⟨f, fd, ["values"], ?_, hmg, F.kp, bb⟩
  clear bb hmg
  have hTm := tq_f (Pl := Pl) (Pf := Pf)
  have hTu := tq_uf nT
  obtain ⟨fk, fdk, Fk, hmk⟩ := W.d_kind_of
  have bk := Fk.bindsN (ps := ["value"]) (fun _ _ _ _ _ _ us hl => match us, hl with | [_], _ => rfl)
  have nk : GnK.NmV (defScope s_kind_of) "value" := ⟨rfl, rfl, rfl, rfl, by decide⟩
  obtain ⟨oc, od, dV, kV, doc, pm, an, cdv, ct, osl, rfl, lk, hcd, _, _⟩ := F.ex
  obtain rfl : cdv = .ref c := hc
  refine fn_of lk hcd sc_sum_of (fun vs H Q E h => ?_) fun A outer s H vs Q E hr h => ?_
  · obtain ⟨a, l, rfl, _⟩ := h; rfl
  obtain ⟨a, l, rfl, hS, hl, hT, qE, q⟩ := h
  have hD : (A.deeper (envOfC "sum_of" (defScope s_sum_of) s.heap.objs.size f (.ref c))).depth + 1 < recursionLimit := by have := hr.dp; omega
  refine ⟨_, (pss_cons (ps_setLc (i := 1) (own := [("value", 2)]) rfl sc_sum_of.nd rfl rfl (sw_true rfl rfl rfl (by decide +kernel)) (pi_list (pv 0)) (blkOk_by (own := [("value", 2)]) (N := ["values", "known", "value"]) (sc := defScope s_sum_of) (by decide +kernel)) (fun _ _ _ _ _ => (pg_name (i := 2) sc_sum_of.nd rfl (by first | exact Or.inl rfl | exact Or.inr rfl))) (fun _ _ _ _ _ => (pts_one (pt_cmpR op_notN1 (pv 2) pe_non (nomark _)))) (fun _ _ _ _ _ => (pv 2)))
    (pss_cons (ps_if (pt_val (GnK.pe_anyK hr rfl W.n_any TB rfl hTm hTu (GnI.genS_by (by kernel_rfl)) (pv 1) (fun M => GnK.elt_kind Fk sc_kind_of bk nk W.n_isinstance W.n_str hmk Fk.kp rfl rfl rfl hD (by decide) (by decide) M) (fun _ => rfl)))
    (pss_one (ps_raise rfl (takes_of rfl rfl rfl rfl) (pmk_own PySem.F.excBase_ValueError W.e_KindFault.ox W.e_KindFault.og W.e_KindFault.ok (raises_own W.e_KindFault.ob W.e_KindFault.ot) rfl)))
    pss_nil)
    (pss_cons (ps_if (pt_cmpR (op_eqD (hu64 hr)) (pv 1) (pe_lst pa_nil) (nomark _))
    (pss_one (ps_ret pe_non))
    pss_nil)
    (pss_one (ps_ret (pe_cl c_in_range hr (by decide) rfl passL (pa_cons (pe_callB (cr_sumA rfl) rfl W.n_sum PyProof.Rows.boot_sum (pa_cons (pv 1) pa_nil)) pa_nil))))))), ?_⟩
  walk_at "g"
  refine w_lcLn (SqL.of hS) fun D hD => ⟨fun i H2 => Same H H2 ∧ H2 D = some (.lst ((kn (l.take i)).map vV)), ⟨same_new hD _, upd_same⟩, fun i H2 _ ⟨s2, _⟩ => SqL.of (s2 _ _ hS), ?_, ?_⟩
  · rintro i x H2 hi ⟨s2, eD⟩
    obtain ⟨y, hy, rfl⟩ := vv_at hi
    have hil := (List.getElem?_eq_some_iff.mp hy).1
    have ek := kn_snoc (l.take i) y
    have et : l.take (i + 1) = l.take i ++ [y] := by rw [List.take_add_one, hy]; rfl
    walk_at "g"
    refine ⟨rfl, ?_⟩
    walk_at "g"
    refine w_iteN (fun c1 => ?_) (fun c1 => ?_)
    · walk_at "g"
      refine ⟨_, eD, Nat.lt_of_le_of_lt (by rw [List.length_map]; exact kn_len _) (Nat.lt_of_le_of_lt (Nat.le_trans (List.length_take_le _ _) (Nat.le_of_lt hil)) (Nat.lt_of_le_of_lt hl (by decide))), up_same0 s2 hD, ?_⟩
      rw [upd_same, et, ek, if_pos (by simp [c1]), List.map_append]
      rfl
    · refine ⟨s2, ?_⟩
      rw [et, ek, if_neg (by simp [c1])]
      exact eD
  · rintro H2 ⟨s2, eD⟩
    rw [List.length_map, List.take_length] at eD
    walk_at "g"
    refine ⟨D, kn l, rfl, SqL.of eD, hT.ext s2, fun H3 x3 t3 => ?_⟩
    have x3' : ExtN H H3 := (ExtN.of s2).trans x3
    have eD3 := ext_lst x3 eD
    rw [kn_any]
    walk_at "g"
    refine w_ite (fun c1 => ?_) (fun c1 => ?_)
    · exact qE c1 _ x3' t3
    · have hT0 : ∀ v ∈ l, isT v = false := fun v hv => by
        cases e : isT v with
        | false => rfl
        | true => rw [List.any_eq_true.mpr ⟨v, hv, e⟩] at c1; cases c1
      have q := q c1
      unfold sumV at q
      rw [kn_nums hT0] at eD3
      walk_at "g"
      intro N hN
      have nN : D ≠ N := ne_of_none eD3 hN
      have x4 := x3'.trans (ExtN.of (same_new hN (.lst [])))
      refine w_eqNilD (by rw [upd_ne nN]; exact eD3) upd_same ?_
      walk_at "g"
      refine w_iteD (fun c2 => ?_) (fun c2 => ?_)
      · rw [if_pos c2] at q
        walk_at "g"
        exact q _ x4 (t3.ext (same_new hN _))
      · rw [if_neg c2] at q
        walk_at "g"
        refine ⟨D, nums l, rfl, .inl (SqL.of (by rw [upd_ne nN]; exact eD3)), ?_⟩
        exact ⟨_, rfl, q _ x4 (t3.ext (same_new hN _))⟩
theorem ok_least_of (W : Wv K mg cTE cTk aL aS aK cKF) : Cl P w K mg base 2 "least_of" spLeast := by
  obtain ⟨fr, fdr, Fr, hmr⟩ := W.d_rank
  have br := Fr.bindsN (ps := ["value"]) (fun _ _ _ _ _ _ us hl => match us, hl with | [_], _ => rfl)
  have KD : L2.Mod K mg base → MnK.KeyD P w base fr := fun M => MnK.keyD_of Fr sc_rank br ⟨rfl, rfl, rfl, rfl, by decide⟩ W.n_isinstance W.n_str M
  have GR : ∃ u, mg "rank" = some u ∧ RelV (.ref fr) u := ⟨_, hmr, rfl⟩
  refine cl_mk W.d_least_of sc_least_of (fun _ _ _ _ _ _ us hl => match us, hl with | [_, _], _ => rfl) (fun vs H Q E h => ?_) (fun f cdv A outer s H vs Q E hr h => ?_)
  · obtain ⟨a, l, g, rfl, _⟩ := h; rfl
  obtain ⟨a, l, g, rfl, hS, hl, hT, q0, q1⟩ := h
  refine ⟨_, (pss_cons (ps_setLc (i := 2) (own := [("value", 3)]) rfl sc_least_of.nd rfl rfl (sw_true rfl rfl rfl (by decide +kernel)) (pi_list (pv 0)) (blkOk_by (own := [("value", 3)]) (N := ["values", "greatest", "known", "value"]) (sc := defScope s_least_of) (by decide +kernel)) (fun _ _ _ _ _ => (pg_name (i := 3) sc_least_of.nd rfl (by first | exact Or.inl rfl | exact Or.inr rfl))) (fun _ _ _ _ _ => (pts_one (pt_cmpR op_notN1 (pv 3) pe_non (nomark _)))) (fun _ _ _ _ _ => (pv 3)))
    (pss_cons (ps_if (pt_cmpR (op_eqD (hu64 hr)) (pv 2) (pe_lst pa_nil) (nomark _))
    (pss_one (ps_ret pe_non))
    pss_nil)
    (pss_cons (ps_if (pt_val (pv 1))
    (pss_one (ps_ret (pe_callBK (MnK.cr_maxK rfl KD hr) rfl W.n_max (by decide +kernel) (pa_cons (pv 2) pa_nil) (pk_cons (C8.pe_gc rfl GR) pk_nil))))
    pss_nil)
    (pss_one (ps_ret (pe_callBK (MnK.cr_minK rfl KD hr) rfl W.n_min (by decide +kernel) (pa_cons (pv 2) pa_nil) (pk_cons (C8.pe_gc rfl GR) pk_nil))))))), ?_⟩
  walk_at "g"
  refine w_lcLn (SqL.of hS) fun D hD => ⟨fun i H2 => Same H H2 ∧ H2 D = some (.lst ((kn (l.take i)).map vV)), ⟨same_new hD _, upd_same⟩, fun i H2 _ ⟨s2, _⟩ => SqL.of (s2 _ _ hS), ?_, ?_⟩
  · rintro i x H2 hi ⟨s2, eD⟩
    obtain ⟨y, hy, rfl⟩ := vv_at hi
    have hil := (List.getElem?_eq_some_iff.mp hy).1
    have ek := kn_snoc (l.take i) y
    have et : l.take (i + 1) = l.take i ++ [y] := by rw [List.take_add_one, hy]; rfl
    walk_at "g"
    refine ⟨rfl, ?_⟩
    walk_at "g"
    refine w_iteN (fun c1 => ?_) (fun c1 => ?_)
    · walk_at "g"
      refine ⟨_, eD, Nat.lt_of_le_of_lt (by rw [List.length_map]; exact kn_len _) (Nat.lt_of_le_of_lt (Nat.le_trans (List.length_take_le _ _) (Nat.le_of_lt hil)) (Nat.lt_of_le_of_lt hl (by decide))), up_same0 s2 hD, ?_⟩
      rw [upd_same, et, ek, if_pos (by simp [c1]), List.map_append]
      rfl
    · refine ⟨s2, ?_⟩
      rw [et, ek, if_neg (by simp [c1])]
      exact eD
  · rintro H2 ⟨s2, eD⟩
    rw [List.length_map, List.take_length, kn_nums hT] at eD
    walk_at "g"
    intro N hN
    have nN : D ≠ N := ne_of_none eD hN
    have s3 := s2.trans (same_new hN (.lst []))
    refine w_eqNilD (by rw [upd_ne nN]; exact eD) upd_same ?_
    walk_at "g"
    refine w_iteD (fun c2 => ?_) (fun c2 => ?_)
    · walk_at "g"
      exact q0 c2 _ s3
    · have hD2 : upd H2 N (.lst []) D = some (.lst ((nums l).map V.int)) := by rw [upd_ne nN]; exact eD
      have q1 := q1 c2
      cases g with
      | true =>
        walk_at "g"
        exact ⟨D, nums l, rfl, rfl, SqL.of hD2, c2, fun m hm hk => q1 m hm (fun k h => by rw [if_pos rfl]; exact hk k h) _ s3⟩
      | false =>
        walk_at "g"
        exact ⟨D, nums l, rfl, rfl, SqL.of hD2, c2, fun m hm hk => q1 m hm (fun k h => by rw [if_neg Bool.false_ne_true]; exact hk k h) _ s3⟩
end
end K04
end

section
-- part F04c
set_option Elab.async false
set_option linter.all false
set_option maxRecDepth 100000
set_option maxHeartbeats 800000
/-! F04c: d.get(key, default) of a dict of the top; a method called with its default; list(range(n)) -/
namespace K04
open PySem PySem.Spec PyProof.Rows L2 Fw M5 M24 Gk
section
variable {X : Cx} {d : Addr} {es : Array DictEntry} {n : Nat} {o e f : Expr} {apos cpos : Pos} {td ty tx : TE}
def tKGet (K : PySem.W.Frag) (d : Addr) (td ty tx : TE) : TE := fun σ H Q => td σ H fun x H1 => x = .ref d ∧ ty σ H1 fun y H2 => tx σ H2 fun z H3 => ∃ k : Str, y = .str k ∧
  ((PySem.W.nsIn K d k = some none ∧ Q z H3) ∨ ∃ u v, PySem.W.nsIn K d k = some (some u) ∧ RelV v u ∧ Q v H3)
theorem pe_kget (D : KDict X.K X.w d es n) (ho : PE X o td) (he : PE X e ty) (hf : PE X f tx) (m : M2 X o "get" apos e f cpos) : PE X (.Call (.Attribute o "get" apos) [e, f] [] cpos) (tKGet X.K d td ty tx) := by
  refine ⟨fun pins s σ H Q I h => ?_⟩
  refine wpAny_Call_method m.base m.few m.line PySem.F.plainAttrs_dict PySem.F.slot_dict_get PySem.F.type_dict_get (thn (ho.run pins s σ H _ I h) fun u s1 ⟨x, H1, I1, rx, ex, q1⟩ => ?_)
  subst ex
  cases rx
  refine ⟨kd_type D I1, fun b q => ?_, ?_⟩
  · cases q
    exact ⟨_, I1.kIn _ _ D.at_, rfl⟩
  rw [m.trees]
  refine Calls.callWith_builtin rfl (Calls.evalArgs_plain (Calls.spliced_cons (thn (he.run pins s1 σ H1 _ I1 q1) fun iv s2 ⟨y, H2, I2, ry, q2⟩ =>
    Calls.spliced_cons (thn (hf.run pins s2 σ H2 _ I2 q2) fun fv s3 ⟨z, H3, I3, rz, k, ek, q3⟩ => Calls.spliced_nil ?_))))
  subst ek
  obtain ⟨t, rfl⟩ := ry
  refine call_meetsIn PySem.F.slot_dict_get (kd_type D I3) PySem.F.entry_dict_get (PySem.F.args_dict_get_3 _ _ _) (meets_dict_get_default (strKind X.prog X.w) d (PySem.strKind_is X.prog X.w k t) D.low fv) ⟨_, PySem.W.mapOf_K (prog := X.prog) I3.kIn D.at_ D.lit, ?_⟩
  rcases q3 with ⟨e1, q⟩ | ⟨u, v, e1, r, q⟩
  · rw [PySem.W.find_K D.at_ e1]
    exact ⟨z, H3, I3.tok _, rz, q⟩
  · rw [PySem.W.find_K D.at_ e1]
    exact ⟨v, H3, I3.tok _, r, q⟩
theorem w_kget {K : PySem.W.Frag} {σ : L2.St} {H : Hp} {Q : VK} (h : td σ H fun x H1 => x = .ref d ∧ ty σ H1 fun y H2 => tx σ H2 fun z H3 => ∃ k : Str, y = .str k ∧
  ((PySem.W.nsIn K d k = some none ∧ Q z H3) ∨ ∃ u v, PySem.W.nsIn K d k = some (some u) ∧ RelV v u ∧ Q v H3)) : tKGet K d td ty tx σ H Q := h
end
/-- a method of the class at C, its last parameters left out -/
structure Med (P : Program) (w : World) (K : PySem.W.Frag) (mg : Str → Option Value) (base : Heap) (k : Nat) (C : Addr) (m : Str) (sp : Sp) (dvs : List V) : Prop where
  ex : ∃ (f : Addr) (fd : FuncData) (ps : List Str) (ds : List Value), Cls K C ∧ Meth K C m f ∧ FnOk P w K mg base (L2.CX P w) k f fd ps sp ∧ Binds K fd ps ds ∧ Vals dvs ds
theorem med_mk {P : Program} {w : World} {K : PySem.W.Frag} {mg : Str → Option Value} {base : Heap} {m qual : Str} {st : Stmt} {C : Addr} {dvs : List V} {N ps : List Str} {k : Nat} {sp : Sp} (n j : Nat)
    (F : ∃ (f : Addr) (fd : FuncData), FunD K m qual (defArgs st) (defBody st) (defScope st) dvs [] f fd ∧ Meth K C m f) (c : Cls K C) (S : FnScope N ps (defScope st)) (hd : dvs ≠ []) (hn : n + (dvs.length - j) = ps.length)
    (b : ∀ (T : Addr) (kV doc pm : Value) (an : Option Addr) (cdv ct : Value) (us its : List Value), us.length = n → its.length = dvs.length →
      ∃ k, bindArgs (PySem.W.fnOf m qual (defArgs st) (defBody st) (defScope st) (.ref T) kV doc pm an cdv ct) ⟨us, []⟩ = seqItems? (.ref T) >>= k ∧ k (some its.toArray) = pure (ps.zip (us ++ its.drop j)))
    (len : ∀ vs H Q E, sp vs H Q E → vs.length = ps.length)
    (hbody : ∀ (f : Addr) (cdv : Value) (A : Around) (outer : List Env) (s : Shared) (H : Hp) (vs : List V) (Q : VK) (E : XK), Room k (A.deeper (envOfC qual (defScope st) s.heap.objs.size f cdv)) → sp vs H Q E →
      ∃ t, PSs (cxOf (L2.CX P w) P w K mg base N qual (defScope st) f cdv A outer s H E) (defBody st) t ∧ t { nx := fun _ H' => Q .non H', rt := Q } (start N vs) H) : Med P w K mg base (k + 1) C m sp (dvs.drop j) := by
  obtain ⟨f, fd, F, M⟩ := F
  obtain ⟨ds, h1, h2⟩ := F.binds1 n j hd hn b
  exact ⟨f, fd, ps, ds, c, M, F.ok S len (hbody f), h2, h1⟩
def tMed (C : Addr) (m : Str) (sp : Sp) (dvs : List V) (E : XK) (ta : TE) : TE := fun σ H Q => ta σ H fun x H1 => ∃ a dx fs, x = .ref a ∧ H1 a = some (.ins C dx fs) ∧ fs.lookup m = none ∧ sp (x :: dvs) H1 Q E
section
variable {X : Cx} {k j : Nat} {C : Addr} {m : Str} {sp : Sp} {dvs : List V} {E : XK} {pos apos : Pos} {o : Expr} {ta : TE}
theorem pe_med {pl : Sem Bool} (c : Med X.prog X.w X.K X.mg X.base k C m sp dvs) (hr : Room j X.A) (hk : k ≤ j) (hx : Passes (L2.CX X.prog X.w) X E) (he : PE X o ta)
    (ht : eval (.Call (.Attribute o m apos) [] [] pos) X.env = (do
      let ov ← eval o X.env
      standAt apos.atName
      let (f, first) ← holding [ov] (getMethod ov m pl)
      callWith pos f first (backTo pos (starEach [] X.env)) (backToKw pos (keywordEach [] X.env))) := by rfl) :
    PE X (.Call (.Attribute o m apos) [] [] pos) (tMed C m sp dvs E ta) := by
  obtain ⟨f, fd, ps, ds, hc, hm, F, b, vd⟩ := c.ex
  exact pe_meth0 (pl := pl) he hc hm F (hr.mono hk) b vd hx ht
theorem w_med {σ : L2.St} {H : Hp} {Q : VK} (h : ta σ H fun x H1 => ∃ a dx fs, x = .ref a ∧ H1 a = some (.ins C dx fs) ∧ fs.lookup m = none ∧ sp (x :: dvs) H1 Q E) : tMed C m sp dvs E ta σ H Q := h
end
section
variable {σ : L2.St} {H : Hp} {Q : VK} {ta : TA}
theorem w_listRg {te : L2.St → Hp → (Int → Int → Hp → Prop) → Prop} (h : te σ H fun a b H1 => RgOk a b ∧ ∀ q, H1 q = none → Q (.ref q) (upd H1 q (.lst (rgV a b)))) : tLstRg te σ H Q := h
theorem w_rg1 {te : TE} {R : Int → Int → Hp → Prop} (h : te σ H fun x H1 => ∃ n, x = .int n ∧ R 0 n H1) : tRg1 te σ H R := h
theorem w_iR3 {R : It → Hp → Prop} (h : ta σ H fun vs H1 => ∃ (i j c : Int) (n : Nat), vs = [.int i, .int j, .int c] ∧ RgC i j c n ∧ R (Itc i c n) H1) : iRng3 ta σ H R := h
end
theorem isi_K {X : Cx} (K : PySem.W.Frag) (hK : X.K = K) : CallR X (.builtin "isinstance") (rIsi K) := by
  subst hK
  exact L2.call_isi
/-! ### a reader's fields -/
def FR (t p o c w : V) : List (Str × V) := [("tokens", t), ("place", p), ("opened", o), ("closers", c), ("wrapped", w)]
section
variable {t p o c w x : V}
theorem fr_t : (FR t p o c w).lookup ("tokens" : Str) = some t := Dq.look1 (by decide +kernel)
theorem fr_p : (FR t p o c w).lookup ("place" : Str) = some p := (Dq.look0 (by decide +kernel)).trans (Dq.look1 (by decide +kernel))
theorem fr_o : (FR t p o c w).lookup ("opened" : Str) = some o := (Dq.look0 (by decide +kernel)).trans ((Dq.look0 (by decide +kernel)).trans (Dq.look1 (by decide +kernel)))
theorem fr_no {g : Str} (h1 : (g == ("tokens" : Str)) = false) (h2 : (g == ("place" : Str)) = false) (h3 : (g == ("opened" : Str)) = false) (h4 : (g == ("closers" : Str)) = false) (h5 : (g == ("wrapped" : Str)) = false) : (FR t p o c w).lookup g = none :=
  (Dq.look0 h1).trans ((Dq.look0 h2).trans ((Dq.look0 h3).trans ((Dq.look0 h4).trans ((Dq.look0 h5).trans rfl))))
theorem put_p : putF ("place" : Str) x (FR t p o c w) = FR t x o c w := by
  unfold FR
  rw [Dq.putF_ne (by decide +kernel), Dq.putF_eq]
theorem put_o : putF ("opened" : Str) x (FR t p o c w) = FR t p x c w := by
  unfold FR
  rw [Dq.putF_ne (by decide +kernel), Dq.putF_ne (by decide +kernel), Dq.putF_eq]
theorem put_1 : putF ("tokens" : Str) t [] = [(("tokens" : Str), t)] := rfl
theorem put_2 : putF ("place" : Str) p [(("tokens" : Str), t)] = [(("tokens" : Str), t), (("place" : Str), p)] := by rw [Dq.putF_ne (by decide +kernel)]; rfl
theorem put_3 : putF ("opened" : Str) o [(("tokens" : Str), t), (("place" : Str), p)] = [(("tokens" : Str), t), (("place" : Str), p), (("opened" : Str), o)] := by rw [Dq.putF_ne (by decide +kernel), Dq.putF_ne (by decide +kernel)]; rfl
theorem put_4 : putF ("closers" : Str) c [(("tokens" : Str), t), (("place" : Str), p), (("opened" : Str), o)] = [(("tokens" : Str), t), (("place" : Str), p), (("opened" : Str), o), (("closers" : Str), c)] := by rw [Dq.putF_ne (by decide +kernel), Dq.putF_ne (by decide +kernel), Dq.putF_ne (by decide +kernel)]; rfl
theorem put_5 : putF ("wrapped" : Str) w [(("tokens" : Str), t), (("place" : Str), p), (("opened" : Str), o), (("closers" : Str), c)] = FR t p o c w := by rw [Dq.putF_ne (by decide +kernel), Dq.putF_ne (by decide +kernel), Dq.putF_ne (by decide +kernel), Dq.putF_ne (by decide +kernel)]; rfl
end
end K04
end

section
-- part K04G0
set_option Elab.async false
set_option linter.all false
set_option maxRecDepth 100000
set_option maxHeartbeats 800000
open PySem PySem.Spec PyProof.Rows L2 Fw
local macro_rules | `(tactic| walk_at "e1") => `(tactic| first
  | ((with_reducible refine' w_var ?hv ?_); (case hv => rfl))
  | ((with_reducible refine' K04.w_ixA ?hh ?ha ?_); (case hh => first | assumption | exact upd_same); (case ha => rfl))
  | ((with_reducible refine' K04.w_eqLF ?hl ?_); (case hl => decide +kernel))
  | ((with_reducible refine' K04.w_eqLT ?hl ?_); (case hl => rfl))
  | ((with_reducible refine' K04.w_neLF ?hl ?_); (case hl => decide +kernel))
  | ((with_reducible refine' K04.w_neLT ?hl ?_); (case hl => rfl))
  | with_reducible refine K04.w_isNV ?_
  | with_reducible refine K04.w_notNV ?_
  | ((with_reducible refine' K04.w_modZ ?hc ?_); (case hc => assumption))
  | ((with_reducible refine' K04.w_divZ ?hc ?_); (case hc => assumption))
  | with_reducible refine K04.w_ckw ?_
  | with_reducible refine GnK.w_anyK ?_
  | with_reducible refine Fw.w_notV ?_
  | with_reducible refine F24.w_iZipM ?_
  | with_reducible refine F24.w_iZipA ?_
  | with_reducible refine Fge.w_cld ?_
  | with_reducible refine w_c ?_
  | with_reducible refine w_op ?_
  | with_reducible refine w_un ?_
  | with_reducible refine w_cons ?_
  | with_reducible refine w_nil ?_
  | with_reducible refine w_cl ?_
  | with_reducible refine w_cb ?_
  | with_reducible refine w_gname ?_
  | with_reducible refine w_gsub ?_
  | with_reducible refine w_test ?_
  | with_reducible refine w_B ?_
  | with_reducible refine w_bl ?_
  | with_reducible refine w_and ?_
  | with_reducible refine w_or ?_
  | with_reducible refine w_not ?_
  | with_reducible refine w_if ?_
  | with_reducible refine w_I0 ?_
  | with_reducible refine Gk.w_rU ?_
  | with_reducible refine Dq.w_orV ?_
  | with_reducible refine Dq.w_js ?_
  | with_reducible refine Dq.w_js0 ?_
  | with_reducible refine Dq.w_fm ?_
  | with_reducible refine Dq.w_andV ?_
  | with_reducible refine Gk.w_iEnum ?_
  | with_reducible refine Dq.w_dget ?_
  | with_reducible refine Dq.w_dpop1 ?_
  | with_reducible refine Dq.w_ddel ?_
  | with_reducible refine Dq.w_din ?_
  | with_reducible refine Dq.w_dnotin ?_
  | with_reducible refine Dq.w_dget2 ?_
  | with_reducible refine Dq.w_dnew ?_
  | with_reducible refine Dq.w_fldaug ?_
  | with_reducible refine Dq.w_aSub ?_
  | with_reducible refine Dq.w_aAdd ?_
  | with_reducible refine Dq.w_mkd ?_
  | with_reducible refine Dq.w_notN0 ?_
  | with_reducible refine Dq.w_isN0 ?_
  | with_reducible refine Ftw.w_isTI ?_
  | with_reducible refine Ftw.w_isTS ?_
  | with_reducible refine Ftw.w_isTR ?_
  | with_reducible refine Ftw.w_isTN ?_
  | with_reducible refine Ftw.w_isTtt ?_
  | with_reducible refine Ftw.w_isTft ?_
  | with_reducible refine Ftw.w_isTtf ?_
  | with_reducible refine Ftw.w_isNS ?_
  | with_reducible refine Ftw.w_isNB ?_
  | ((with_reducible refine' Ftw.w_isiRS ?hq ?_); (case hq => assumption))
  | ((with_reducible refine' Ftw.w_isiRT ?hq ?_); (case hq => assumption))
  | ((with_reducible refine' Ftw.w_isiRI ?hq ?_); (case hq => assumption))
  | with_reducible refine Ftw.w_isiIT ?_
  | with_reducible refine Ftw.w_isiII ?_
  | with_reducible refine Dq.w_notNR ?_
  | with_reducible refine Dq.w_isNR ?_
  | with_reducible refine Dq.w_notNI ?_
  | with_reducible refine Dq.w_isNI ?_
  | with_reducible refine L2.w_neOs ?_
  | with_reducible refine w_ipI ?_
  | with_reducible refine w_eqS ?_
  | with_reducible refine w_neS ?_
  | with_reducible refine w_eqI ?_
  | with_reducible refine w_neI ?_
  | with_reducible refine w_eqB ?_
  | with_reducible refine w_neB ?_
  | ((with_reducible refine w_eq ?hs ?_); (case hs => rfl))
  | ((with_reducible refine w_ne ?hs ?_); (case hs => rfl))
  | with_reducible refine w_fld ?_
  | with_reducible refine w_bm ?_
  | with_reducible refine w_bm0 ?_
  | with_reducible refine w_sl ?_
  | with_reducible refine w_part ?_
  | with_reducible refine w_partI ?_
  | with_reducible refine w_nopart ?_
  | ((with_reducible refine' w_ixL ?hh ?ha ?_); (case hh => first | assumption | exact upd_same); (case ha => rfl))
  | ((with_reducible refine' w_setLu ?ha ?_); (case ha => rfl))
  | ((with_reducible refine' w_setL ?hh ?ha ?_); (case hh => first | assumption | exact upd_same); (case ha => rfl))
  | with_reducible refine w_iteT ?_
  | with_reducible refine w_iteF ?_
  | with_reducible refine w_lst ?_
  | with_reducible refine w_tup ?_
  | ((with_reducible refine w_new ?hz ?_); (case hz => rfl))
  | with_reducible refine w_lc ?_
  | with_reducible refine w_iL ?_
  | with_reducible refine w_iT ?_
  | with_reducible refine w_iR1 ?_
  | with_reducible refine w_iR2 ?_
  | with_reducible refine w_yes ?_
  | with_reducible refine w_iStr ?_
  | with_reducible exact tyS
  | with_reducible refine And.intro tyS ?_
  | ((with_reducible refine w_find3 ?_); (first | rw [find3_one] | rw [starts3] | skip))
  | ((with_reducible refine w_2s ?_); (try rw [find_one]))
  | ((with_reducible refine w_inS ?_); rw [S_list])
  | ((with_reducible refine w_lenS ?hz ?_); (case hz => first | assumption | omega | decide); rw [SX.S_len])
  | ((with_reducible refine w_addS ?hz ?_); (case hz => first | assumption | omega | decide); rw [vS_cat])
  | with_reducible refine w_mk ?_
  | with_reducible refine w_me ?_
  | with_reducible refine w_sfld ?_
  | ((with_reducible refine' w_gtup ?hh ?hn ?_); (case hh => first | assumption | exact upd_same); (case hn => rfl))
  | with_reducible refine w_gcons ?_
  | with_reducible refine w_gnil ?_
  | with_reducible refine w_repl ?_
  | with_reducible refine w_star ?_
  | with_reducible refine w_revL ?_
  | with_reducible refine w_isiS ?_
  | with_reducible refine w_isiI ?_
  | with_reducible refine w_isiN ?_
  | with_reducible refine w_chain ?_
  | with_reducible refine w_iEnumT ?_
  | with_reducible refine w_iZip3 ?_
  | with_reducible refine w_iZip ?_
  | with_reducible refine w_lenR3 ?_
  | with_reducible refine w_x1i ?_
  | with_reducible refine w_x1b ?_
  | with_reducible refine w_x1s ?_
  | with_reducible refine w_int1i ?_
  | with_reducible refine w_int1b ?_
  | ((with_reducible refine w_mod ?hc ?_); (case hc => omega))
  | ((with_reducible refine w_fdivW ?hc ?hd ?_); (case hc => omega); (case hd => omega))
  | ((with_reducible refine w_mul ?hc ?_); (case hc => first | exact Or.inr ⟨by decide, by decide⟩ | exact Or.inl ⟨by decide, by decide⟩))
  | ((with_reducible refine w_pow ?hc ?_); (case hc => exact ⟨by decide, by decide, by decide⟩)))
local macro_rules | `(tactic| walk_at "f1") => `(tactic| first
  | ((with_reducible refine' K04.g_tokens ?hW ?hK ?hs ?hx ?_); (case hW => assumption); (case hK => rfl); (case hs => rfl); (case hx => first | assumption | exact upd_same))
  | ((with_reducible refine' K04.g_place ?hW ?hK ?hs ?hx ?_); (case hW => assumption); (case hK => rfl); (case hs => rfl); (case hx => first | assumption | exact upd_same))
  | ((with_reducible refine' K04.g_opened ?hW ?hK ?hs ?hx ?_); (case hW => assumption); (case hK => rfl); (case hs => rfl); (case hx => first | assumption | exact upd_same))
  | with_reducible refine K04.w_kget ?_
  | with_reducible refine K04.w_med ?_
  | walk_at "e1")
local macro_rules | `(tactic| walk_at "s1") => `(tactic| first
  | with_reducible refine w_seq ?_
  | with_reducible refine w_asg ?_
  | with_reducible refine w_ret ?_
  | with_reducible refine w_par ?_
  | with_reducible refine w_drop ?_
  | with_reducible refine w_next ?_
  | with_reducible refine w_ifs ?_
  | ((with_reducible refine' w_aug ?hv ?_); (case hv => rfl))
  | with_reducible refine w_for ?_
  | walk_at "f1")
local macro_rules | `(tactic| walk_at "e") => `(tactic| repeat walk_at "e1")
local macro_rules | `(tactic| walk_at "g") => `(tactic| repeat walk_at "s1")
local macro_rules | `(tactic| walk_at "n1") => `(tactic| ((fail_if_success (with_reducible refine w_if ?_)); walk_at "s1"))
local macro_rules | `(tactic| walk_at "n") => `(tactic| repeat walk_at "n1")
local macro_rules | `(tactic| walk_at "p1") => `(tactic| ((fail_if_success (with_reducible refine w_ifs ?_)); walk_at "s1"))
local macro_rules | `(tactic| walk_at "p") => `(tactic| repeat walk_at "p1")
local macro_rules | `(tactic| walk_at "q1") => `(tactic| ((fail_if_success (with_reducible refine w_seq ?_)); walk_at "s1"))
local macro_rules | `(tactic| walk_at "q") => `(tactic| repeat walk_at "q1")

namespace K04
open Dc Lx M24 M5 M04
-- Reader.__init__: 0:self 1:text
theorem sc_Reader___init__ : FnScope ["self", "text"] ["self", "text"] (defScope s_Reader___init__) := ⟨rfl, rfl, rfl, by decide +kernel, rfl, by decide +kernel, by decide +kernel⟩
-- Reader.word_at: 0:self 1:place
theorem sc_Reader_word_at : FnScope ["self", "place"] ["self", "place"] (defScope s_Reader_word_at) := ⟨rfl, rfl, rfl, by decide +kernel, rfl, by decide +kernel, by decide +kernel⟩
-- Reader.ahead: 0:self 1:steps
theorem sc_Reader_ahead : FnScope ["self", "steps"] ["self", "steps"] (defScope s_Reader_ahead) := ⟨rfl, rfl, rfl, by decide +kernel, rfl, by decide +kernel, by decide +kernel⟩
-- Reader.taken: 0:self 1:word 2:token
theorem sc_Reader_taken : FnScope ["self", "word", "token"] ["self", "word"] (defScope s_Reader_taken) := ⟨rfl, rfl, rfl, by decide +kernel, rfl, by decide +kernel, by decide +kernel⟩
-- Reader.take: 0:self 1:word
theorem sc_Reader_take : FnScope ["self", "word"] ["self", "word"] (defScope s_Reader_take) := ⟨rfl, rfl, rfl, by decide +kernel, rfl, by decide +kernel, by decide +kernel⟩
-- Reader.finish: 0:self
theorem sc_Reader_finish : FnScope ["self"] ["self"] (defScope s_Reader_finish) := ⟨rfl, rfl, rfl, by decide +kernel, rfl, by decide +kernel, by decide +kernel⟩
-- Reader.enter: 0:self
theorem sc_Reader_enter : FnScope ["self"] ["self"] (defScope s_Reader_enter) := ⟨rfl, rfl, rfl, by decide +kernel, rfl, by decide +kernel, by decide +kernel⟩
-- Reader.leave: 0:self
theorem sc_Reader_leave : FnScope ["self"] ["self"] (defScope s_Reader_leave) := ⟨rfl, rfl, rfl, by decide +kernel, rfl, by decide +kernel, by decide +kernel⟩
-- QueryReader.expression: 0:self 1:tree
theorem sc_QueryReader_expression : FnScope ["self", "tree"] ["self"] (defScope s_QueryReader_expression) := ⟨rfl, rfl, rfl, by decide +kernel, rfl, by decide +kernel, by decide +kernel⟩
-- QueryReader.condition: 0:self 1:least 2:tree 3:word
theorem sc_QueryReader_condition : FnScope ["self", "least", "tree", "word"] ["self", "least"] (defScope s_QueryReader_condition) := ⟨rfl, rfl, rfl, by decide +kernel, rfl, by decide +kernel, by decide +kernel⟩
-- QueryReader.comparison: 0:self 1:first 2:word 3:negated
theorem sc_QueryReader_comparison : FnScope ["self", "first", "word", "negated"] ["self"] (defScope s_QueryReader_comparison) := ⟨rfl, rfl, rfl, by decide +kernel, rfl, by decide +kernel, by decide +kernel⟩
-- QueryReader.amount: 0:self 1:least 2:tree 3:word
theorem sc_QueryReader_amount : FnScope ["self", "least", "tree", "word"] ["self", "least"] (defScope s_QueryReader_amount) := ⟨rfl, rfl, rfl, by decide +kernel, rfl, by decide +kernel, by decide +kernel⟩
-- QueryReader.operand: 0:self 1:word
theorem sc_QueryReader_operand : FnScope ["self", "word"] ["self"] (defScope s_QueryReader_operand) := ⟨rfl, rfl, rfl, by decide +kernel, rfl, by decide +kernel, by decide +kernel⟩
-- QueryReader.minus: 0:self 1:tree
theorem sc_QueryReader_minus : FnScope ["self", "tree"] ["self"] (defScope s_QueryReader_minus) := ⟨rfl, rfl, rfl, by decide +kernel, rfl, by decide +kernel, by decide +kernel⟩
-- QueryReader.literal: 0:self 1:word
theorem sc_QueryReader_literal : FnScope ["self", "word"] ["self"] (defScope s_QueryReader_literal) := ⟨rfl, rfl, rfl, by decide +kernel, rfl, by decide +kernel, by decide +kernel⟩
-- closing_places: 0:tokens 1:places 2:waiting 3:place 4:token
theorem sc_closing_places : FnScope ["tokens", "places", "waiting", "place", "token"] ["tokens"] (defScope s_closing_places) := ⟨rfl, rfl, rfl, by decide +kernel, rfl, by decide +kernel, by decide +kernel⟩
-- wrapped_places: 0:tokens 1:closers 2:places 3:place
theorem sc_wrapped_places : FnScope ["tokens", "closers", "places", "place"] ["tokens", "closers"] (defScope s_wrapped_places) := ⟨rfl, rfl, rfl, by decide +kernel, rfl, by decide +kernel, by decide +kernel⟩
-- parse_expression: 0:text 1:reader 2:tree
theorem sc_parse_expression : FnScope ["text", "reader", "tree"] ["text"] (defScope s_parse_expression) := ⟨rfl, rfl, rfl, by decide +kernel, rfl, by decide +kernel, by decide +kernel⟩
-- checked: 0:tree 1:waiting 2:part 3:deep 4:one
theorem sc_checked : FnScope ["tree", "waiting", "part", "deep", "one"] ["tree"] (defScope s_checked) := ⟨rfl, rfl, rfl, by decide +kernel, rfl, by decide +kernel, by decide +kernel⟩
structure Ad where
  QR : Addr
  LG : Addr
  AR : Addr
  LT : Addr
  CM : Addr
def Cr (mg : Str → Option Value) (x : Str) (a : Addr) : Prop := ∃ u, mg x = some u ∧ RelV (.ref a) u
/-- the reader's part -/
structure Wr (K : PySem.W.Frag) (mg : Str → Option Value) (cTE cTk aL aS aK cKF : Addr) (ad : Ad) : Prop extends Wv K mg cTE cTk aL aS aK cKF where
  n_list : mg "list" = none
  n_enumerate : mg "enumerate" = none
  c_MOST_OPEN : Cin mg "MOST_OPEN" 60
  c_MOST_NESTED : Cin mg "MOST_NESTED" 100
  c_LOOSEST_ARITHMETIC : Cin mg "LOOSEST_ARITHMETIC" 5
  c_LOGIC : Cr mg "LOGIC" ad.LG
  c_ARITHMETIC : Cr mg "ARITHMETIC" ad.AR
  c_LITERALS : Cr mg "LITERALS" ad.LT
  c_COMPARISONS : Cr mg "COMPARISONS" ad.CM
  cm_t : ∀ H : Hp, SqT K H ad.CM ([[61], [60, 62], [60], [60, 61], [62], [62, 61]].map fun l : List Nat => V.str (S l))
  r_cl : Cls K ad.QR
  r_tokens : NoAttr K ad.QR "tokens"
  r_place : NoAttr K ad.QR "place"
  r_opened : NoAttr K ad.QR "opened"
  r_closers : NoAttr K ad.QR "closers"
  r_wrapped : NoAttr K ad.QR "wrapped"
  r_g : mg "QueryReader" = some (.ref ad.QR)
  r_i : ∃ (f : Addr) (fd : FuncData), FunD K "__init__" "Reader.__init__" (defArgs s_Reader___init__) (defBody s_Reader___init__) (defScope s_Reader___init__) [] [] f fd ∧ Mk K ad.QR f
  r_word_at : FnM K ad.QR "word_at" "Reader.word_at" s_Reader_word_at
  r_ahead : ∃ (f : Addr) (fd : FuncData), FunD K "ahead" "Reader.ahead" (defArgs s_Reader_ahead) (defBody s_Reader_ahead) (defScope s_Reader_ahead) [.int 0] [] f fd ∧ Meth K ad.QR "ahead" f
  r_taken : FnM K ad.QR "taken" "Reader.taken" s_Reader_taken
  r_take : FnM K ad.QR "take" "Reader.take" s_Reader_take
  r_finish : FnM K ad.QR "finish" "Reader.finish" s_Reader_finish
  r_enter : FnM K ad.QR "enter" "Reader.enter" s_Reader_enter
  r_leave : FnM K ad.QR "leave" "Reader.leave" s_Reader_leave
  r_expression : FnM K ad.QR "expression" "QueryReader.expression" s_QueryReader_expression
  r_condition : FnM K ad.QR "condition" "QueryReader.condition" s_QueryReader_condition
  r_comparison : FnM K ad.QR "comparison" "QueryReader.comparison" s_QueryReader_comparison
  r_amount : FnM K ad.QR "amount" "QueryReader.amount" s_QueryReader_amount
  r_operand : FnM K ad.QR "operand" "QueryReader.operand" s_QueryReader_operand
  r_minus : FnM K ad.QR "minus" "QueryReader.minus" s_QueryReader_minus
  r_literal : FnM K ad.QR "literal" "QueryReader.literal" s_QueryReader_literal
  d_closing_places : FnP K mg "closing_places" s_closing_places
  d_wrapped_places : FnP K mg "wrapped_places" s_wrapped_places
  d_parse_expression : FnP K mg "parse_expression" s_parse_expression
  d_checked : FnP K mg "checked" s_checked
  ne_TkQR : cTk ≠ ad.QR
/-- the dicts of the top -/
structure Wk (K : PySem.W.Frag) (w : World) (ad : Ad) : Prop where
  LG : ∃ es n, KDict K w ad.LG es n
  AR : ∃ es n, KDict K w ad.AR es n
  LT : ∃ es n, KDict K w ad.LT es n
  lg_end : PySem.W.nsIn K ad.LG (S sEnd) = some none
  ar_end : PySem.W.nsIn K ad.AR (S sEnd) = some none
  lt_int : ∃ t, PySem.W.nsIn K ad.LT (S sInt) = some (some (.str "int" t))
  lt_txt : ∃ t, PySem.W.nsIn K ad.LT (S sQuoted) = some (some (.str "text" t))
abbrev Toks : Type := List (List Nat × V × Nat)
def wordAt (ts : Toks) (q : Nat) : List Nat := match ts[q]? with
  | some t => t.1
  | none => sEnd
section
variable {K K' : PySem.W.Frag} {mg : Str → Option Value} {cTE cTk aL aS aK cKF : Addr} {ad : Ad} {H H' : Hp} {Q : VK} {σ : L2.St} {i : Nat} {x dx : Addr} {t p o c w : V}
theorem g_tokens (W : Wr K mg cTE cTk aL aS aK cKF ad) (hK : K' = K) (hs : σ[i]? = some (some (.ref x))) (hx : H x = some (.ins ad.QR dx (FR t p o c w))) (q : Q t H) : tFld K' (tVar i) ("tokens" : Str) σ H Q := by
  subst hK
  exact ⟨_, hs, x, ad.QR, dx, _, _, rfl, hx, W.r_cl, W.r_tokens, fr_t, q⟩
theorem g_place (W : Wr K mg cTE cTk aL aS aK cKF ad) (hK : K' = K) (hs : σ[i]? = some (some (.ref x))) (hx : H x = some (.ins ad.QR dx (FR t p o c w))) (q : Q p H) : tFld K' (tVar i) ("place" : Str) σ H Q := by
  subst hK
  exact ⟨_, hs, x, ad.QR, dx, _, _, rfl, hx, W.r_cl, W.r_place, fr_p, q⟩
theorem g_opened (W : Wr K mg cTE cTk aL aS aK cKF ad) (hK : K' = K) (hs : σ[i]? = some (some (.ref x))) (hx : H x = some (.ins ad.QR dx (FR t p o c w))) (q : Q o H) : tFld K' (tVar i) ("opened" : Str) σ H Q := by
  subst hK
  exact ⟨_, hs, x, ad.QR, dx, _, _, rfl, hx, W.r_cl, W.r_opened, fr_o, q⟩
/-- a reader stands at r: at place p, so many pieces open -/
def Rd (cTk : Addr) (ad : Ad) (ts : Toks) (H : Hp) (r : Addr) (p o : Nat) : Prop := ∃ dx L xs c w, H r = some (.ins ad.QR dx (FR (.ref L) (.int (p : Int)) (.int (o : Int)) c w)) ∧ H L = some (.lst (xs.map V.ref)) ∧ TokAll cTk H xs ts ∧ r ∉ xs
theorem Rd.up {ts : Toks} {r : Addr} {p o p' o' : Nat} {dx L : Addr} {xs : List Addr} {c w : V} (h1 : H r = some (.ins ad.QR dx (FR (.ref L) (.int (p : Int)) (.int (o : Int)) c w))) (h2 : H L = some (.lst (xs.map V.ref))) (h3 : TokAll cTk H xs ts) (h4 : r ∉ xs) :
    Rd cTk ad ts (upd H r (.ins ad.QR dx (FR (.ref L) (.int (p' : Int)) (.int (o' : Int)) c w))) r p' o' := by
  have nL : L ≠ r := fun z => by subst z; rw [h1] at h2; cases h2
  refine ⟨dx, L, xs, c, w, upd_same, by rw [upd_ne nL]; exact h2, TokAll.up h3 fun x hx o e => ?_, h4⟩
  rw [upd_ne (fun z : x = r => h4 (by rw [← z]; exact hx))]
  exact e
theorem Rd.keep {ts : Toks} {r : Addr} {p o : Nat} (h : Rd cTk ad ts H r p o) (s : Same H H') : Rd cTk ad ts H' r p o := by
  obtain ⟨dx, L, xs, c, w, h1, h2, h3, h4⟩ := h
  exact ⟨dx, L, xs, c, w, s _ _ h1, s _ _ h2, TokAll.up h3 fun x _ o e => s _ _ e, h4⟩
theorem Rd.at {ts : Toks} {r : Addr} {p o : Nat} (h : Rd cTk ad ts H r p o) {g : Str} (hg : ∀ t p o c w : V, (FR t p o c w).lookup g = none) {R : Prop} (q : R) : ∃ a dx fs, V.ref r = .ref a ∧ H a = some (.ins ad.QR dx fs) ∧ fs.lookup g = none ∧ R := by
  obtain ⟨dx, L, xs, c, w, h1, _⟩ := h
  exact ⟨r, dx, _, rfl, h1, hg _ _ _ _ _, q⟩
theorem tok_at : ∀ {xs : List Addr} {ts : Toks} {q : Nat} {w : List Nat} {v : V} {n : Nat}, TokAll cTk H xs ts → ts[q]? = some (w, v, n) → ∃ x, xs[q]? = some x ∧ TokO cTk H x (.str (S w)) v (.int (n : Int))
  | _, _, q, w, v, n, .nil, h => by simp at h
  | x :: _, _, 0, w, v, n, .cons a r, h => by
    have e := Option.some.inj h
    subst e
    exact ⟨x, rfl, a⟩
  | _ :: _, _, q + 1, w, v, n, .cons a r, h => tok_at (q := q) r h
theorem tok_len {xs : List Addr} {ts : Toks} (h : TokAll cTk H xs ts) : xs.length = ts.length := h.length
end
theorem no_word_at : ∀ t p o c w : V, (FR t p o c w).lookup ("word_at" : Str) = none := fun _ _ _ _ _ => fr_no (by decide +kernel) (by decide +kernel) (by decide +kernel) (by decide +kernel) (by decide +kernel)
theorem no_ahead : ∀ t p o c w : V, (FR t p o c w).lookup ("ahead" : Str) = none := fun _ _ _ _ _ => fr_no (by decide +kernel) (by decide +kernel) (by decide +kernel) (by decide +kernel) (by decide +kernel)
theorem no_taken : ∀ t p o c w : V, (FR t p o c w).lookup ("taken" : Str) = none := fun _ _ _ _ _ => fr_no (by decide +kernel) (by decide +kernel) (by decide +kernel) (by decide +kernel) (by decide +kernel)
theorem no_take : ∀ t p o c w : V, (FR t p o c w).lookup ("take" : Str) = none := fun _ _ _ _ _ => fr_no (by decide +kernel) (by decide +kernel) (by decide +kernel) (by decide +kernel) (by decide +kernel)
theorem no_finish : ∀ t p o c w : V, (FR t p o c w).lookup ("finish" : Str) = none := fun _ _ _ _ _ => fr_no (by decide +kernel) (by decide +kernel) (by decide +kernel) (by decide +kernel) (by decide +kernel)
theorem no_enter : ∀ t p o c w : V, (FR t p o c w).lookup ("enter" : Str) = none := fun _ _ _ _ _ => fr_no (by decide +kernel) (by decide +kernel) (by decide +kernel) (by decide +kernel) (by decide +kernel)
theorem no_leave : ∀ t p o c w : V, (FR t p o c w).lookup ("leave" : Str) = none := fun _ _ _ _ _ => fr_no (by decide +kernel) (by decide +kernel) (by decide +kernel) (by decide +kernel) (by decide +kernel)
theorem no_expression : ∀ t p o c w : V, (FR t p o c w).lookup ("expression" : Str) = none := fun _ _ _ _ _ => fr_no (by decide +kernel) (by decide +kernel) (by decide +kernel) (by decide +kernel) (by decide +kernel)
theorem no_condition : ∀ t p o c w : V, (FR t p o c w).lookup ("condition" : Str) = none := fun _ _ _ _ _ => fr_no (by decide +kernel) (by decide +kernel) (by decide +kernel) (by decide +kernel) (by decide +kernel)
theorem no_comparison : ∀ t p o c w : V, (FR t p o c w).lookup ("comparison" : Str) = none := fun _ _ _ _ _ => fr_no (by decide +kernel) (by decide +kernel) (by decide +kernel) (by decide +kernel) (by decide +kernel)
theorem no_amount : ∀ t p o c w : V, (FR t p o c w).lookup ("amount" : Str) = none := fun _ _ _ _ _ => fr_no (by decide +kernel) (by decide +kernel) (by decide +kernel) (by decide +kernel) (by decide +kernel)
theorem no_operand : ∀ t p o c w : V, (FR t p o c w).lookup ("operand" : Str) = none := fun _ _ _ _ _ => fr_no (by decide +kernel) (by decide +kernel) (by decide +kernel) (by decide +kernel) (by decide +kernel)
theorem no_minus : ∀ t p o c w : V, (FR t p o c w).lookup ("minus" : Str) = none := fun _ _ _ _ _ => fr_no (by decide +kernel) (by decide +kernel) (by decide +kernel) (by decide +kernel) (by decide +kernel)
theorem no_literal : ∀ t p o c w : V, (FR t p o c w).lookup ("literal" : Str) = none := fun _ _ _ _ _ => fr_no (by decide +kernel) (by decide +kernel) (by decide +kernel) (by decide +kernel) (by decide +kernel)
end K04
end

section
-- part K04G
set_option Elab.async false
set_option linter.all false
set_option maxRecDepth 100000
set_option maxHeartbeats 800000
open PySem PySem.Spec PyProof.Rows L2 Fw
local macro_rules | `(tactic| walk_at "e1") => `(tactic| first
  | ((with_reducible refine' w_var ?hv ?_); (case hv => rfl))
  | ((with_reducible refine' K04.w_ixA ?hh ?ha ?_); (case hh => first | assumption | exact upd_same); (case ha => rfl))
  | ((with_reducible refine' K04.w_eqLF ?hl ?_); (case hl => decide +kernel))
  | ((with_reducible refine' K04.w_eqLT ?hl ?_); (case hl => rfl))
  | ((with_reducible refine' K04.w_neLF ?hl ?_); (case hl => decide +kernel))
  | ((with_reducible refine' K04.w_neLT ?hl ?_); (case hl => rfl))
  | with_reducible refine K04.w_isNV ?_
  | with_reducible refine K04.w_notNV ?_
  | ((with_reducible refine' K04.w_modZ ?hc ?_); (case hc => assumption))
  | ((with_reducible refine' K04.w_divZ ?hc ?_); (case hc => assumption))
  | with_reducible refine K04.w_ckw ?_
  | with_reducible refine GnK.w_anyK ?_
  | with_reducible refine Fw.w_notV ?_
  | with_reducible refine F24.w_iZipM ?_
  | with_reducible refine F24.w_iZipA ?_
  | with_reducible refine Fge.w_cld ?_
  | with_reducible refine w_c ?_
  | with_reducible refine w_op ?_
  | with_reducible refine w_un ?_
  | with_reducible refine w_cons ?_
  | with_reducible refine w_nil ?_
  | with_reducible refine w_cl ?_
  | with_reducible refine w_cb ?_
  | with_reducible refine w_gname ?_
  | with_reducible refine w_gsub ?_
  | with_reducible refine w_test ?_
  | with_reducible refine w_B ?_
  | with_reducible refine w_bl ?_
  | with_reducible refine w_and ?_
  | with_reducible refine w_or ?_
  | with_reducible refine w_not ?_
  | with_reducible refine w_if ?_
  | with_reducible refine w_I0 ?_
  | with_reducible refine Gk.w_rU ?_
  | with_reducible refine Dq.w_orV ?_
  | with_reducible refine Dq.w_js ?_
  | with_reducible refine Dq.w_js0 ?_
  | with_reducible refine Dq.w_fm ?_
  | with_reducible refine Dq.w_andV ?_
  | with_reducible refine Gk.w_iEnum ?_
  | with_reducible refine Dq.w_dget ?_
  | with_reducible refine Dq.w_dpop1 ?_
  | with_reducible refine Dq.w_ddel ?_
  | with_reducible refine Dq.w_din ?_
  | with_reducible refine Dq.w_dnotin ?_
  | with_reducible refine Dq.w_dget2 ?_
  | with_reducible refine Dq.w_dnew ?_
  | with_reducible refine Dq.w_fldaug ?_
  | with_reducible refine Dq.w_aSub ?_
  | with_reducible refine Dq.w_aAdd ?_
  | with_reducible refine Dq.w_mkd ?_
  | with_reducible refine Dq.w_notN0 ?_
  | with_reducible refine Dq.w_isN0 ?_
  | with_reducible refine Ftw.w_isTI ?_
  | with_reducible refine Ftw.w_isTS ?_
  | with_reducible refine Ftw.w_isTR ?_
  | with_reducible refine Ftw.w_isTN ?_
  | with_reducible refine Ftw.w_isTtt ?_
  | with_reducible refine Ftw.w_isTft ?_
  | with_reducible refine Ftw.w_isTtf ?_
  | with_reducible refine Ftw.w_isNS ?_
  | with_reducible refine Ftw.w_isNB ?_
  | ((with_reducible refine' Ftw.w_isiRS ?hq ?_); (case hq => assumption))
  | ((with_reducible refine' Ftw.w_isiRT ?hq ?_); (case hq => assumption))
  | ((with_reducible refine' Ftw.w_isiRI ?hq ?_); (case hq => assumption))
  | with_reducible refine Ftw.w_isiIT ?_
  | with_reducible refine Ftw.w_isiII ?_
  | with_reducible refine Dq.w_notNR ?_
  | with_reducible refine Dq.w_isNR ?_
  | with_reducible refine Dq.w_notNI ?_
  | with_reducible refine Dq.w_isNI ?_
  | with_reducible refine L2.w_neOs ?_
  | with_reducible refine w_ipI ?_
  | with_reducible refine w_eqS ?_
  | with_reducible refine w_neS ?_
  | with_reducible refine w_eqI ?_
  | with_reducible refine w_neI ?_
  | with_reducible refine w_eqB ?_
  | with_reducible refine w_neB ?_
  | ((with_reducible refine w_eq ?hs ?_); (case hs => rfl))
  | ((with_reducible refine w_ne ?hs ?_); (case hs => rfl))
  | with_reducible refine w_fld ?_
  | with_reducible refine w_bm ?_
  | with_reducible refine w_bm0 ?_
  | with_reducible refine w_sl ?_
  | with_reducible refine w_part ?_
  | with_reducible refine w_partI ?_
  | with_reducible refine w_nopart ?_
  | ((with_reducible refine' w_ixL ?hh ?ha ?_); (case hh => first | assumption | exact upd_same); (case ha => rfl))
  | ((with_reducible refine' w_setLu ?ha ?_); (case ha => rfl))
  | ((with_reducible refine' w_setL ?hh ?ha ?_); (case hh => first | assumption | exact upd_same); (case ha => rfl))
  | with_reducible refine w_iteT ?_
  | with_reducible refine w_iteF ?_
  | with_reducible refine w_lst ?_
  | with_reducible refine w_tup ?_
  | ((with_reducible refine w_new ?hz ?_); (case hz => rfl))
  | with_reducible refine w_lc ?_
  | with_reducible refine w_iL ?_
  | with_reducible refine w_iT ?_
  | with_reducible refine w_iR1 ?_
  | with_reducible refine w_iR2 ?_
  | with_reducible refine w_yes ?_
  | with_reducible refine w_iStr ?_
  | with_reducible exact tyS
  | with_reducible refine And.intro tyS ?_
  | ((with_reducible refine w_find3 ?_); (first | rw [find3_one] | rw [starts3] | skip))
  | ((with_reducible refine w_2s ?_); (try rw [find_one]))
  | ((with_reducible refine w_inS ?_); rw [S_list])
  | ((with_reducible refine w_lenS ?hz ?_); (case hz => first | assumption | omega | decide); rw [SX.S_len])
  | ((with_reducible refine w_addS ?hz ?_); (case hz => first | assumption | omega | decide); rw [vS_cat])
  | with_reducible refine w_mk ?_
  | with_reducible refine w_me ?_
  | with_reducible refine w_sfld ?_
  | ((with_reducible refine' w_gtup ?hh ?hn ?_); (case hh => first | assumption | exact upd_same); (case hn => rfl))
  | with_reducible refine w_gcons ?_
  | with_reducible refine w_gnil ?_
  | with_reducible refine w_repl ?_
  | with_reducible refine w_star ?_
  | with_reducible refine w_revL ?_
  | with_reducible refine w_isiS ?_
  | with_reducible refine w_isiI ?_
  | with_reducible refine w_isiN ?_
  | with_reducible refine w_chain ?_
  | with_reducible refine w_iEnumT ?_
  | with_reducible refine w_iZip3 ?_
  | with_reducible refine w_iZip ?_
  | with_reducible refine w_lenR3 ?_
  | with_reducible refine w_x1i ?_
  | with_reducible refine w_x1b ?_
  | with_reducible refine w_x1s ?_
  | with_reducible refine w_int1i ?_
  | with_reducible refine w_int1b ?_
  | ((with_reducible refine w_mod ?hc ?_); (case hc => omega))
  | ((with_reducible refine w_fdivW ?hc ?hd ?_); (case hc => omega); (case hd => omega))
  | ((with_reducible refine w_mul ?hc ?_); (case hc => first | exact Or.inr ⟨by decide, by decide⟩ | exact Or.inl ⟨by decide, by decide⟩))
  | ((with_reducible refine w_pow ?hc ?_); (case hc => exact ⟨by decide, by decide, by decide⟩)))
local macro_rules | `(tactic| walk_at "f1") => `(tactic| first
  | ((with_reducible refine' K04.g_tokens ?hW ?hK ?hs ?hx ?_); (case hW => assumption); (case hK => rfl); (case hs => rfl); (case hx => first | assumption | exact upd_same))
  | ((with_reducible refine' K04.g_place ?hW ?hK ?hs ?hx ?_); (case hW => assumption); (case hK => rfl); (case hs => rfl); (case hx => first | assumption | exact upd_same))
  | ((with_reducible refine' K04.g_opened ?hW ?hK ?hs ?hx ?_); (case hW => assumption); (case hK => rfl); (case hs => rfl); (case hx => first | assumption | exact upd_same))
  | with_reducible refine K04.w_kget ?_
  | with_reducible refine K04.w_med ?_
  | walk_at "e1")
local macro_rules | `(tactic| walk_at "s1") => `(tactic| first
  | with_reducible refine w_seq ?_
  | with_reducible refine w_asg ?_
  | with_reducible refine w_ret ?_
  | with_reducible refine w_par ?_
  | with_reducible refine w_drop ?_
  | with_reducible refine w_next ?_
  | with_reducible refine w_ifs ?_
  | ((with_reducible refine' w_aug ?hv ?_); (case hv => rfl))
  | with_reducible refine w_for ?_
  | walk_at "f1")
local macro_rules | `(tactic| walk_at "e") => `(tactic| repeat walk_at "e1")
local macro_rules | `(tactic| walk_at "g") => `(tactic| repeat walk_at "s1")
local macro_rules | `(tactic| walk_at "n1") => `(tactic| ((fail_if_success (with_reducible refine w_if ?_)); walk_at "s1"))
local macro_rules | `(tactic| walk_at "n") => `(tactic| repeat walk_at "n1")
local macro_rules | `(tactic| walk_at "p1") => `(tactic| ((fail_if_success (with_reducible refine w_ifs ?_)); walk_at "s1"))
local macro_rules | `(tactic| walk_at "p") => `(tactic| repeat walk_at "p1")
local macro_rules | `(tactic| walk_at "q1") => `(tactic| ((fail_if_success (with_reducible refine w_seq ?_)); walk_at "s1"))
local macro_rules | `(tactic| walk_at "q") => `(tactic| repeat walk_at "q1")

namespace K04
open Dc Lx M24 M5 M04
def spWordAt (cTk : Addr) (ad : Ad) : Sp := fun vs H Q _ => ∃ (r : Addr) (ts : Toks) (p o q : Nat), vs = [.ref r, .int (q : Int)] ∧ Rd cTk ad ts H r p o ∧ ts.length ≤ 1000 ∧ Q (.str (S (wordAt ts q))) H
def spAhead (cTk : Addr) (ad : Ad) : Sp := fun vs H Q _ => ∃ (r : Addr) (ts : Toks) (p o : Nat), vs = [.ref r, .int 0] ∧ Rd cTk ad ts H r p o ∧ ts.length ≤ 1000 ∧ Q (.str (S (wordAt ts p))) H
def spTaken (cTk : Addr) (ad : Ad) : Sp := fun vs H Q _ => ∃ (r : Addr) (ts : Toks) (p o : Nat) (w : List Nat) (v : V) (n : Nat), vs = [.ref r, .str (S w)] ∧ Rd cTk ad ts H r p o ∧ ts[p]? = some (w, v, n) ∧ ∀ H', Kp r H H' → Rd cTk ad ts H' r (p + 1) o → Q v H'
def spTake (cTk : Addr) (ad : Ad) : Sp := fun vs H Q _ => ∃ (r : Addr) (ts : Toks) (p o : Nat) (w : List Nat), vs = [.ref r, .str (S w)] ∧ Rd cTk ad ts H r p o ∧ ts.length ≤ 1000 ∧ (wordAt ts p ≠ w → Q (.bl false) H) ∧ (wordAt ts p = w → ∀ H', Kp r H H' → Rd cTk ad ts H' r (p + 1) o → Q (.bl true) H')
def spFinish (cTk : Addr) (ad : Ad) : Sp := fun vs H Q _ => ∃ (r : Addr) (ts : Toks) (p o : Nat), vs = [.ref r] ∧ Rd cTk ad ts H r p o ∧ ts.length ≤ 1000 ∧ wordAt ts p = sEnd ∧ Q .non H
def spEnter (cTk : Addr) (ad : Ad) : Sp := fun vs H Q _ => ∃ (r : Addr) (ts : Toks) (p o : Nat), vs = [.ref r] ∧ Rd cTk ad ts H r p o ∧ o < 60 ∧ ∀ H', Kp r H H' → Rd cTk ad ts H' r p (o + 1) → Q .non H'
def spLeave (cTk : Addr) (ad : Ad) : Sp := fun vs H Q _ => ∃ (r : Addr) (ts : Toks) (p o : Nat), vs = [.ref r] ∧ Rd cTk ad ts H r p (o + 1) ∧ ∀ H', Kp r H H' → Rd cTk ad ts H' r p o → Q .non H'
/-- a literal's token -/
inductive Lit1 : List Nat → V → List V → Prop
  | null (v : V) : Lit1 [110, 117, 108, 108] v [.str (Str.ofString "null")]
  | int (v : V) : Lit1 sInt v [.str (Str.ofString "int"), v]
  | txt (v : V) : Lit1 sQuoted v [.str (Str.ofString "text"), v]
/-- the literal that begins at p takes n tokens -/
def Lt (ts : Toks) (p : Nat) (xs : List V) (n : Nat) : Prop := (∃ w v q, ts[p]? = some (w, v, q) ∧ Lit1 w v xs ∧ n = 1) ∨ ∃ v q k q2, ts[p]? = some ([45], v, q) ∧ ts[p + 1]? = some (sInt, .int k, q2) ∧ xs = [.str (Str.ofString "int"), .int (0 - k)] ∧ n = 2
/-- a tree is read -/
def Gv (cTk : Addr) (ad : Ad) (H : Hp) (Q : VK) (ts : Toks) (r : Addr) (xs : List V) (p o : Nat) : Prop := ∀ H' t, Kp r H H' → Rd cTk ad ts H' r p o → H t = none → H' t = some (.tup xs) → Q (.ref t) H'
def spTree (cTk : Addr) (ad : Ad) (as : List V) : Sp := fun vs H Q _ => ∃ (r : Addr) (ts : Toks) (p o n : Nat) (xs : List V), vs = .ref r :: as ∧ Rd cTk ad ts H r p o ∧ ts.length ≤ 1000 ∧ o < 60 ∧ Lt ts p xs n ∧ wordAt ts (p + n) = sEnd ∧ Gv cTk ad H Q ts r xs (p + n) o
section
variable {P : Program} {w : World} {K : PySem.W.Frag} {mg : Str → Option Value} {base : Heap} {cTE cTk aL aS aK cKF : Addr} {ad : Ad}
theorem at_nat {α : Type} {l : List α} {i : Nat} {c : α} (h : l[i]? = some c) : atI l (i : Int) = some c := atI_nat h
theorem ok_word_at (W : Wr K mg cTE cTk aL aS aK cKF ad) : Me P w K mg base 1 ad.QR "word_at" (spWordAt cTk ad) := by
  refine me_mk W.r_word_at W.r_cl sc_Reader_word_at (fun _ _ _ _ _ _ us hl => match us, hl with | [_, _], _ => rfl) (fun vs H Q E h => ?_) (fun f cdv A outer s H vs Q E hr h => ?_)
  · obtain ⟨r, ts, p, o, q, rfl, _⟩ := h; rfl
  obtain ⟨r, ts, p, o, n, rfl, hR, hl, q⟩ := h
  obtain ⟨dx, L, xs, c, w2, h1, h2, h3, h4⟩ := hR
  have hlen := tok_len h3
  refine ⟨_, (pss_cons (ps_if (pt_cmpR op_lt (pv 1) (pe_callB call_len_seq rfl W.n_len PySem.boot_len (pa_cons (pe_fld (pv 0) rfl) pa_nil)) (nomark _))
    (pss_one (ps_ret (pe_fld (pe_ix ix_list (pe_fld (pv 0) rfl) (pv 1) (fun _ _ => rfl)) rfl)))
    pss_nil)
    (pss_one (ps_ret (C8.pe_gc rfl W.c_END)))), ?_⟩
  walk_at "g"
  refine ⟨L, _, rfl, .inl (SqL.of h2), ?_⟩
  walk_at "g"
  rw [List.length_map, hlen]
  unfold wordAt at q
  refine w_iteD (fun c1 => ?_) (fun c1 => ?_)
  · have hlt : n < ts.length := by have : (n : Int) < (ts.length : Int) := c1; omega
    obtain ⟨tw, tv, tn⟩ : List Nat × V × Nat := ts[n]
    have e : ts[n]? = some ts[n] := List.getElem?_eq_getElem hlt
    rw [e] at q
    obtain ⟨x, hx, dx2, tx⟩ := tok_at (w := ts[n].1) (v := ts[n].2.1) (n := ts[n].2.2) h3 e
    walk_at "g"
    refine ⟨L, _, _, .ref x, rfl, rfl, .inl (.inl h2), at_nat (by rw [List.getElem?_map, hx]; rfl), ?_⟩
    exact ⟨x, cTk, dx2, _, _, rfl, tx, W.t_cl, W.t_w, tok_w _ _ _, q⟩
  · have hge : ts[n]? = none := List.getElem?_eq_none (by have : ¬ (n : Int) < (ts.length : Int) := c1; omega)
    rw [hge] at q
    walk_at "g"
    exact q
theorem ok_ahead (W : Wr K mg cTE cTk aL aS aK cKF ad) (c_QueryReader_word_at : Me P w K mg base 1 ad.QR "word_at" (spWordAt cTk ad)) : Med P w K mg base 2 ad.QR "ahead" (spAhead cTk ad) [.int 0] := by
  refine med_mk (dvs := [.int 0]) 1 0 W.r_ahead W.r_cl sc_Reader_ahead (by simp) rfl (fun _ _ _ _ _ _ _ us its h1 h2 => match us, its, h1, h2 with | [_], [_], _, _ => ⟨_, rfl, rfl⟩) (fun vs H Q E h => ?_) (fun f cdv A outer s H vs Q E hr h => ?_)
  · obtain ⟨r, ts, p, o, rfl, _⟩ := h; rfl
  obtain ⟨r, ts, p, o, rfl, hR, hl, q⟩ := h
  refine ⟨_, (pss_one (ps_ret (pe_me c_QueryReader_word_at hr (by decide) passL (pv 0) (pa_cons (pe_op op_add (pe_fld (pv 0) rfl) (pv 1)) pa_nil)))), ?_⟩
  walk_at "g"
  refine hR.at no_word_at ?_
  obtain ⟨dx, L, xs, c, w2, h1, h2, h3, h4⟩ := id hR
  walk_at "g"
  refine ⟨r, ts, p, o, p, ?_, hR, hl, q⟩
  rw [Int.add_zero]
theorem ok_taken (W : Wr K mg cTE cTk aL aS aK cKF ad) : Me P w K mg base 1 ad.QR "taken" (spTaken cTk ad) := by
  refine me_mk W.r_taken W.r_cl sc_Reader_taken (fun _ _ _ _ _ _ us hl => match us, hl with | [_, _], _ => rfl) (fun vs H Q E h => ?_) (fun f cdv A outer s H vs Q E hr h => ?_)
  · obtain ⟨r, ts, p, o, w, v, n, rfl, _⟩ := h; rfl
  obtain ⟨r, ts, p, o, tw, v, n, rfl, hR, ht, q⟩ := h
  obtain ⟨dx, L, xs, c, w2, h1, h2, h3, h4⟩ := hR
  obtain ⟨x, hx, dx2, tx⟩ := tok_at h3 ht
  refine ⟨_, (pss_cons (ps_set (i := 2) sc_Reader_taken.nd rfl (Or.inl rfl) (pe_ix ix_list (pe_fld (pv 0) rfl) (pe_fld (pv 0) rfl) (fun _ _ => rfl)))
    (pss_cons (ps_if (pt_cmpR op_ne (pe_fld (pv 2) rfl) (pv 1) (nomark _))
    pss_never
    pss_nil)
    (pss_cons (ps_fldaug (pv 0) pe_int in_add)
    (pss_one (ps_ret (pe_fld (pv 2) rfl)))))), ?_⟩
  walk_at "g"
  refine ⟨L, _, _, .ref x, rfl, rfl, .inl (.inl h2), at_nat (by rw [List.getElem?_map, hx]; rfl), ?_⟩
  walk_at "g"
  refine ⟨x, cTk, dx2, _, _, rfl, tx, W.t_cl, W.t_w, tok_w _ _ _, ?_⟩
  walk_at "g"
  refine w_iteN (fun c1 => absurd rfl c1) (fun _ => ?_)
  walk_at "g"
  refine ⟨r, ad.QR, dx, _, _, rfl, h1, W.r_cl, W.r_place, fr_p, ?_⟩
  walk_at "g"
  refine ⟨dx, _, h1, by show 5 < 1000; decide, ?_⟩
  rw [put_p]
  walk_at "g"
  have nx : x ≠ r := fun z => by
    subst z
    rw [h1] at tx
    injection (Option.some.inj tx) with e1
    exact W.ne_TkQR e1.symm
  refine ⟨x, cTk, dx2, _, _, rfl, by rw [upd_ne nx]; exact tx, W.t_cl, W.t_v, tok_v _ _ _, ?_⟩
  exact q _ (Kp.at_) (by
    have := Rd.up (p' := p + 1) (o' := o) h1 h2 h3 h4
    exact this)
theorem ok_take (W : Wr K mg cTE cTk aL aS aK cKF ad) (c_QueryReader_ahead : Med P w K mg base 2 ad.QR "ahead" (spAhead cTk ad) [.int 0]) : Me P w K mg base 3 ad.QR "take" (spTake cTk ad) := by
  refine me_mk W.r_take W.r_cl sc_Reader_take (fun _ _ _ _ _ _ us hl => match us, hl with | [_, _], _ => rfl) (fun vs H Q E h => ?_) (fun f cdv A outer s H vs Q E hr h => ?_)
  · obtain ⟨r, ts, p, o, w, rfl, _⟩ := h; rfl
  obtain ⟨r, ts, p, o, tw, rfl, hR, hl, q0, q1⟩ := h
  obtain ⟨dx, L, xs, c, w2, h1, h2, h3, h4⟩ := id hR
  refine ⟨_, (pss_cons (ps_if (pt_cmpR op_ne (K04.pe_med c_QueryReader_ahead hr (by decide) passL (pv 0)) (pv 1) (nomark _))
    (pss_one (ps_ret pe_bl))
    pss_nil)
    (pss_cons (ps_fldaug (pv 0) pe_int in_add)
    (pss_one (ps_ret pe_bl)))), ?_⟩
  walk_at "g"
  refine hR.at no_ahead ?_
  refine ⟨r, ts, p, o, rfl, hR, hl, ?_⟩
  walk_at "g"
  refine w_iteN (fun c1 => ?_) (fun c1 => ?_)
  · walk_at "g"
    exact q0 c1
  walk_at "g"
  refine ⟨r, ad.QR, dx, _, _, rfl, h1, W.r_cl, W.r_place, fr_p, ?_⟩
  walk_at "g"
  refine ⟨dx, _, h1, by show 5 < 1000; decide, ?_⟩
  rw [put_p]
  walk_at "g"
  exact q1 c1 _ Kp.at_ (Rd.up (p' := p + 1) (o' := o) h1 h2 h3 h4)
theorem ok_finish (W : Wr K mg cTE cTk aL aS aK cKF ad) (c_QueryReader_ahead : Med P w K mg base 2 ad.QR "ahead" (spAhead cTk ad) [.int 0]) : Me P w K mg base 3 ad.QR "finish" (spFinish cTk ad) := by
  refine me_mk W.r_finish W.r_cl sc_Reader_finish (fun _ _ _ _ _ _ us hl => match us, hl with | [_], _ => rfl) (fun vs H Q E h => ?_) (fun f cdv A outer s H vs Q E hr h => ?_)
  · obtain ⟨r, ts, p, o, rfl, _⟩ := h; rfl
  obtain ⟨r, ts, p, o, rfl, hR, hl, he, q⟩ := h
  refine ⟨_, (pss_one (ps_if (pt_cmpR op_ne (K04.pe_med c_QueryReader_ahead hr (by decide) passL (pv 0)) (C8.pe_gc rfl W.c_END) (nomark _))
    pss_never
    pss_nil)), ?_⟩
  walk_at "g"
  refine hR.at no_ahead ?_
  refine ⟨r, ts, p, o, rfl, hR, hl, ?_⟩
  rw [he]
  walk_at "g"
  refine w_iteN (fun c1 => absurd rfl c1) (fun c1 => ?_)
  walk_at "g"
  exact q
theorem ok_enter (W : Wr K mg cTE cTk aL aS aK cKF ad) : Me P w K mg base 1 ad.QR "enter" (spEnter cTk ad) := by
  refine me_mk W.r_enter W.r_cl sc_Reader_enter (fun _ _ _ _ _ _ us hl => match us, hl with | [_], _ => rfl) (fun vs H Q E h => ?_) (fun f cdv A outer s H vs Q E hr h => ?_)
  · obtain ⟨r, ts, p, o, rfl, _⟩ := h; rfl
  obtain ⟨r, ts, p, o, rfl, hR, ho, q⟩ := h
  obtain ⟨dx, L, xs, c, w2, h1, h2, h3, h4⟩ := id hR
  refine ⟨_, (pss_cons (ps_fldaug (pv 0) pe_int in_add)
    (pss_one (ps_if (pt_cmpR op_gt (pe_fld (pv 0) rfl) (C8.pe_gc rfl W.c_MOST_OPEN) (nomark _))
    pss_never
    pss_nil))), ?_⟩
  walk_at "g"
  refine ⟨r, ad.QR, dx, _, _, rfl, h1, W.r_cl, W.r_opened, fr_o, ?_⟩
  walk_at "g"
  refine ⟨dx, _, h1, by show 5 < 1000; decide, ?_⟩
  rw [put_o]
  walk_at "g"
  refine w_iteD (fun c1 => ?_) (fun c1 => ?_)
  · exfalso
    have c2 : (60 : Int) < (o : Int) + 1 := c1
    omega
  walk_at "g"
  exact q _ Kp.at_ (Rd.up (p' := p) (o' := o + 1) h1 h2 h3 h4)
theorem ok_leave (W : Wr K mg cTE cTk aL aS aK cKF ad) : Me P w K mg base 1 ad.QR "leave" (spLeave cTk ad) := by
  refine me_mk W.r_leave W.r_cl sc_Reader_leave (fun _ _ _ _ _ _ us hl => match us, hl with | [_], _ => rfl) (fun vs H Q E h => ?_) (fun f cdv A outer s H vs Q E hr h => ?_)
  · obtain ⟨r, ts, p, o, rfl, _⟩ := h; rfl
  obtain ⟨r, ts, p, o, rfl, hR, q⟩ := h
  obtain ⟨dx, L, xs, c, w2, h1, h2, h3, h4⟩ := id hR
  refine ⟨_, (pss_one (ps_fldaug (pv 0) pe_int in_sub)), ?_⟩
  walk_at "g"
  refine ⟨r, ad.QR, dx, _, _, rfl, h1, W.r_cl, W.r_opened, fr_o, ?_⟩
  walk_at "g"
  refine ⟨dx, _, h1, by show 5 < 1000; decide, ?_⟩
  rw [put_o, show ((o + 1 : Nat) : Int) - 1 = (o : Int) by omega]
  exact q _ Kp.at_ (Rd.up (p' := p) (o' := o) h1 h2 h3 h4)
theorem lt_rel {ts : Toks} {p n : Nat} {xs : List V} (h : Lt ts p xs n) : wordAt ts p = [110, 117, 108, 108] ∨ wordAt ts p = sInt ∨ wordAt ts p = sQuoted ∨ wordAt ts p = [45] := by
  unfold wordAt
  rcases h with ⟨w, v, q, e, l, _⟩ | ⟨v, q, k, q2, e, _⟩
  · rw [e]
    cases l with
    | null => exact .inl rfl
    | int => exact .inr (.inl rfl)
    | txt => exact .inr (.inr (.inl rfl))
  · rw [e]; exact .inr (.inr (.inr rfl))
theorem kp_new {r p : Addr} {H H' : Hp} {o : HO} (k : Kp r H H') (hp : H' p = none) : Kp r H (upd H' p o) := k.trans (Kp.new hp)
theorem Rd.new {ts : Toks} {H : Hp} {r p : Addr} {a o : Nat} {ob : HO} (h : Rd cTk ad ts H r a o) (hp : H p = none) : Rd cTk ad ts (upd H p ob) r a o := h.keep (same_new hp ob)
theorem kp_free {r t : Addr} {H H' : Hp} {a : HO} (k : Kp r H H') (h : H' t = none) (hr : H r = some a) (hr' : ∃ b, H' r = some b) : H t = none := by
  cases e : H t with
  | none => rfl
  | some u =>
    by_cases c : t = r
    · subst c
      obtain ⟨b, hb⟩ := hr'
      rw [hb] at h; cases h
    · rw [k t u c e] at h; cases h
theorem Rd.some {ts : Toks} {H : Hp} {r : Addr} {a o : Nat} (h : Rd cTk ad ts H r a o) : ∃ b, H r = some b := by
  obtain ⟨dx, L, xs, c, w, h1, _⟩ := h
  exact ⟨_, h1⟩
theorem gv_new {ts : Toks} {H H' : Hp} {Q : VK} {r : Addr} {xs : List V} {a o a0 o0 : Nat} (g : Gv cTk ad H Q ts r xs a o) (k : Kp r H H') (h0 : Rd cTk ad ts H r a0 o0) (h : Rd cTk ad ts H' r a o) {t : Addr} (ht : H' t = none) : Q (.ref t) (upd H' t (.tup xs)) := by
  obtain ⟨b, hb⟩ := h0.some
  exact g _ t (kp_new k ht) (h.new ht) (kp_free k ht hb h.some) upd_same
end
end K04
end

section
-- part K04H
set_option Elab.async false
set_option linter.all false
set_option maxRecDepth 100000
set_option maxHeartbeats 800000
open PySem PySem.Spec PyProof.Rows L2 Fw
local macro_rules | `(tactic| walk_at "e1") => `(tactic| first
  | ((with_reducible refine' w_var ?hv ?_); (case hv => rfl))
  | ((with_reducible refine' K04.w_ixA ?hh ?ha ?_); (case hh => first | assumption | exact upd_same); (case ha => rfl))
  | ((with_reducible refine' K04.w_eqLF ?hl ?_); (case hl => decide +kernel))
  | ((with_reducible refine' K04.w_eqLT ?hl ?_); (case hl => rfl))
  | ((with_reducible refine' K04.w_neLF ?hl ?_); (case hl => decide +kernel))
  | ((with_reducible refine' K04.w_neLT ?hl ?_); (case hl => rfl))
  | with_reducible refine K04.w_isNV ?_
  | with_reducible refine K04.w_notNV ?_
  | ((with_reducible refine' K04.w_modZ ?hc ?_); (case hc => assumption))
  | ((with_reducible refine' K04.w_divZ ?hc ?_); (case hc => assumption))
  | with_reducible refine K04.w_ckw ?_
  | with_reducible refine GnK.w_anyK ?_
  | with_reducible refine Fw.w_notV ?_
  | with_reducible refine F24.w_iZipM ?_
  | with_reducible refine F24.w_iZipA ?_
  | with_reducible refine Fge.w_cld ?_
  | with_reducible refine w_c ?_
  | with_reducible refine w_op ?_
  | with_reducible refine w_un ?_
  | with_reducible refine w_cons ?_
  | with_reducible refine w_nil ?_
  | with_reducible refine w_cl ?_
  | with_reducible refine w_cb ?_
  | with_reducible refine w_gname ?_
  | with_reducible refine w_gsub ?_
  | with_reducible refine w_test ?_
  | with_reducible refine w_B ?_
  | with_reducible refine w_bl ?_
  | with_reducible refine w_and ?_
  | with_reducible refine w_or ?_
  | with_reducible refine w_not ?_
  | with_reducible refine w_if ?_
  | with_reducible refine w_I0 ?_
  | with_reducible refine Gk.w_rU ?_
  | with_reducible refine Dq.w_orV ?_
  | with_reducible refine Dq.w_js ?_
  | with_reducible refine Dq.w_js0 ?_
  | with_reducible refine Dq.w_fm ?_
  | with_reducible refine Dq.w_andV ?_
  | with_reducible refine Gk.w_iEnum ?_
  | with_reducible refine Dq.w_dget ?_
  | with_reducible refine Dq.w_dpop1 ?_
  | with_reducible refine Dq.w_ddel ?_
  | with_reducible refine Dq.w_din ?_
  | with_reducible refine Dq.w_dnotin ?_
  | with_reducible refine Dq.w_dget2 ?_
  | with_reducible refine Dq.w_dnew ?_
  | with_reducible refine Dq.w_fldaug ?_
  | with_reducible refine Dq.w_aSub ?_
  | with_reducible refine Dq.w_aAdd ?_
  | with_reducible refine Dq.w_mkd ?_
  | with_reducible refine Dq.w_notN0 ?_
  | with_reducible refine Dq.w_isN0 ?_
  | with_reducible refine Ftw.w_isTI ?_
  | with_reducible refine Ftw.w_isTS ?_
  | with_reducible refine Ftw.w_isTR ?_
  | with_reducible refine Ftw.w_isTN ?_
  | with_reducible refine Ftw.w_isTtt ?_
  | with_reducible refine Ftw.w_isTft ?_
  | with_reducible refine Ftw.w_isTtf ?_
  | with_reducible refine Ftw.w_isNS ?_
  | with_reducible refine Ftw.w_isNB ?_
  | ((with_reducible refine' Ftw.w_isiRS ?hq ?_); (case hq => assumption))
  | ((with_reducible refine' Ftw.w_isiRT ?hq ?_); (case hq => assumption))
  | ((with_reducible refine' Ftw.w_isiRI ?hq ?_); (case hq => assumption))
  | with_reducible refine Ftw.w_isiIT ?_
  | with_reducible refine Ftw.w_isiII ?_
  | with_reducible refine Dq.w_notNR ?_
  | with_reducible refine Dq.w_isNR ?_
  | with_reducible refine Dq.w_notNI ?_
  | with_reducible refine Dq.w_isNI ?_
  | with_reducible refine L2.w_neOs ?_
  | with_reducible refine w_ipI ?_
  | with_reducible refine w_eqS ?_
  | with_reducible refine w_neS ?_
  | with_reducible refine w_eqI ?_
  | with_reducible refine w_neI ?_
  | with_reducible refine w_eqB ?_
  | with_reducible refine w_neB ?_
  | ((with_reducible refine w_eq ?hs ?_); (case hs => rfl))
  | ((with_reducible refine w_ne ?hs ?_); (case hs => rfl))
  | with_reducible refine w_fld ?_
  | with_reducible refine w_bm ?_
  | with_reducible refine w_bm0 ?_
  | with_reducible refine w_sl ?_
  | with_reducible refine w_part ?_
  | with_reducible refine w_partI ?_
  | with_reducible refine w_nopart ?_
  | ((with_reducible refine' w_ixL ?hh ?ha ?_); (case hh => first | assumption | exact upd_same); (case ha => rfl))
  | ((with_reducible refine' w_setLu ?ha ?_); (case ha => rfl))
  | ((with_reducible refine' w_setL ?hh ?ha ?_); (case hh => first | assumption | exact upd_same); (case ha => rfl))
  | with_reducible refine w_iteT ?_
  | with_reducible refine w_iteF ?_
  | with_reducible refine w_lst ?_
  | with_reducible refine w_tup ?_
  | ((with_reducible refine w_new ?hz ?_); (case hz => rfl))
  | with_reducible refine w_lc ?_
  | with_reducible refine w_iL ?_
  | with_reducible refine w_iT ?_
  | with_reducible refine w_iR1 ?_
  | with_reducible refine w_iR2 ?_
  | with_reducible refine w_yes ?_
  | with_reducible refine w_iStr ?_
  | with_reducible exact tyS
  | with_reducible refine And.intro tyS ?_
  | ((with_reducible refine w_find3 ?_); (first | rw [find3_one] | rw [starts3] | skip))
  | ((with_reducible refine w_2s ?_); (try rw [find_one]))
  | ((with_reducible refine w_inS ?_); rw [S_list])
  | ((with_reducible refine w_lenS ?hz ?_); (case hz => first | assumption | omega | decide); rw [SX.S_len])
  | ((with_reducible refine w_addS ?hz ?_); (case hz => first | assumption | omega | decide); rw [vS_cat])
  | with_reducible refine w_mk ?_
  | with_reducible refine w_me ?_
  | with_reducible refine w_sfld ?_
  | ((with_reducible refine' w_gtup ?hh ?hn ?_); (case hh => first | assumption | exact upd_same); (case hn => rfl))
  | with_reducible refine w_gcons ?_
  | with_reducible refine w_gnil ?_
  | with_reducible refine w_repl ?_
  | with_reducible refine w_star ?_
  | with_reducible refine w_revL ?_
  | with_reducible refine w_isiS ?_
  | with_reducible refine w_isiI ?_
  | with_reducible refine w_isiN ?_
  | with_reducible refine w_chain ?_
  | with_reducible refine w_iEnumT ?_
  | with_reducible refine w_iZip3 ?_
  | with_reducible refine w_iZip ?_
  | with_reducible refine w_lenR3 ?_
  | with_reducible refine w_x1i ?_
  | with_reducible refine w_x1b ?_
  | with_reducible refine w_x1s ?_
  | with_reducible refine w_int1i ?_
  | with_reducible refine w_int1b ?_
  | ((with_reducible refine w_mod ?hc ?_); (case hc => omega))
  | ((with_reducible refine w_fdivW ?hc ?hd ?_); (case hc => omega); (case hd => omega))
  | ((with_reducible refine w_mul ?hc ?_); (case hc => first | exact Or.inr ⟨by decide, by decide⟩ | exact Or.inl ⟨by decide, by decide⟩))
  | ((with_reducible refine w_pow ?hc ?_); (case hc => exact ⟨by decide, by decide, by decide⟩)))
local macro_rules | `(tactic| walk_at "f1") => `(tactic| first
  | ((with_reducible refine' K04.g_tokens ?hW ?hK ?hs ?hx ?_); (case hW => assumption); (case hK => rfl); (case hs => rfl); (case hx => first | assumption | exact upd_same))
  | ((with_reducible refine' K04.g_place ?hW ?hK ?hs ?hx ?_); (case hW => assumption); (case hK => rfl); (case hs => rfl); (case hx => first | assumption | exact upd_same))
  | ((with_reducible refine' K04.g_opened ?hW ?hK ?hs ?hx ?_); (case hW => assumption); (case hK => rfl); (case hs => rfl); (case hx => first | assumption | exact upd_same))
  | with_reducible refine K04.w_kget ?_
  | with_reducible refine K04.w_med ?_
  | walk_at "e1")
local macro_rules | `(tactic| walk_at "s1") => `(tactic| first
  | with_reducible refine w_seq ?_
  | with_reducible refine w_asg ?_
  | with_reducible refine w_ret ?_
  | with_reducible refine w_par ?_
  | with_reducible refine w_drop ?_
  | with_reducible refine w_next ?_
  | with_reducible refine w_ifs ?_
  | ((with_reducible refine' w_aug ?hv ?_); (case hv => rfl))
  | with_reducible refine w_for ?_
  | walk_at "f1")
local macro_rules | `(tactic| walk_at "e") => `(tactic| repeat walk_at "e1")
local macro_rules | `(tactic| walk_at "g") => `(tactic| repeat walk_at "s1")
local macro_rules | `(tactic| walk_at "n1") => `(tactic| ((fail_if_success (with_reducible refine w_if ?_)); walk_at "s1"))
local macro_rules | `(tactic| walk_at "n") => `(tactic| repeat walk_at "n1")
local macro_rules | `(tactic| walk_at "p1") => `(tactic| ((fail_if_success (with_reducible refine w_ifs ?_)); walk_at "s1"))
local macro_rules | `(tactic| walk_at "p") => `(tactic| repeat walk_at "p1")
local macro_rules | `(tactic| walk_at "q1") => `(tactic| ((fail_if_success (with_reducible refine w_seq ?_)); walk_at "s1"))
local macro_rules | `(tactic| walk_at "q") => `(tactic| repeat walk_at "q1")

namespace K04
open Dc Lx M24 M5 M04
def spLit (cTk : Addr) (ad : Ad) : Sp := fun vs H Q _ => ∃ (r : Addr) (ts : Toks) (p o : Nat) (w : List Nat) (v : V) (q : Nat) (xs : List V), vs = [.ref r] ∧ Rd cTk ad ts H r p o ∧ ts.length ≤ 1000 ∧ ts[p]? = some (w, v, q) ∧ Lit1 w v xs ∧ Gv cTk ad H Q ts r xs (p + 1) o
def spMinus (cTk : Addr) (ad : Ad) : Sp := fun vs H Q _ => ∃ (r : Addr) (ts : Toks) (p o : Nat) (v : V) (q : Nat) (k : Int) (q2 : Nat), vs = [.ref r] ∧ Rd cTk ad ts H r p o ∧ ts.length ≤ 1000 ∧ ts[p]? = some ([45], v, q) ∧ ts[p + 1]? = some (sInt, .int k, q2) ∧ Gv cTk ad H Q ts r [.str (Str.ofString "int"), .int (0 - k)] (p + 2) o
theorem word_of {ts : Toks} {p : Nat} {w : List Nat} {v : V} {q : Nat} (h : ts[p]? = some (w, v, q)) : wordAt ts p = w := by unfold wordAt; rw [h]
section
variable {P : Program} {w : World} {K : PySem.W.Frag} {mg : Str → Option Value} {base : Heap} {cTE cTk aL aS aK cKF : Addr} {ad : Ad}
theorem ok_literal (W : Wr K mg cTE cTk aL aS aK cKF ad) (D : Wk K w ad) (c_QueryReader_ahead : Med P w K mg base 2 ad.QR "ahead" (spAhead cTk ad) [.int 0]) (c_QueryReader_take : Me P w K mg base 3 ad.QR "take" (spTake cTk ad)) (c_QueryReader_taken : Me P w K mg base 1 ad.QR "taken" (spTaken cTk ad)) :
    Me P w K mg base 4 ad.QR "literal" (spLit cTk ad) := by
  refine me_mk W.r_literal W.r_cl sc_QueryReader_literal (fun _ _ _ _ _ _ us hl => match us, hl with | [_], _ => rfl) (fun vs H Q E h => ?_) (fun f cdv A outer s H vs Q E hr h => ?_)
  · obtain ⟨r, ts, p, o, w, v, q, xs, rfl, _⟩ := h; rfl
  obtain ⟨r, ts, p, o, w, v, q, xs, rfl, hR, hl, ht, li, g⟩ := h
  obtain ⟨eLT, nLT, KD_LITERALS⟩ := D.LT
  have hw := word_of ht
  refine ⟨_, (pss_cons (ps_if (pt_val (pe_me c_QueryReader_take hr (by decide) passL (pv 0) (pa_cons pe_str pa_nil)))
    (pss_one (ps_ret (pe_tup (pa_cons pe_str pa_nil))))
    pss_nil)
    (pss_cons (ps_set (i := 1) sc_QueryReader_literal.nd rfl (Or.inl rfl) (K04.pe_med c_QueryReader_ahead hr (by decide) passL (pv 0)))
    (pss_cons (ps_if (pt_cmpR (op_notIn_kd KD_LITERALS) (pv 1) (C8.pe_gc rfl W.c_LITERALS) (by with_unfolding_all rfl))
    pss_never
    pss_nil)
    (pss_one (ps_ret (pe_tup (pa_cons (pe_ix ix_kdict (C8.pe_gc rfl W.c_LITERALS) (pv 1) (fun _ _ => rfl)) (pa_cons (pe_me c_QueryReader_taken hr (by decide) passL (pv 0) (pa_cons (pv 1) pa_nil)) pa_nil)))))))), ?_⟩
  walk_at "g"
  refine hR.at no_take ?_
  rw [show (Str.ofString "null" : Str) = S [110, 117, 108, 108] from rfl]
  refine ⟨r, ts, p, o, _, rfl, hR, hl, fun hn => ?_, fun he H1 k1 R1 => ?_⟩
  · walk_at "g"
    refine hR.at no_ahead ?_
    refine ⟨r, ts, p, o, rfl, hR, hl, ?_⟩
    rw [hw] at hn ⊢
    cases li with
    | null => exact absurd rfl hn
    | int =>
      obtain ⟨t, e⟩ := D.lt_int
      walk_at "g"
      refine ⟨_, _, rfl, rfl, e, ?_⟩
      walk_at "g"
      refine w_iteF ?_
      walk_at "g"
      refine w_kdIx (v := .str (Str.ofString "int")) KD_LITERALS e ⟨_, rfl⟩ ?_
      walk_at "g"
      refine hR.at no_taken ?_
      walk_at "g"
      refine ⟨r, ts, p, o, _, v, q, rfl, hR, ht, fun H1 k1 R1 => ?_⟩
      walk_at "g"
      exact fun t2 ht2 => gv_new g k1 hR R1 ht2
    | txt =>
      obtain ⟨t, e⟩ := D.lt_txt
      walk_at "g"
      refine ⟨_, _, rfl, rfl, e, ?_⟩
      walk_at "g"
      refine w_iteF ?_
      walk_at "g"
      refine w_kdIx (v := .str (Str.ofString "text")) KD_LITERALS e ⟨_, rfl⟩ ?_
      walk_at "g"
      refine hR.at no_taken ?_
      walk_at "g"
      refine ⟨r, ts, p, o, _, v, q, rfl, hR, ht, fun H1 k1 R1 => ?_⟩
      walk_at "g"
      exact fun t2 ht2 => gv_new g k1 hR R1 ht2
  · rw [hw] at he
    cases li with
    | null =>
      walk_at "g"
      exact fun t2 ht2 => gv_new g k1 hR R1 ht2
    | int => exact absurd he (by decide)
    | txt => exact absurd he (by decide)
theorem ok_minus (W : Wr K mg cTE cTk aL aS aK cKF ad) (c_QueryReader_ahead : Med P w K mg base 2 ad.QR "ahead" (spAhead cTk ad) [.int 0]) (c_QueryReader_taken : Me P w K mg base 1 ad.QR "taken" (spTaken cTk ad)) :
    Me P w K mg base 4 ad.QR "minus" (spMinus cTk ad) := by
  refine me_mk W.r_minus W.r_cl sc_QueryReader_minus (fun _ _ _ _ _ _ us hl => match us, hl with | [_], _ => rfl) (fun vs H Q E h => ?_) (fun f cdv A outer s H vs Q E hr h => ?_)
  · obtain ⟨r, ts, p, o, v, q, k, q2, rfl, _⟩ := h; rfl
  obtain ⟨r, ts, p, o, v, q, k, q2, rfl, hR, hl, ht, ht2, g⟩ := h
  refine ⟨_, (pss_cons (ps_expr (pe_me c_QueryReader_taken hr (by decide) passL (pv 0) (pa_cons pe_str pa_nil)))
    (pss_cons (ps_if (pt_cmpR op_eq (K04.pe_med c_QueryReader_ahead hr (by decide) passL (pv 0)) pe_str (nomark _))
    (pss_one (ps_ret (pe_tup (pa_cons pe_str (pa_cons (pe_op op_sub pe_int (pe_me c_QueryReader_taken hr (by decide) passL (pv 0) (pa_cons pe_str pa_nil))) pa_nil)))))
    pss_nil)
    pss_never)), ?_⟩
  walk_at "g"
  refine hR.at no_taken ?_
  refine ⟨r, ts, p, o, _, v, q, rfl, hR, ht, fun H1 k1 R1 => ?_⟩
  walk_at "g"
  refine R1.at no_ahead ?_
  refine ⟨r, ts, _, o, rfl, R1, hl, ?_⟩
  rw [word_of ht2]
  walk_at "g"
  refine w_iteD (fun c1 => ?_) (fun c1 => absurd rfl c1)
  walk_at "g"
  refine R1.at no_taken ?_
  refine ⟨r, ts, _, o, _, _, q2, rfl, R1, ht2, fun H2 k2 R2 => ?_⟩
  walk_at "g"
  exact fun t3 ht3 => gv_new g (k1.trans k2) hR R2 ht3
theorem ok_operand (W : Wr K mg cTE cTk aL aS aK cKF ad) (c_QueryReader_ahead : Med P w K mg base 2 ad.QR "ahead" (spAhead cTk ad) [.int 0]) (c_QueryReader_take : Me P w K mg base 3 ad.QR "take" (spTake cTk ad))
    (c_QueryReader_minus : Me P w K mg base 4 ad.QR "minus" (spMinus cTk ad)) (c_QueryReader_literal : Me P w K mg base 4 ad.QR "literal" (spLit cTk ad)) : Me P w K mg base 5 ad.QR "operand" (spTree cTk ad []) := by
  refine me_mk W.r_operand W.r_cl sc_QueryReader_operand (fun _ _ _ _ _ _ us hl => match us, hl with | [_], _ => rfl) (fun vs H Q E h => ?_) (fun f cdv A outer s H vs Q E hr h => ?_)
  · obtain ⟨r, ts, p, o, n, xs, rfl, _⟩ := h; rfl
  obtain ⟨r, ts, p, o, n, xs, rfl, hR, hl, ho, li, he, g⟩ := h
  refine ⟨_, (pss_cons (ps_set (i := 1) sc_QueryReader_operand.nd rfl (Or.inl rfl) (K04.pe_med c_QueryReader_ahead hr (by decide) passL (pv 0)))
    (pss_cons (ps_if (pt_cmpR op_eq (pv 1) pe_str (nomark _))
    (pss_one (ps_ret (pe_me0 c_QueryReader_minus hr (by decide) passL (pv 0))))
    pss_nil)
    (pss_cons (ps_if (pt_cmpR op_eq (pv 1) pe_str (nomark _))
    pss_never
    pss_nil)
    (pss_cons (ps_if (pt_cmpR op_eq (pv 1) pe_str (nomark _))
    pss_never
    pss_nil)
    (pss_cons (ps_if (pt_cmpR op_eq (pv 1) pe_str (nomark _))
    pss_never
    pss_nil)
    (pss_cons (ps_if (pt_val (pe_me c_QueryReader_take hr (by decide) passL (pv 0) (pa_cons pe_str pa_nil)))
    pss_never
    pss_nil)
    (pss_one (ps_ret (pe_me0 c_QueryReader_literal hr (by decide) passL (pv 0)))))))))), ?_⟩
  walk_at "g"
  refine hR.at no_ahead ?_
  refine ⟨r, ts, p, o, rfl, hR, hl, ?_⟩
  rcases li with ⟨tw, v, q, ht, l1, rfl⟩ | ⟨v, q, k, q2, ht, ht2, rfl, rfl⟩
  · have hx : ∀ e : Str, (e = Str.ofString "-" ∨ e = Str.ofString "(" ∨ e = Str.ofString "case" ∨ e = Str.ofString "name") → tw ≠ e.1.toList := by
      intro e h
      cases l1 <;> (rcases h with rfl | rfl | rfl | rfl <;> decide)
    have hex : wordAt ts p ≠ [101, 120, 105, 115, 116, 115] := by
      rw [word_of ht]
      cases l1 <;> decide
    rw [word_of ht]
    walk_at "g"
    refine w_iteD (fun c1 => absurd c1 (hx _ (.inl rfl))) (fun _ => ?_)
    walk_at "g"
    refine w_iteD (fun c1 => absurd c1 (hx _ (.inr (.inl rfl)))) (fun _ => ?_)
    walk_at "g"
    refine w_iteD (fun c1 => absurd c1 (hx _ (.inr (.inr (.inl rfl))))) (fun _ => ?_)
    walk_at "g"
    refine w_iteD (fun c1 => absurd c1 (hx _ (.inr (.inr (.inr rfl))))) (fun _ => ?_)
    walk_at "g"
    refine hR.at no_take ?_
    rw [show (Str.ofString "exists" : Str) = S [101, 120, 105, 115, 116, 115] from rfl]
    refine ⟨r, ts, p, o, _, rfl, hR, hl, fun _ => ?_, fun h => absurd h hex⟩
    walk_at "g"
    refine hR.at no_literal ?_
    exact ⟨r, ts, p, o, tw, v, q, xs, rfl, hR, hl, ht, l1, g⟩
  · rw [word_of ht]
    walk_at "g"
    refine w_iteD (fun c1 => ?_) (fun c1 => absurd rfl c1)
    walk_at "g"
    refine hR.at no_minus ?_
    exact ⟨r, ts, p, o, v, q, k, q2, rfl, hR, hl, ht, ht2, g⟩
end
end K04
end

section
-- part K04I
set_option Elab.async false
set_option linter.all false
set_option maxRecDepth 100000
set_option maxHeartbeats 800000
open PySem PySem.Spec PyProof.Rows L2 Fw
local macro_rules | `(tactic| walk_at "e1") => `(tactic| first
  | ((with_reducible refine' w_var ?hv ?_); (case hv => rfl))
  | ((with_reducible refine' K04.w_ixA ?hh ?ha ?_); (case hh => first | assumption | exact upd_same); (case ha => rfl))
  | ((with_reducible refine' K04.w_eqLF ?hl ?_); (case hl => decide +kernel))
  | ((with_reducible refine' K04.w_eqLT ?hl ?_); (case hl => rfl))
  | ((with_reducible refine' K04.w_neLF ?hl ?_); (case hl => decide +kernel))
  | ((with_reducible refine' K04.w_neLT ?hl ?_); (case hl => rfl))
  | with_reducible refine K04.w_isNV ?_
  | with_reducible refine K04.w_notNV ?_
  | ((with_reducible refine' K04.w_modZ ?hc ?_); (case hc => assumption))
  | ((with_reducible refine' K04.w_divZ ?hc ?_); (case hc => assumption))
  | with_reducible refine K04.w_ckw ?_
  | with_reducible refine GnK.w_anyK ?_
  | with_reducible refine Fw.w_notV ?_
  | with_reducible refine F24.w_iZipM ?_
  | with_reducible refine F24.w_iZipA ?_
  | with_reducible refine Fge.w_cld ?_
  | with_reducible refine w_c ?_
  | with_reducible refine w_op ?_
  | with_reducible refine w_un ?_
  | with_reducible refine w_cons ?_
  | with_reducible refine w_nil ?_
  | with_reducible refine w_cl ?_
  | with_reducible refine w_cb ?_
  | with_reducible refine w_gname ?_
  | with_reducible refine w_gsub ?_
  | with_reducible refine w_test ?_
  | with_reducible refine w_B ?_
  | with_reducible refine w_bl ?_
  | with_reducible refine w_and ?_
  | with_reducible refine w_or ?_
  | with_reducible refine w_not ?_
  | with_reducible refine w_if ?_
  | with_reducible refine w_I0 ?_
  | with_reducible refine Gk.w_rU ?_
  | with_reducible refine Dq.w_orV ?_
  | with_reducible refine Dq.w_js ?_
  | with_reducible refine Dq.w_js0 ?_
  | with_reducible refine Dq.w_fm ?_
  | with_reducible refine Dq.w_andV ?_
  | with_reducible refine Gk.w_iEnum ?_
  | with_reducible refine Dq.w_dget ?_
  | with_reducible refine Dq.w_dpop1 ?_
  | with_reducible refine Dq.w_ddel ?_
  | with_reducible refine Dq.w_din ?_
  | with_reducible refine Dq.w_dnotin ?_
  | with_reducible refine Dq.w_dget2 ?_
  | with_reducible refine Dq.w_dnew ?_
  | with_reducible refine Dq.w_fldaug ?_
  | with_reducible refine Dq.w_aSub ?_
  | with_reducible refine Dq.w_aAdd ?_
  | with_reducible refine Dq.w_mkd ?_
  | with_reducible refine Dq.w_notN0 ?_
  | with_reducible refine Dq.w_isN0 ?_
  | with_reducible refine Ftw.w_isTI ?_
  | with_reducible refine Ftw.w_isTS ?_
  | with_reducible refine Ftw.w_isTR ?_
  | with_reducible refine Ftw.w_isTN ?_
  | with_reducible refine Ftw.w_isTtt ?_
  | with_reducible refine Ftw.w_isTft ?_
  | with_reducible refine Ftw.w_isTtf ?_
  | with_reducible refine Ftw.w_isNS ?_
  | with_reducible refine Ftw.w_isNB ?_
  | ((with_reducible refine' Ftw.w_isiRS ?hq ?_); (case hq => assumption))
  | ((with_reducible refine' Ftw.w_isiRT ?hq ?_); (case hq => assumption))
  | ((with_reducible refine' Ftw.w_isiRI ?hq ?_); (case hq => assumption))
  | with_reducible refine Ftw.w_isiIT ?_
  | with_reducible refine Ftw.w_isiII ?_
  | with_reducible refine Dq.w_notNR ?_
  | with_reducible refine Dq.w_isNR ?_
  | with_reducible refine Dq.w_notNI ?_
  | with_reducible refine Dq.w_isNI ?_
  | with_reducible refine L2.w_neOs ?_
  | with_reducible refine w_ipI ?_
  | with_reducible refine w_eqS ?_
  | with_reducible refine w_neS ?_
  | with_reducible refine w_eqI ?_
  | with_reducible refine w_neI ?_
  | with_reducible refine w_eqB ?_
  | with_reducible refine w_neB ?_
  | ((with_reducible refine w_eq ?hs ?_); (case hs => rfl))
  | ((with_reducible refine w_ne ?hs ?_); (case hs => rfl))
  | with_reducible refine w_fld ?_
  | with_reducible refine w_bm ?_
  | with_reducible refine w_bm0 ?_
  | with_reducible refine w_sl ?_
  | with_reducible refine w_part ?_
  | with_reducible refine w_partI ?_
  | with_reducible refine w_nopart ?_
  | ((with_reducible refine' w_ixL ?hh ?ha ?_); (case hh => first | assumption | exact upd_same); (case ha => rfl))
  | ((with_reducible refine' w_setLu ?ha ?_); (case ha => rfl))
  | ((with_reducible refine' w_setL ?hh ?ha ?_); (case hh => first | assumption | exact upd_same); (case ha => rfl))
  | with_reducible refine w_iteT ?_
  | with_reducible refine w_iteF ?_
  | with_reducible refine w_lst ?_
  | with_reducible refine w_tup ?_
  | ((with_reducible refine w_new ?hz ?_); (case hz => rfl))
  | with_reducible refine w_lc ?_
  | with_reducible refine w_iL ?_
  | with_reducible refine w_iT ?_
  | with_reducible refine w_iR1 ?_
  | with_reducible refine w_iR2 ?_
  | with_reducible refine w_yes ?_
  | with_reducible refine w_iStr ?_
  | with_reducible exact tyS
  | with_reducible refine And.intro tyS ?_
  | ((with_reducible refine w_find3 ?_); (first | rw [find3_one] | rw [starts3] | skip))
  | ((with_reducible refine w_2s ?_); (try rw [find_one]))
  | ((with_reducible refine w_inS ?_); rw [S_list])
  | ((with_reducible refine w_lenS ?hz ?_); (case hz => first | assumption | omega | decide); rw [SX.S_len])
  | ((with_reducible refine w_addS ?hz ?_); (case hz => first | assumption | omega | decide); rw [vS_cat])
  | with_reducible refine w_mk ?_
  | with_reducible refine w_me ?_
  | with_reducible refine w_sfld ?_
  | ((with_reducible refine' w_gtup ?hh ?hn ?_); (case hh => first | assumption | exact upd_same); (case hn => rfl))
  | with_reducible refine w_gcons ?_
  | with_reducible refine w_gnil ?_
  | with_reducible refine w_repl ?_
  | with_reducible refine w_star ?_
  | with_reducible refine w_revL ?_
  | with_reducible refine w_isiS ?_
  | with_reducible refine w_isiI ?_
  | with_reducible refine w_isiN ?_
  | with_reducible refine w_chain ?_
  | with_reducible refine w_iEnumT ?_
  | with_reducible refine w_iZip3 ?_
  | with_reducible refine w_iZip ?_
  | with_reducible refine w_lenR3 ?_
  | with_reducible refine w_x1i ?_
  | with_reducible refine w_x1b ?_
  | with_reducible refine w_x1s ?_
  | with_reducible refine w_int1i ?_
  | with_reducible refine w_int1b ?_
  | ((with_reducible refine w_mod ?hc ?_); (case hc => omega))
  | ((with_reducible refine w_fdivW ?hc ?hd ?_); (case hc => omega); (case hd => omega))
  | ((with_reducible refine w_mul ?hc ?_); (case hc => first | exact Or.inr ⟨by decide, by decide⟩ | exact Or.inl ⟨by decide, by decide⟩))
  | ((with_reducible refine w_pow ?hc ?_); (case hc => exact ⟨by decide, by decide, by decide⟩)))
local macro_rules | `(tactic| walk_at "f1") => `(tactic| first
  | ((with_reducible refine' K04.g_tokens ?hW ?hK ?hs ?hx ?_); (case hW => assumption); (case hK => rfl); (case hs => rfl); (case hx => first | assumption | exact upd_same))
  | ((with_reducible refine' K04.g_place ?hW ?hK ?hs ?hx ?_); (case hW => assumption); (case hK => rfl); (case hs => rfl); (case hx => first | assumption | exact upd_same))
  | ((with_reducible refine' K04.g_opened ?hW ?hK ?hs ?hx ?_); (case hW => assumption); (case hK => rfl); (case hs => rfl); (case hx => first | assumption | exact upd_same))
  | with_reducible refine K04.w_kget ?_
  | with_reducible refine K04.w_med ?_
  | walk_at "e1")
local macro_rules | `(tactic| walk_at "s1") => `(tactic| first
  | with_reducible refine w_seq ?_
  | with_reducible refine w_asg ?_
  | with_reducible refine w_ret ?_
  | with_reducible refine w_par ?_
  | with_reducible refine w_drop ?_
  | with_reducible refine w_next ?_
  | with_reducible refine w_ifs ?_
  | ((with_reducible refine' w_aug ?hv ?_); (case hv => rfl))
  | with_reducible refine w_for ?_
  | walk_at "f1")
local macro_rules | `(tactic| walk_at "e") => `(tactic| repeat walk_at "e1")
local macro_rules | `(tactic| walk_at "g") => `(tactic| repeat walk_at "s1")
local macro_rules | `(tactic| walk_at "n1") => `(tactic| ((fail_if_success (with_reducible refine w_if ?_)); walk_at "s1"))
local macro_rules | `(tactic| walk_at "n") => `(tactic| repeat walk_at "n1")
local macro_rules | `(tactic| walk_at "p1") => `(tactic| ((fail_if_success (with_reducible refine w_ifs ?_)); walk_at "s1"))
local macro_rules | `(tactic| walk_at "p") => `(tactic| repeat walk_at "p1")
local macro_rules | `(tactic| walk_at "q1") => `(tactic| ((fail_if_success (with_reducible refine w_seq ?_)); walk_at "s1"))
local macro_rules | `(tactic| walk_at "q") => `(tactic| repeat walk_at "q1")

namespace K04
open Dc Lx M24 M5 M04
theorem w_whileOff {c : TT} {tb : TS} {D : Ends} {σ : L2.St} {H : Hp} (h : c σ H fun b H1 => if b = true then False else D.nx σ H1) (mono : ∀ (R1 R2 : Bool → Hp → Prop), (∀ b H1, R1 b H1 → R2 b H1) → c σ H R1 → c σ H R2) : tWhile c tb D σ H := by
  refine w_while (fun _ σ' H' => σ' = σ ∧ H' = H) 0 ⟨rfl, rfl⟩ ?_
  rintro m σ' H' ⟨rfl, rfl⟩
  refine mono _ _ (fun b H1 q => ?_) h
  cases b with
  | true => exact (show False from q).elim
  | false => exact q
section
variable {P : Program} {w : World} {K : PySem.W.Frag} {mg : Str → Option Value} {base : Heap} {cTE cTk aL aS aK cKF : Addr} {ad : Ad}
theorem ok_amount (W : Wr K mg cTE cTk aL aS aK cKF ad) (D : Wk K w ad) (c_QueryReader_ahead : Med P w K mg base 2 ad.QR "ahead" (spAhead cTk ad) [.int 0]) (c_QueryReader_operand : Me P w K mg base 5 ad.QR "operand" (spTree cTk ad [])) : Me P w K mg base 6 ad.QR "amount" (spTree cTk ad [.int 5]) := by
  refine me_mk W.r_amount W.r_cl sc_QueryReader_amount (fun _ _ _ _ _ _ us hl => match us, hl with | [_, _], _ => rfl) (fun vs H Q E h => ?_) (fun f cdv A outer s H vs Q E hr h => ?_)
  · obtain ⟨r, ts, p, o, n, xs, rfl, _⟩ := h; rfl
  obtain ⟨r, ts, p, o, n, xs, rfl, hR, hl, ho, li, he, g⟩ := h
  obtain ⟨eAR, nAR, KD_ARITHMETIC⟩ := D.AR
  refine ⟨_, (pss_cons (ps_set (i := 2) sc_QueryReader_amount.nd rfl (Or.inl rfl) (pe_me0 c_QueryReader_operand hr (by decide) passL (pv 0)))
    (pss_cons (ps_while (passes_of rfl) (pt_cmpR op_ge (K04.pe_kget KD_ARITHMETIC (C8.pe_gc rfl W.c_ARITHMETIC) (K04.pe_med c_QueryReader_ahead hr (by decide) passL (pv 0)) pe_int ⟨rfl, rfl, rfl, rfl⟩) (pv 1) (nomark _))
    pss_never)
    (pss_one (ps_ret (pv 2))))), ?_⟩
  walk_at "g"
  refine hR.at no_operand ?_
  refine ⟨r, ts, p, o, n, xs, rfl, hR, hl, ho, li, he, fun H1 t k1 R1 hf ht => ?_⟩
  walk_at "g"
  refine w_while (fun _ σ' H' => σ' = [some (.ref r), some (.int 5), some (.ref t), none] ∧ H' = H1) 0 ⟨rfl, rfl⟩ ?_
  rintro m σ' H' ⟨rfl, rfl⟩
  walk_at "g"
  refine ⟨rfl, ?_⟩
  walk_at "g"
  refine R1.at no_ahead ?_
  refine ⟨r, ts, _, o, rfl, R1, hl, ?_⟩
  rw [he]
  walk_at "g"
  refine ⟨_, rfl, .inl ⟨D.ar_end, ?_⟩⟩
  walk_at "g"
  refine w_iteD (fun c1 => absurd c1 (by decide)) (fun _ => ?_)
  walk_at "g"
  exact g _ t k1 R1 hf ht
theorem ok_comparison (W : Wr K mg cTE cTk aL aS aK cKF ad) (c_QueryReader_ahead : Med P w K mg base 2 ad.QR "ahead" (spAhead cTk ad) [.int 0]) (c_QueryReader_take : Me P w K mg base 3 ad.QR "take" (spTake cTk ad)) (c_QueryReader_amount : Me P w K mg base 6 ad.QR "amount" (spTree cTk ad [.int 5])) :
    Me P w K mg base 7 ad.QR "comparison" (spTree cTk ad []) := by
  refine me_mk W.r_comparison W.r_cl sc_QueryReader_comparison (fun _ _ _ _ _ _ us hl => match us, hl with | [_], _ => rfl) (fun vs H Q E h => ?_) (fun f cdv A outer s H vs Q E hr h => ?_)
  · obtain ⟨r, ts, p, o, n, xs, rfl, _⟩ := h; rfl
  obtain ⟨r, ts, p, o, n, xs, rfl, hR, hl, ho, li, he, g⟩ := h
  refine ⟨_, (pss_cons (ps_set (i := 1) sc_QueryReader_comparison.nd rfl (Or.inl rfl) (pe_me c_QueryReader_amount hr (by decide) passL (pv 0) (pa_cons (C8.pe_gc rfl W.c_LOOSEST_ARITHMETIC) pa_nil)))
    (pss_cons (ps_set (i := 2) sc_QueryReader_comparison.nd rfl (Or.inl rfl) (K04.pe_med c_QueryReader_ahead hr (by decide) passL (pv 0)))
    (pss_cons (ps_if (pt_cmpR op_in_seq (pv 2) (C8.pe_gc rfl W.c_COMPARISONS) (by with_unfolding_all rfl))
    pss_never
    pss_nil)
    (pss_cons (ps_if (pt_val (pe_me c_QueryReader_take hr (by decide) passL (pv 0) (pa_cons pe_str pa_nil)))
    pss_never
    pss_nil)
    (pss_cons (ps_if (pt_cmpR op_in_seq (pv 2) (pe_tup (pa_cons pe_str (pa_cons pe_str (pa_cons pe_str (pa_cons pe_str pa_nil))))) (by with_unfolding_all rfl))
    pss_never
    pss_nil)
    (pss_one (ps_ret (pv 1)))))))), ?_⟩
  walk_at "g"
  refine hR.at no_amount ?_
  refine ⟨r, ts, p, o, n, xs, rfl, hR, hl, ho, li, he, fun H1 t k1 R1 hf ht => ?_⟩
  walk_at "g"
  refine R1.at no_ahead ?_
  refine ⟨r, ts, _, o, rfl, R1, hl, ?_⟩
  rw [he]
  walk_at "g"
  refine w_inT (W.cm_t _) ?_
  walk_at "g"
  refine w_iteD (fun c1 => absurd c1 (by decide)) (fun _ => ?_)
  walk_at "g"
  refine R1.at no_take ?_
  rw [show (Str.ofString "is" : Str) = S [105, 115] from rfl]
  refine ⟨r, ts, _, o, _, rfl, R1, hl, fun _ => ?_, fun h => absurd (he.symm.trans h) (by decide)⟩
  walk_at "g"
  intro z hz
  refine w_inT (ls := [[110, 111, 116], [105, 110], [98, 101, 116, 119, 101, 101, 110], [108, 105, 107, 101]]) (SqT.of upd_same) ?_
  walk_at "g"
  refine w_iteD (fun c1 => absurd c1 (by decide)) (fun _ => ?_)
  walk_at "g"
  have nz : t ≠ z := ne_of_none ht hz
  exact g _ t (kp_new k1 hz) (R1.new hz) hf (by rw [upd_ne nz]; exact ht)
theorem ok_condition (W : Wr K mg cTE cTk aL aS aK cKF ad) (D : Wk K w ad) (c_QueryReader_ahead : Med P w K mg base 2 ad.QR "ahead" (spAhead cTk ad) [.int 0]) (c_QueryReader_take : Me P w K mg base 3 ad.QR "take" (spTake cTk ad)) (c_QueryReader_comparison : Me P w K mg base 7 ad.QR "comparison" (spTree cTk ad [])) :
    Me P w K mg base 8 ad.QR "condition" (spTree cTk ad [.int 1]) := by
  refine me_mk W.r_condition W.r_cl sc_QueryReader_condition (fun _ _ _ _ _ _ us hl => match us, hl with | [_, _], _ => rfl) (fun vs H Q E h => ?_) (fun f cdv A outer s H vs Q E hr h => ?_)
  · obtain ⟨r, ts, p, o, n, xs, rfl, _⟩ := h; rfl
  obtain ⟨r, ts, p, o, n, xs, rfl, hR, hl, ho, li, he, g⟩ := h
  obtain ⟨eLG, nLG, KD_LOGIC⟩ := D.LG
  have hn : wordAt ts p ≠ [110, 111, 116] := by
    rcases lt_rel li with h | h | h | h <;> rw [h] <;> decide
  refine ⟨_, (pss_cons (ps_if (pt_val (pe_me c_QueryReader_take hr (by decide) passL (pv 0) (pa_cons pe_str pa_nil)))
    pss_never
    (pss_one (ps_set (i := 2) sc_QueryReader_condition.nd rfl (Or.inl rfl) (pe_me0 c_QueryReader_comparison hr (by decide) passL (pv 0)))))
    (pss_cons (ps_while (passes_of rfl) (pt_cmpR op_ge (K04.pe_kget KD_LOGIC (C8.pe_gc rfl W.c_LOGIC) (K04.pe_med c_QueryReader_ahead hr (by decide) passL (pv 0)) pe_int ⟨rfl, rfl, rfl, rfl⟩) (pv 1) (nomark _))
    pss_never)
    (pss_one (ps_ret (pv 2))))), ?_⟩
  walk_at "g"
  refine hR.at no_take ?_
  rw [show (Str.ofString "not" : Str) = S [110, 111, 116] from rfl]
  refine ⟨r, ts, p, o, _, rfl, hR, hl, fun _ => ?_, fun h => absurd h hn⟩
  walk_at "g"
  refine hR.at no_comparison ?_
  refine ⟨r, ts, p, o, n, xs, rfl, hR, hl, ho, li, he, fun H1 t k1 R1 hf ht => ?_⟩
  walk_at "g"
  refine w_while (fun _ σ' H' => σ' = [some (.ref r), some (.int 1), some (.ref t), none] ∧ H' = H1) 0 ⟨rfl, rfl⟩ ?_
  rintro m σ' H' ⟨rfl, rfl⟩
  walk_at "g"
  refine ⟨rfl, ?_⟩
  walk_at "g"
  refine R1.at no_ahead ?_
  refine ⟨r, ts, _, o, rfl, R1, hl, ?_⟩
  rw [he]
  walk_at "g"
  refine ⟨_, rfl, .inl ⟨D.lg_end, ?_⟩⟩
  walk_at "g"
  refine w_iteD (fun c1 => absurd c1 (by decide)) (fun _ => ?_)
  walk_at "g"
  exact g _ t k1 R1 hf ht
theorem ok_expression (W : Wr K mg cTE cTk aL aS aK cKF ad) (c_QueryReader_enter : Me P w K mg base 1 ad.QR "enter" (spEnter cTk ad)) (c_QueryReader_leave : Me P w K mg base 1 ad.QR "leave" (spLeave cTk ad)) (c_QueryReader_condition : Me P w K mg base 8 ad.QR "condition" (spTree cTk ad [.int 1])) :
    Me P w K mg base 9 ad.QR "expression" (fun vs H Q E => ∃ o, o < 59 ∧ ∃ (r : Addr) (ts : Toks) (p n : Nat) (xs : List V), vs = [.ref r] ∧ Rd cTk ad ts H r p o ∧ ts.length ≤ 1000 ∧ Lt ts p xs n ∧ wordAt ts (p + n) = sEnd ∧ Gv cTk ad H Q ts r xs (p + n) o) := by
  refine me_mk W.r_expression W.r_cl sc_QueryReader_expression (fun _ _ _ _ _ _ us hl => match us, hl with | [_], _ => rfl) (fun vs H Q E h => ?_) (fun f cdv A outer s H vs Q E hr h => ?_)
  · obtain ⟨o, _, r, ts, p, n, xs, rfl, _⟩ := h; rfl
  obtain ⟨o, ho, r, ts, p, n, xs, rfl, hR, hl, li, he, g⟩ := h
  refine ⟨_, (pss_cons (ps_expr (pe_me0 c_QueryReader_enter hr (by decide) passL (pv 0)))
    (pss_cons (ps_set (i := 1) sc_QueryReader_expression.nd rfl (Or.inl rfl) (pe_me c_QueryReader_condition hr (by decide) passL (pv 0) (pa_cons pe_int pa_nil)))
    (pss_cons (ps_expr (pe_me0 c_QueryReader_leave hr (by decide) passL (pv 0)))
    (pss_one (ps_ret (pv 1)))))), ?_⟩
  walk_at "g"
  refine hR.at no_enter ?_
  refine ⟨r, ts, p, o, rfl, hR, by omega, fun H1 k1 R1 => ?_⟩
  walk_at "g"
  refine R1.at no_condition ?_
  refine ⟨r, ts, p, o + 1, n, xs, rfl, R1, hl, by omega, li, he, fun H2 t k2 R2 hf ht => ?_⟩
  walk_at "g"
  refine R2.at no_leave ?_
  refine ⟨r, ts, _, o, rfl, R2, fun H3 k3 R3 => ?_⟩
  walk_at "g"
  obtain ⟨b, hb⟩ := hR.some
  have nt : t ≠ r := fun z => by
    subst z
    obtain ⟨b1, hb1⟩ := R1.some
    rw [hb1] at hf; cases hf
  exact g _ t ((k1.trans k2).trans k3) R3 (kp_free k1 hf hb R1.some) (k3 t _ nt ht)
end
end K04
end

section
-- part K04J
set_option Elab.async false
set_option linter.all false
set_option maxRecDepth 100000
set_option maxHeartbeats 800000
open PySem PySem.Spec PyProof.Rows L2 Fw
local macro_rules | `(tactic| walk_at "e1") => `(tactic| first
  | ((with_reducible refine' w_var ?hv ?_); (case hv => rfl))
  | ((with_reducible refine' K04.w_ixA ?hh ?ha ?_); (case hh => first | assumption | exact upd_same); (case ha => rfl))
  | ((with_reducible refine' K04.w_eqLF ?hl ?_); (case hl => decide +kernel))
  | ((with_reducible refine' K04.w_eqLT ?hl ?_); (case hl => rfl))
  | ((with_reducible refine' K04.w_neLF ?hl ?_); (case hl => decide +kernel))
  | ((with_reducible refine' K04.w_neLT ?hl ?_); (case hl => rfl))
  | with_reducible refine K04.w_isNV ?_
  | with_reducible refine K04.w_notNV ?_
  | ((with_reducible refine' K04.w_modZ ?hc ?_); (case hc => assumption))
  | ((with_reducible refine' K04.w_divZ ?hc ?_); (case hc => assumption))
  | with_reducible refine K04.w_ckw ?_
  | with_reducible refine GnK.w_anyK ?_
  | with_reducible refine Fw.w_notV ?_
  | with_reducible refine F24.w_iZipM ?_
  | with_reducible refine F24.w_iZipA ?_
  | with_reducible refine Fge.w_cld ?_
  | with_reducible refine w_c ?_
  | with_reducible refine w_op ?_
  | with_reducible refine w_un ?_
  | with_reducible refine w_cons ?_
  | with_reducible refine w_nil ?_
  | with_reducible refine w_cl ?_
  | with_reducible refine w_cb ?_
  | with_reducible refine w_gname ?_
  | with_reducible refine w_gsub ?_
  | with_reducible refine w_test ?_
  | with_reducible refine w_B ?_
  | with_reducible refine w_bl ?_
  | with_reducible refine w_and ?_
  | with_reducible refine w_or ?_
  | with_reducible refine w_not ?_
  | with_reducible refine w_if ?_
  | with_reducible refine w_I0 ?_
  | with_reducible refine Gk.w_rU ?_
  | with_reducible refine Dq.w_orV ?_
  | with_reducible refine Dq.w_js ?_
  | with_reducible refine Dq.w_js0 ?_
  | with_reducible refine Dq.w_fm ?_
  | with_reducible refine Dq.w_andV ?_
  | with_reducible refine Gk.w_iEnum ?_
  | with_reducible refine Dq.w_dget ?_
  | with_reducible refine Dq.w_dpop1 ?_
  | with_reducible refine Dq.w_ddel ?_
  | with_reducible refine Dq.w_din ?_
  | with_reducible refine Dq.w_dnotin ?_
  | with_reducible refine Dq.w_dget2 ?_
  | with_reducible refine Dq.w_dnew ?_
  | with_reducible refine Dq.w_fldaug ?_
  | with_reducible refine Dq.w_aSub ?_
  | with_reducible refine Dq.w_aAdd ?_
  | with_reducible refine Dq.w_mkd ?_
  | with_reducible refine Dq.w_notN0 ?_
  | with_reducible refine Dq.w_isN0 ?_
  | with_reducible refine Ftw.w_isTI ?_
  | with_reducible refine Ftw.w_isTS ?_
  | with_reducible refine Ftw.w_isTR ?_
  | with_reducible refine Ftw.w_isTN ?_
  | with_reducible refine Ftw.w_isTtt ?_
  | with_reducible refine Ftw.w_isTft ?_
  | with_reducible refine Ftw.w_isTtf ?_
  | with_reducible refine Ftw.w_isNS ?_
  | with_reducible refine Ftw.w_isNB ?_
  | ((with_reducible refine' Ftw.w_isiRS ?hq ?_); (case hq => assumption))
  | ((with_reducible refine' Ftw.w_isiRT ?hq ?_); (case hq => assumption))
  | ((with_reducible refine' Ftw.w_isiRI ?hq ?_); (case hq => assumption))
  | with_reducible refine Ftw.w_isiIT ?_
  | with_reducible refine Ftw.w_isiII ?_
  | with_reducible refine Dq.w_notNR ?_
  | with_reducible refine Dq.w_isNR ?_
  | with_reducible refine Dq.w_notNI ?_
  | with_reducible refine Dq.w_isNI ?_
  | with_reducible refine L2.w_neOs ?_
  | with_reducible refine w_ipI ?_
  | with_reducible refine w_eqS ?_
  | with_reducible refine w_neS ?_
  | with_reducible refine w_eqI ?_
  | with_reducible refine w_neI ?_
  | with_reducible refine w_eqB ?_
  | with_reducible refine w_neB ?_
  | ((with_reducible refine w_eq ?hs ?_); (case hs => rfl))
  | ((with_reducible refine w_ne ?hs ?_); (case hs => rfl))
  | with_reducible refine w_fld ?_
  | with_reducible refine w_bm ?_
  | with_reducible refine w_bm0 ?_
  | with_reducible refine w_sl ?_
  | with_reducible refine w_part ?_
  | with_reducible refine w_partI ?_
  | with_reducible refine w_nopart ?_
  | ((with_reducible refine' w_ixL ?hh ?ha ?_); (case hh => first | assumption | exact upd_same); (case ha => rfl))
  | ((with_reducible refine' w_setLu ?ha ?_); (case ha => rfl))
  | ((with_reducible refine' w_setL ?hh ?ha ?_); (case hh => first | assumption | exact upd_same); (case ha => rfl))
  | with_reducible refine w_iteT ?_
  | with_reducible refine w_iteF ?_
  | with_reducible refine w_lst ?_
  | with_reducible refine w_tup ?_
  | ((with_reducible refine w_new ?hz ?_); (case hz => rfl))
  | with_reducible refine w_lc ?_
  | with_reducible refine w_iL ?_
  | with_reducible refine w_iT ?_
  | with_reducible refine w_iR1 ?_
  | with_reducible refine w_iR2 ?_
  | with_reducible refine w_yes ?_
  | with_reducible refine w_iStr ?_
  | with_reducible exact tyS
  | with_reducible refine And.intro tyS ?_
  | ((with_reducible refine w_find3 ?_); (first | rw [find3_one] | rw [starts3] | skip))
  | ((with_reducible refine w_2s ?_); (try rw [find_one]))
  | ((with_reducible refine w_inS ?_); rw [S_list])
  | ((with_reducible refine w_lenS ?hz ?_); (case hz => first | assumption | omega | decide); rw [SX.S_len])
  | ((with_reducible refine w_addS ?hz ?_); (case hz => first | assumption | omega | decide); rw [vS_cat])
  | with_reducible refine w_mk ?_
  | with_reducible refine w_me ?_
  | with_reducible refine w_sfld ?_
  | ((with_reducible refine' w_gtup ?hh ?hn ?_); (case hh => first | assumption | exact upd_same); (case hn => rfl))
  | with_reducible refine w_gcons ?_
  | with_reducible refine w_gnil ?_
  | with_reducible refine w_repl ?_
  | with_reducible refine w_star ?_
  | with_reducible refine w_revL ?_
  | with_reducible refine w_isiS ?_
  | with_reducible refine w_isiI ?_
  | with_reducible refine w_isiN ?_
  | with_reducible refine w_chain ?_
  | with_reducible refine w_iEnumT ?_
  | with_reducible refine w_iZip3 ?_
  | with_reducible refine w_iZip ?_
  | with_reducible refine w_lenR3 ?_
  | with_reducible refine w_x1i ?_
  | with_reducible refine w_x1b ?_
  | with_reducible refine w_x1s ?_
  | with_reducible refine w_int1i ?_
  | with_reducible refine w_int1b ?_
  | ((with_reducible refine w_mod ?hc ?_); (case hc => omega))
  | ((with_reducible refine w_fdivW ?hc ?hd ?_); (case hc => omega); (case hd => omega))
  | ((with_reducible refine w_mul ?hc ?_); (case hc => first | exact Or.inr ⟨by decide, by decide⟩ | exact Or.inl ⟨by decide, by decide⟩))
  | ((with_reducible refine w_pow ?hc ?_); (case hc => exact ⟨by decide, by decide, by decide⟩)))
local macro_rules | `(tactic| walk_at "f1") => `(tactic| first
  | ((with_reducible refine' K04.g_tokens ?hW ?hK ?hs ?hx ?_); (case hW => assumption); (case hK => rfl); (case hs => rfl); (case hx => first | assumption | exact upd_same))
  | ((with_reducible refine' K04.g_place ?hW ?hK ?hs ?hx ?_); (case hW => assumption); (case hK => rfl); (case hs => rfl); (case hx => first | assumption | exact upd_same))
  | ((with_reducible refine' K04.g_opened ?hW ?hK ?hs ?hx ?_); (case hW => assumption); (case hK => rfl); (case hs => rfl); (case hx => first | assumption | exact upd_same))
  | with_reducible refine K04.w_kget ?_
  | with_reducible refine K04.w_med ?_
  | walk_at "e1")
local macro_rules | `(tactic| walk_at "s1") => `(tactic| first
  | with_reducible refine w_seq ?_
  | with_reducible refine w_asg ?_
  | with_reducible refine w_ret ?_
  | with_reducible refine w_par ?_
  | with_reducible refine w_drop ?_
  | with_reducible refine w_next ?_
  | with_reducible refine w_ifs ?_
  | ((with_reducible refine' w_aug ?hv ?_); (case hv => rfl))
  | with_reducible refine w_for ?_
  | walk_at "f1")
local macro_rules | `(tactic| walk_at "e") => `(tactic| repeat walk_at "e1")
local macro_rules | `(tactic| walk_at "g") => `(tactic| repeat walk_at "s1")
local macro_rules | `(tactic| walk_at "n1") => `(tactic| ((fail_if_success (with_reducible refine w_if ?_)); walk_at "s1"))
local macro_rules | `(tactic| walk_at "n") => `(tactic| repeat walk_at "n1")
local macro_rules | `(tactic| walk_at "p1") => `(tactic| ((fail_if_success (with_reducible refine w_ifs ?_)); walk_at "s1"))
local macro_rules | `(tactic| walk_at "p") => `(tactic| repeat walk_at "p1")
local macro_rules | `(tactic| walk_at "q1") => `(tactic| ((fail_if_success (with_reducible refine w_seq ?_)); walk_at "s1"))
local macro_rules | `(tactic| walk_at "q") => `(tactic| repeat walk_at "q1")

namespace K04
open Dc Lx M24 M5 M04
theorem toks_same {cTk : Addr} {H H' : Hp} {xs : List Addr} {ts : Toks} (h : TokAll cTk H xs ts) (s : Same H H') : TokAll cTk H' xs ts := TokAll.up h fun x _ o e => s _ _ e
def NoBr (ts : Toks) : Prop := ∀ t ∈ ts, t.1 ≠ [40] ∧ t.1 ≠ [41]
def spPlaces (cTk : Addr) : Sp := fun vs H Q _ => ∃ (L : Addr) (xs : List Addr) (ts : Toks), vs = [.ref L] ∧ H L = some (.lst (xs.map V.ref)) ∧ TokAll cTk H xs ts ∧ ts.length ≤ 1000 ∧ NoBr ts ∧ ∀ H' p, Same H H' → H p = none → Q (.ref p) H'
def spWrap (cTk : Addr) : Sp := fun vs H Q _ => ∃ (L c : Addr) (xs : List Addr) (ts : Toks), vs = [.ref L, .ref c] ∧ H L = some (.lst (xs.map V.ref)) ∧ TokAll cTk H xs ts ∧ ts.length ≤ 1000 ∧ NoBr ts ∧ ∀ H' p, Same H H' → H p = none → Q (.ref p) H'
theorem tok_some {cTk : Addr} {H : Hp} {xs : List Addr} {ts : Toks} (h : TokAll cTk H xs ts) {i : Nat} {x : Addr} (hx : xs[i]? = some x) : ∃ t : List Nat × V × Nat, t ∈ ts ∧ ∃ dx, H x = some (.ins cTk dx (tokF (.str (S t.1)) t.2.1 (.int (t.2.2 : Int)))) := by
  have hi : i < ts.length := by rw [← tok_len h]; exact (List.getElem?_eq_some_iff.mp hx).1
  have e : ts[i]? = some (ts[i].1, ts[i].2.1, ts[i].2.2) := List.getElem?_eq_getElem hi
  obtain ⟨y, hy, dx, ty⟩ := tok_at h e
  rw [hx] at hy
  cases hy
  exact ⟨_, List.getElem_mem hi, dx, ty⟩
section
variable {P : Program} {w : World} {K : PySem.W.Frag} {mg : Str → Option Value} {base : Heap} {cTE cTk aL aS aK cKF : Addr} {ad : Ad}
theorem ok_closing (W : Wr K mg cTE cTk aL aS aK cKF ad) : Cl P w K mg base 1 "closing_places" (spPlaces cTk) := by
  refine cl_mk W.d_closing_places sc_closing_places (fun _ _ _ _ _ _ us hl => match us, hl with | [_], _ => rfl) (fun vs H Q E h => ?_) (fun f cdv A outer s H vs Q E hr h => ?_)
  · obtain ⟨L, xs, ts, rfl, _⟩ := h; rfl
  obtain ⟨L, xs, ts, rfl, hL, hT, hl, hB, q⟩ := h
  have hlen := tok_len hT
  refine ⟨_, (pss_cons (ps_set (i := 1) sc_closing_places.nd rfl (Or.inl rfl) (pe_op op_rep (pe_lst (pa_cons (pe_callB call_len_seq rfl W.n_len PySem.boot_len (pa_cons (pv 0) pa_nil)) pa_nil)) (pe_callB call_len_seq rfl W.n_len PySem.boot_len (pa_cons (pv 0) pa_nil))))
    (pss_cons (ps_set (i := 2) sc_closing_places.nd rfl (Or.inl rfl) (pe_lst pa_nil))
    (pss_cons (ps_for (passes_of rfl) rfl (pi_enum rfl W.n_enumerate (pa_cons (pv 0) pa_nil)) (pg_tup rfl (pgs_cons (pg_name (i := 3) sc_closing_places.nd rfl (Or.inl rfl)) (pgs_cons (pg_name (i := 4) sc_closing_places.nd rfl (Or.inl rfl)) pgs_nil)))
    (pss_one (ps_if (pt_cmpR op_eq (pe_fld (pv 4) rfl) pe_str (nomark _))
    pss_never
    (pss_one (ps_if (PW.pt (pw_and (pt_cmpR op_eq (pe_fld (pv 4) rfl) pe_str (nomark _)) (pw_and1 (pt_cmpR (op_neD (hu64 hr)) (pv 2) (pe_lst pa_nil) (nomark _)))))
    pss_never
    pss_nil)))))
    (pss_one (ps_ret (pv 1)))))), ?_⟩
  walk_at "g"
  refine ⟨L, _, rfl, .inl (SqL.of hL), ?_⟩
  walk_at "g"
  intro a1 ha1
  have s1 := same_new ha1 (.lst [V.int ((xs.map V.ref).length : Nat)])
  walk_at "g"
  refine ⟨L, _, rfl, .inl (SqL.of (s1 _ _ hL)), ?_⟩
  rw [List.length_map, hlen] at *
  have big : ts.length ≤ 2 ^ 30 := Nat.le_trans hl (by decide)
  refine ⟨a1, _, _, rfl, rfl, upd_same, by omega, by omega, ?_, fun a2 ha2 => ?_⟩
  · rw [Int.toNat_natCast, List.length_singleton, Nat.one_mul]
    exact Nat.le_trans hl (by decide)
  have s2 := s1.trans (same_new ha2 (.lst (List.replicate ((ts.length : Int)).toNat [V.int (ts.length : Nat)]).flatten))
  walk_at "g"
  intro a3 ha3
  have s3 := s2.trans (same_new ha3 (.lst []))
  walk_at "g"
  refine ⟨L, _, rfl, SqL.of (s3 _ _ hL), ?_⟩
  refine Dq.for_enumL (xs := xs.map V.ref) (fun i σ H' => ∃ v3 v4 : Option V, σ = [some (.ref L), some (.ref a2), some (.ref a3), v3, v4] ∧ Same H H') ⟨none, none, rfl, s3⟩ (fun i σ H' ⟨_, _, _, s⟩ => SqL.of (s _ _ hL)) ?_ ?_
  · rintro i x T σ H' hi ⟨v3, v4, rfl, sH⟩ hTn
    obtain ⟨y, hy, rfl⟩ : ∃ y, xs[i]? = some y ∧ x = V.ref y := by
      rw [List.getElem?_map] at hi
      cases e : xs[i]? with
      | none => rw [e] at hi; cases hi
      | some y => rw [e] at hi; exact ⟨y, rfl, (Option.some.inj hi).symm⟩
    obtain ⟨t, ht, dx, ty⟩ := tok_some hT hy
    obtain ⟨n1, n2⟩ := hB t ht
    have sT := sH.trans (same_new hTn (.tup [.int (i : Nat), .ref y]))
    walk_at "g"
    refine ⟨y, cTk, dx, _, _, rfl, sT _ _ ty, W.t_cl, W.t_w, tok_w _ _ _, ?_⟩
    walk_at "g"
    refine w_iteD (fun c1 => absurd c1 n1) (fun _ => ?_)
    walk_at "g"
    refine ⟨y, cTk, dx, _, _, rfl, sT _ _ ty, W.t_cl, W.t_w, tok_w _ _ _, ?_⟩
    walk_at "g"
    refine w_iteD (fun c1 => absurd c1 n2) (fun _ => ?_)
    walk_at "g"
    exact ⟨_, _, rfl, sT⟩
  · rintro σ H' ⟨v3, v4, rfl, sH⟩
    walk_at "g"
    exact q _ a2 sH (s1.free ha2)
theorem ok_wrapped (W : Wr K mg cTE cTk aL aS aK cKF ad) : Cl P w K mg base 1 "wrapped_places" (spWrap cTk) := by
  refine cl_mk W.d_wrapped_places sc_wrapped_places (fun _ _ _ _ _ _ us hl => match us, hl with | [_, _], _ => rfl) (fun vs H Q E h => ?_) (fun f cdv A outer s H vs Q E hr h => ?_)
  · obtain ⟨L, c, xs, ts, rfl, _⟩ := h; rfl
  obtain ⟨L, c, xs, ts, rfl, hL, hT, hl, hB, q⟩ := h
  have hlen := tok_len hT
  refine ⟨_, (pss_cons (ps_set (i := 2) sc_wrapped_places.nd rfl (Or.inl rfl) (pe_listRg rfl rfl W.n_list (prg_1 rfl W.n_range (pe_callB call_len_seq rfl W.n_len PySem.boot_len (pa_cons (pv 0) pa_nil)))))
    (pss_cons (ps_for (passes_of rfl) rfl (pi_range3 rfl W.n_range (pa_cons (pe_op op_sub (pe_callB call_len_seq rfl W.n_len PySem.boot_len (pa_cons (pv 0) pa_nil)) pe_int) (pa_cons (pe_un un_neg pe_int) (pa_cons (pe_un un_neg pe_int) pa_nil)))) (pg_name (i := 3) sc_wrapped_places.nd rfl (Or.inl rfl))
    (pss_one (ps_if (PW.pt (pw_and (pt_cmpR op_eq (pe_fld (pe_ix ix_list (pv 0) (pv 3) (fun _ _ => rfl)) rfl) pe_str (nomark _)) (pw_and (pt_cmpR op_eq (pe_fld (pe_ix ix_list (pv 0) (pe_op op_add (pv 3) pe_int) (fun _ _ => rfl)) rfl) pe_str (nomark _)) (pw_and1 (pt_cmpR op_eq (pe_op op_add (pe_ix ix_list (pv 1) (pe_op op_add (pv 3) pe_int) (fun _ _ => rfl)) pe_int) (pe_ix ix_list (pv 1) (pv 3) (fun _ _ => rfl)) (nomark _))))))
    pss_never
    pss_nil)))
    (pss_one (ps_ret (pv 2))))), ?_⟩
  walk_at "g"
  refine w_listRg (w_rg1 ?_)
  walk_at "g"
  refine ⟨L, _, rfl, .inl (SqL.of hL), ?_⟩
  refine ⟨_, rfl, ?_, fun a1 ha1 => ?_⟩
  · rw [List.length_map, hlen]
    exact RgOk.of_le (by omega) (by omega) (by omega) (by omega)
  have s1 := same_new ha1 (.lst (rgV 0 ((xs.map V.ref).length : Nat)))
  walk_at "g"
  refine w_iR3 ?_
  walk_at "g"
  refine ⟨L, _, rfl, .inl (SqL.of (s1 _ _ hL)), ?_⟩
  walk_at "g"
  rw [List.length_map, hlen] at *
  refine ⟨_, _, _, _, rfl, RgC.neg (by omega) (by omega) (by decide) (by decide), ?_⟩
  refine for_rangeC (fun i σ H' => ∃ v3 : Option V, σ = [some (.ref L), some (.ref c), some (.ref a1), v3] ∧ Same H H') ⟨none, rfl, s1⟩ ?_ ?_
  · rintro i σ H' hi ⟨v3, rfl, sH⟩
    have hi2 : i + 1 < ts.length := by
      have h2 : (i : Int) < (((ts.length : Int) - 2 - (-1)).toNat : Int) := Int.ofNat_lt.mpr hi
      omega
    have ep : ((ts.length : Int) - 2 + (i : Int) * (-1)) = ((ts.length - 2 - i : Nat) : Int) := by omega
    rw [ep]
    have hj : ts.length - 2 - i < xs.length := by rw [tok_len hT]; omega
    obtain ⟨t, ht, dx, ty⟩ := tok_some hT (List.getElem?_eq_getElem hj)
    obtain ⟨n1, n2⟩ := hB t ht
    walk_at "g"
    refine ⟨L, _, _, _, rfl, rfl, .inl (.inl (sH _ _ hL)), at_nat (by rw [List.getElem?_map, List.getElem?_eq_getElem hj]; rfl), ?_⟩
    refine ⟨_, cTk, dx, _, _, rfl, sH _ _ ty, W.t_cl, W.t_w, tok_w _ _ _, ?_⟩
    walk_at "g"
    refine w_iteD (fun c1 => absurd c1 n1) (fun _ => ?_)
    walk_at "g"
    exact ⟨_, rfl, sH⟩
  · rintro σ H' ⟨v3, rfl, sH⟩
    walk_at "g"
    exact q _ a1 sH ha1
def spNew (cTE cTk : Addr) (ad : Ad) : Sp := fun vs H Q _ => ∃ (r dx : Addr) (H0 : Hp) (l : List Nat) (ts : Toks), vs = [.ref r, .str (S l)] ∧ H = upd H0 r (.ins ad.QR dx []) ∧ H0 r = none ∧ l.length ≤ 1000 ∧ lex (l.length + 1) 0 l = some ts ∧ ts.length ≤ 1000 ∧ NoBr ts ∧ ∀ H', Kp r H H' → Rd cTk ad ts H' r 0 0 → Q .non H'
theorem ok_reader (W : Wr K mg cTE cTk aL aS aK cKF ad) (c_tokenize : Cl P w K mg base 6 "tokenize" (spTokenize cTk cTE)) (c_closing_places : Cl P w K mg base 1 "closing_places" (spPlaces cTk)) (c_wrapped_places : Cl P w K mg base 1 "wrapped_places" (spWrap cTk)) :
    Mc P w K mg base 7 "QueryReader" ad.QR (spNew cTE cTk ad) := by
  refine mc_mk W.r_i W.r_g sc_Reader___init__ (fun _ _ _ _ _ _ us hl => match us, hl with | [_, _], _ => rfl) (fun vs H Q E h => ?_) (fun f cdv A outer s H vs Q E hr h => ?_)
  · obtain ⟨r, dx, H0, l, ts, rfl, _⟩ := h; rfl
  obtain ⟨r, dx, H0, l, ts, rfl, rfl, h0, hl, hx, hts, hB, q⟩ := h
  refine ⟨_, (pss_cons (ps_fld (pv 0) (pe_cl c_tokenize hr (by decide) rfl passL (pa_cons (pv 1) pa_nil)) rfl)
    (pss_cons (ps_fld (pv 0) pe_int rfl)
    (pss_cons (ps_fld (pv 0) pe_int rfl)
    (pss_cons (ps_fld (pv 0) (pe_cl c_closing_places hr (by decide) rfl passL (pa_cons (pe_fld (pv 0) rfl) pa_nil)) rfl)
    (pss_one (ps_fld (pv 0) (pe_cl c_wrapped_places hr (by decide) rfl passL (pa_cons (pe_fld (pv 0) rfl) (pa_cons (pe_fld (pv 0) rfl) pa_nil))) rfl)))))), ?_⟩
  walk_at "g"
  refine ⟨l, rfl, Nat.le_trans hl (by decide), ?_⟩
  rw [hx]
  intro H1 L xs s1 fL eL tA fr _
  have e1 := s1 _ _ (upd_same (H := H0) (a := r) (o := .ins ad.QR dx []))
  have nL : L ≠ r := fun z => by subst z; rw [e1] at eL; cases eL
  have nx : r ∉ xs := fun z => by have := fr r z; rw [upd_same] at this; cases this
  walk_at "g"
  refine ⟨r, ad.QR, dx, _, rfl, e1, W.r_cl, W.r_tokens, by show 0 < 1000; decide, ?_⟩
  rw [put_1]
  walk_at "g"
  refine ⟨r, ad.QR, dx, _, rfl, upd_same, W.r_cl, W.r_place, by show 1 < 1000; decide, ?_⟩
  rw [put_2, upd_upd]
  walk_at "g"
  refine ⟨r, ad.QR, dx, _, rfl, upd_same, W.r_cl, W.r_opened, by show 2 < 1000; decide, ?_⟩
  rw [put_3, upd_upd]
  walk_at "g"
  refine ⟨r, ad.QR, dx, _, _, rfl, upd_same, W.r_cl, W.r_tokens, Dq.look1 (by decide +kernel), ?_⟩
  have eL2 : ∀ o, upd H1 r o L = some (.lst (xs.map V.ref)) := fun o => by rw [upd_ne nL]; exact eL
  have tA2 : ∀ o, TokAll cTk (upd H1 r o) xs ts := fun o => TokAll.up tA fun x hx u e => by rw [upd_ne (fun z : x = r => nx (z ▸ hx))]; exact e
  refine ⟨L, xs, ts, rfl, eL2 _, tA2 _, hts, hB, fun H2 c s2 fc => ?_⟩
  walk_at "g"
  refine ⟨r, ad.QR, dx, _, rfl, s2 _ _ upd_same, W.r_cl, W.r_closers, by show 3 < 1000; decide, ?_⟩
  rw [put_4]
  walk_at "g"
  refine ⟨r, ad.QR, dx, _, _, rfl, upd_same, W.r_cl, W.r_tokens, Dq.look1 (by decide +kernel), ?_⟩
  walk_at "g"
  refine ⟨r, ad.QR, dx, _, _, rfl, upd_same, W.r_cl, W.r_closers, (Dq.look0 (by decide +kernel)).trans ((Dq.look0 (by decide +kernel)).trans ((Dq.look0 (by decide +kernel)).trans (Dq.look1 (by decide +kernel)))), ?_⟩
  have eL3 : ∀ o, upd H2 r o L = some (.lst (xs.map V.ref)) := fun o => by rw [upd_ne nL]; exact s2 _ _ (eL2 _)
  have tA3 : ∀ o, TokAll cTk (upd H2 r o) xs ts := fun o => TokAll.up (toks_same (tA2 _) s2) fun x hx u e => by rw [upd_ne (fun z : x = r => nx (z ▸ hx))]; exact e
  refine ⟨L, c, xs, ts, rfl, eL3 _, tA3 _, hts, hB, fun H3 wa s3 fw => ?_⟩
  walk_at "g"
  refine ⟨r, ad.QR, dx, _, rfl, s3 _ _ upd_same, W.r_cl, W.r_wrapped, by show 4 < 1000; decide, ?_⟩
  rw [put_5]
  refine q _ ?_ ⟨dx, L, xs, .ref c, .ref wa, upd_same, by rw [upd_ne nL]; exact s3 _ _ (eL3 _), TokAll.up (toks_same (tA3 _) s3) fun x hx u e => by rw [upd_ne (fun z : x = r => nx (z ▸ hx))]; exact e, nx⟩
  intro b o hb e
  rw [upd_ne hb]
  refine s3 _ _ ?_
  rw [upd_ne hb]
  refine s2 _ _ ?_
  rw [upd_ne hb]
  exact s1 _ _ e
end
end K04
end

section
-- part K04K
set_option Elab.async false
set_option linter.all false
set_option maxRecDepth 100000
set_option maxHeartbeats 800000
open PySem PySem.Spec PyProof.Rows L2 Fw
local macro_rules | `(tactic| walk_at "e1") => `(tactic| first
  | ((with_reducible refine' w_var ?hv ?_); (case hv => rfl))
  | ((with_reducible refine' K04.w_ixA ?hh ?ha ?_); (case hh => first | assumption | exact upd_same); (case ha => rfl))
  | ((with_reducible refine' K04.w_eqLF ?hl ?_); (case hl => decide +kernel))
  | ((with_reducible refine' K04.w_eqLT ?hl ?_); (case hl => rfl))
  | ((with_reducible refine' K04.w_neLF ?hl ?_); (case hl => decide +kernel))
  | ((with_reducible refine' K04.w_neLT ?hl ?_); (case hl => rfl))
  | with_reducible refine K04.w_isNV ?_
  | with_reducible refine K04.w_notNV ?_
  | ((with_reducible refine' K04.w_modZ ?hc ?_); (case hc => assumption))
  | ((with_reducible refine' K04.w_divZ ?hc ?_); (case hc => assumption))
  | with_reducible refine K04.w_ckw ?_
  | with_reducible refine GnK.w_anyK ?_
  | with_reducible refine Fw.w_notV ?_
  | with_reducible refine F24.w_iZipM ?_
  | with_reducible refine F24.w_iZipA ?_
  | with_reducible refine Fge.w_cld ?_
  | with_reducible refine w_c ?_
  | with_reducible refine w_op ?_
  | with_reducible refine w_un ?_
  | with_reducible refine w_cons ?_
  | with_reducible refine w_nil ?_
  | with_reducible refine w_cl ?_
  | with_reducible refine w_cb ?_
  | with_reducible refine w_gname ?_
  | with_reducible refine w_gsub ?_
  | with_reducible refine w_test ?_
  | with_reducible refine w_B ?_
  | with_reducible refine w_bl ?_
  | with_reducible refine w_and ?_
  | with_reducible refine w_or ?_
  | with_reducible refine w_not ?_
  | with_reducible refine w_if ?_
  | with_reducible refine w_I0 ?_
  | with_reducible refine Gk.w_rU ?_
  | with_reducible refine Dq.w_orV ?_
  | with_reducible refine Dq.w_js ?_
  | with_reducible refine Dq.w_js0 ?_
  | with_reducible refine Dq.w_fm ?_
  | with_reducible refine Dq.w_andV ?_
  | with_reducible refine Gk.w_iEnum ?_
  | with_reducible refine Dq.w_dget ?_
  | with_reducible refine Dq.w_dpop1 ?_
  | with_reducible refine Dq.w_ddel ?_
  | with_reducible refine Dq.w_din ?_
  | with_reducible refine Dq.w_dnotin ?_
  | with_reducible refine Dq.w_dget2 ?_
  | with_reducible refine Dq.w_dnew ?_
  | with_reducible refine Dq.w_fldaug ?_
  | with_reducible refine Dq.w_aSub ?_
  | with_reducible refine Dq.w_aAdd ?_
  | with_reducible refine Dq.w_mkd ?_
  | with_reducible refine Dq.w_notN0 ?_
  | with_reducible refine Dq.w_isN0 ?_
  | with_reducible refine Ftw.w_isTI ?_
  | with_reducible refine Ftw.w_isTS ?_
  | with_reducible refine Ftw.w_isTR ?_
  | with_reducible refine Ftw.w_isTN ?_
  | with_reducible refine Ftw.w_isTtt ?_
  | with_reducible refine Ftw.w_isTft ?_
  | with_reducible refine Ftw.w_isTtf ?_
  | with_reducible refine Ftw.w_isNS ?_
  | with_reducible refine Ftw.w_isNB ?_
  | ((with_reducible refine' Ftw.w_isiRS ?hq ?_); (case hq => assumption))
  | ((with_reducible refine' Ftw.w_isiRT ?hq ?_); (case hq => assumption))
  | ((with_reducible refine' Ftw.w_isiRI ?hq ?_); (case hq => assumption))
  | with_reducible refine Ftw.w_isiIT ?_
  | with_reducible refine Ftw.w_isiII ?_
  | with_reducible refine Dq.w_notNR ?_
  | with_reducible refine Dq.w_isNR ?_
  | with_reducible refine Dq.w_notNI ?_
  | with_reducible refine Dq.w_isNI ?_
  | with_reducible refine L2.w_neOs ?_
  | with_reducible refine w_ipI ?_
  | with_reducible refine w_eqS ?_
  | with_reducible refine w_neS ?_
  | with_reducible refine w_eqI ?_
  | with_reducible refine w_neI ?_
  | with_reducible refine w_eqB ?_
  | with_reducible refine w_neB ?_
  | ((with_reducible refine w_eq ?hs ?_); (case hs => rfl))
  | ((with_reducible refine w_ne ?hs ?_); (case hs => rfl))
  | with_reducible refine w_fld ?_
  | with_reducible refine w_bm ?_
  | with_reducible refine w_bm0 ?_
  | with_reducible refine w_sl ?_
  | with_reducible refine w_part ?_
  | with_reducible refine w_partI ?_
  | with_reducible refine w_nopart ?_
  | ((with_reducible refine' w_ixL ?hh ?ha ?_); (case hh => first | assumption | exact upd_same); (case ha => rfl))
  | ((with_reducible refine' w_setLu ?ha ?_); (case ha => rfl))
  | ((with_reducible refine' w_setL ?hh ?ha ?_); (case hh => first | assumption | exact upd_same); (case ha => rfl))
  | with_reducible refine w_iteT ?_
  | with_reducible refine w_iteF ?_
  | with_reducible refine w_lst ?_
  | with_reducible refine w_tup ?_
  | ((with_reducible refine w_new ?hz ?_); (case hz => rfl))
  | with_reducible refine w_lc ?_
  | with_reducible refine w_iL ?_
  | with_reducible refine w_iT ?_
  | with_reducible refine w_iR1 ?_
  | with_reducible refine w_iR2 ?_
  | with_reducible refine w_yes ?_
  | with_reducible refine w_iStr ?_
  | with_reducible exact tyS
  | with_reducible refine And.intro tyS ?_
  | ((with_reducible refine w_find3 ?_); (first | rw [find3_one] | rw [starts3] | skip))
  | ((with_reducible refine w_2s ?_); (try rw [find_one]))
  | ((with_reducible refine w_inS ?_); rw [S_list])
  | ((with_reducible refine w_lenS ?hz ?_); (case hz => first | assumption | omega | decide); rw [SX.S_len])
  | ((with_reducible refine w_addS ?hz ?_); (case hz => first | assumption | omega | decide); rw [vS_cat])
  | with_reducible refine w_mk ?_
  | with_reducible refine w_me ?_
  | with_reducible refine w_sfld ?_
  | ((with_reducible refine' w_gtup ?hh ?hn ?_); (case hh => first | assumption | exact upd_same); (case hn => rfl))
  | with_reducible refine w_gcons ?_
  | with_reducible refine w_gnil ?_
  | with_reducible refine w_repl ?_
  | with_reducible refine w_star ?_
  | with_reducible refine w_revL ?_
  | with_reducible refine w_isiS ?_
  | with_reducible refine w_isiI ?_
  | with_reducible refine w_isiN ?_
  | with_reducible refine w_chain ?_
  | with_reducible refine w_iEnumT ?_
  | with_reducible refine w_iZip3 ?_
  | with_reducible refine w_iZip ?_
  | with_reducible refine w_lenR3 ?_
  | with_reducible refine w_x1i ?_
  | with_reducible refine w_x1b ?_
  | with_reducible refine w_x1s ?_
  | with_reducible refine w_int1i ?_
  | with_reducible refine w_int1b ?_
  | ((with_reducible refine w_mod ?hc ?_); (case hc => omega))
  | ((with_reducible refine w_fdivW ?hc ?hd ?_); (case hc => omega); (case hd => omega))
  | ((with_reducible refine w_mul ?hc ?_); (case hc => first | exact Or.inr ⟨by decide, by decide⟩ | exact Or.inl ⟨by decide, by decide⟩))
  | ((with_reducible refine w_pow ?hc ?_); (case hc => exact ⟨by decide, by decide, by decide⟩)))
local macro_rules | `(tactic| walk_at "f1") => `(tactic| first
  | ((with_reducible refine' K04.g_tokens ?hW ?hK ?hs ?hx ?_); (case hW => assumption); (case hK => rfl); (case hs => rfl); (case hx => first | assumption | exact upd_same))
  | ((with_reducible refine' K04.g_place ?hW ?hK ?hs ?hx ?_); (case hW => assumption); (case hK => rfl); (case hs => rfl); (case hx => first | assumption | exact upd_same))
  | ((with_reducible refine' K04.g_opened ?hW ?hK ?hs ?hx ?_); (case hW => assumption); (case hK => rfl); (case hs => rfl); (case hx => first | assumption | exact upd_same))
  | with_reducible refine K04.w_kget ?_
  | with_reducible refine K04.w_med ?_
  | walk_at "e1")
local macro_rules | `(tactic| walk_at "s1") => `(tactic| first
  | with_reducible refine w_seq ?_
  | with_reducible refine w_asg ?_
  | with_reducible refine w_ret ?_
  | with_reducible refine w_par ?_
  | with_reducible refine w_drop ?_
  | with_reducible refine w_next ?_
  | with_reducible refine w_ifs ?_
  | ((with_reducible refine' w_aug ?hv ?_); (case hv => rfl))
  | with_reducible refine w_for ?_
  | walk_at "f1")
local macro_rules | `(tactic| walk_at "e") => `(tactic| repeat walk_at "e1")
local macro_rules | `(tactic| walk_at "g") => `(tactic| repeat walk_at "s1")
local macro_rules | `(tactic| walk_at "n1") => `(tactic| ((fail_if_success (with_reducible refine w_if ?_)); walk_at "s1"))
local macro_rules | `(tactic| walk_at "n") => `(tactic| repeat walk_at "n1")
local macro_rules | `(tactic| walk_at "p1") => `(tactic| ((fail_if_success (with_reducible refine w_ifs ?_)); walk_at "s1"))
local macro_rules | `(tactic| walk_at "p") => `(tactic| repeat walk_at "p1")
local macro_rules | `(tactic| walk_at "q1") => `(tactic| ((fail_if_success (with_reducible refine w_seq ?_)); walk_at "s1"))
local macro_rules | `(tactic| walk_at "q") => `(tactic| repeat walk_at "q1")

namespace K04
open Dc Lx M24 M5 M04
/-- a literal's tree -/
def treeV : RV → List V
  | .non => [.str (Str.ofString "null")]
  | .txt l => [.str (Str.ofString "text"), .str (S l)]
  | .num n => [.str (Str.ofString "int"), .int n]
def treeD : RV → PyData
  | .non => .tuple [.str (Str.ofString "null")]
  | .txt l => .tuple [.str (Str.ofString "text"), .str (S l)]
  | .num n => .tuple [.str (Str.ofString "int"), .int n]
theorem tree_dp {K : PySem.W.Frag} {H : Hp} {a : Addr} {v : RV} (h : H a = some (.tup (treeV v))) : Dp K H (.ref a) (treeD v) := by
  cases v with
  | non => exact .tup (SqT.of h) (.cons (.str _) .nil)
  | txt l => exact .tup (SqT.of h) (.cons (.str _) (.cons (.str _) .nil))
  | num n => exact .tup (SqT.of h) (.cons (.str _) (.cons (.int _) .nil))
theorem tree_fine {v : RV} (h : okS v) : Fine 1 (treeD v) := by
  cases v with
  | non => exact Fine.tup fun d hd => by rw [List.mem_singleton.mp hd]; exact Fine.str (by decide +kernel)
  | txt l => exact fine2 (Fine.str (by decide +kernel)) (Fine.str (S_ok h))
  | num n => exact fine2 (Fine.str (by decide +kernel)) (Fine.int _)
def spChecked : Sp := fun vs H Q _ => ∃ (t : Addr) (v : RV), vs = [.ref t] ∧ H t = some (.tup (treeV v)) ∧ okS v ∧ ∀ H', Same H H' → Q (.ref t) H'
section
variable {P : Program} {w : World} {K : PySem.W.Frag} {mg : Str → Option Value} {base : Heap} {cTE cTk aL aS aK cKF : Addr} {ad : Ad}
theorem eqv_ne {d : PyData} {r : List PyData} : PyData.eqv (.list (d :: r)) (.list []) = false := by simp [PyData.eqv, PyData.eqvAll]
theorem ok_checked (W : Wr K mg cTE cTk aL aS aK cKF ad) : Cl P w K mg base 1 "checked" spChecked := by
  refine cl_mk W.d_checked sc_checked (fun _ _ _ _ _ _ us hl => match us, hl with | [_], _ => rfl) (fun vs H Q E h => ?_) (fun f cdv A outer s H vs Q E hr h => ?_)
  · obtain ⟨t, v, rfl, _⟩ := h; rfl
  obtain ⟨t, v, rfl, ht, hv, q⟩ := h
  refine ⟨_, (pss_cons (ps_set (i := 1) sc_checked.nd rfl (Or.inl rfl) (pe_lst (pa_cons (pe_tup (pa_cons (pv 0) (pa_cons pe_int pa_nil))) pa_nil)))
    (pss_cons (ps_while (passes_of rfl) (pt_cmpR (op_neD (hu64 hr)) (pv 1) (pe_lst pa_nil) (nomark _))
    (pss_cons (ps_asg (pe_bm0 PySem.F.plainAttrs_list PySem.F.slot_list_pop PySem.F.type_list_pop mt_pop (pv 1)) (pg_tup rfl (pgs_cons (pg_name (i := 2) sc_checked.nd rfl (Or.inl rfl)) (pgs_cons (pg_name (i := 3) sc_checked.nd rfl (by first | exact Or.inl rfl | exact Or.inr rfl)) pgs_nil))))
    (pss_cons (ps_if (pt_cmpR op_gt (pv 3) (C8.pe_gc rfl W.c_MOST_NESTED) (nomark _))
    pss_never
    pss_nil)
    (pss_one (ps_expr (pe_bm PySem.F.plainAttrs_list PySem.F.slot_list_extend PySem.F.type_list_extend mt_extend (pv 1) (pa_cons (pe_lc (own := [("one", 4)]) rfl sc_checked.nd (pi_tup (pv 2)) (blkOk_by (own := [("one", 4)]) (N := ["tree", "waiting", "part", "deep", "one"]) (sc := defScope s_checked) (by decide +kernel)) (fun _ _ _ _ _ => (pg_name (i := 4) sc_checked.nd rfl (by first | exact Or.inl rfl | exact Or.inr rfl))) (fun _ _ _ _ _ => (pts_one (pt_val (pe_callB (K04.isi_K K rfl) rfl W.n_isinstance PyProof.Rows.boot_isinstance (pa_cons (pv 4) (pa_cons (pe_bltn (v := .ty "tuple") rfl W.n_tuple (by decide +kernel) rfl) pa_nil)))))) (fun _ _ _ _ _ => (pe_tup (pa_cons (pv 4) (pa_cons (pe_op op_add (pv 3) pe_int) pa_nil))))) pa_nil)))))))
    (pss_one (ps_ret (pv 0))))), ?_⟩
  walk_at "g"
  intro tp htp
  have s1 := same_new htp (.tup [.ref t, .int 1])
  walk_at "g"
  intro W0 hW0
  have hW : H W0 = none := s1.free hW0
  have np : tp ≠ W0 := ne_of_none (upd_same (H := H) (a := tp)) hW0
  walk_at "g"
  refine w_while (fun m σ H' => Same H H' ∧ ∃ v2 v3 v4 : Option V, σ = [some (.ref t), some (.ref W0), v2, v3, v4] ∧ ((m = 1 ∧ H' W0 = some (.lst [.ref tp]) ∧ H' tp = some (.tup [.ref t, .int 1])) ∨ (m = 0 ∧ H' W0 = some (.lst []))))
    1 ⟨s1.trans (same_new hW0 _), none, none, none, rfl, .inl ⟨rfl, upd_same, by rw [upd_ne np, upd_same]⟩⟩ ?_
  rintro m σ H' ⟨sH, v2, v3, v4, rfl, hm⟩
  walk_at "g"
  intro N hN
  have sN := same_new hN (.lst [])
  rcases hm with ⟨rfl, eW, eT⟩ | ⟨rfl, eW⟩
  · have fin : Fine 3 (.list [.tuple [treeD v, .int 1]]) := Fine.lst fun d hd => by
      rw [List.mem_singleton.mp hd]
      exact Fine.tup fun d hd => by
        rcases List.mem_cons.mp hd with rfl | hd
        · exact tree_fine hv
        · rw [List.mem_singleton.mp hd]; exact (Fine.int 1).le (by decide)
    refine ⟨_, _, .lst (SqL.of (sN _ _ eW)) (.cons (.tup (SqT.of (sN _ _ eT)) (.cons (tree_dp (sN _ _ (sH _ _ ht))) (.cons (.int 1) .nil))) .nil), .lst (SqL.of upd_same) .nil, fin.shaped (by decide), rfl, ?_⟩
    rw [eqv_ne]
    walk_at "g"
    refine w_iteT ?_
    refine ⟨fun σ' H2 => Same H H2 ∧ ∃ v2 v3 v4 : Option V, σ' = [some (.ref t), some (.ref W0), v2, v3, v4] ∧ H2 W0 = some (.lst []), fun σ' H2 ⟨a1, b1, b2, b3, a2, a3⟩ => ⟨0, by decide, a1, b1, b2, b3, a2, .inr ⟨rfl, a3⟩⟩, ?_⟩
    walk_at "g"
    refine ⟨tyL (sN _ _ eW), W0, _, .ref tp, rfl, rfl, sN _ _ eW, rfl, ?_⟩
    have s3 : Same H (upd (upd H' N (.lst [])) W0 (.lst [])) := up_same0 (sH.trans sN) hW
    have e3 : upd (upd H' N (.lst [])) W0 (.lst []) tp = some (.tup [.ref t, .int 1]) := by rw [upd_ne np]; exact sN _ _ eT
    have e4 : upd (upd H' N (.lst [])) W0 (.lst []) W0 = some (.lst []) := upd_same
    show gTup _ _ _ _ _ (upd (upd H' N (.lst [])) W0 (.lst [])) _
    generalize upd (upd H' N (.lst [])) W0 (.lst []) = H3 at s3 e3 e4
    walk_at "g"
    refine w_iteD (fun c1 => absurd c1 (by decide)) (fun _ => ?_)
    walk_at "g"
    refine ⟨tyL e4, ?_⟩
    walk_at "g"
    refine w_lcTn (SqT.of (s3 _ _ ht)) fun D hD => ⟨fun i H2 => Same H3 H2 ∧ H2 D = some (.lst []), ⟨same_new hD _, upd_same⟩, fun i H2 _ ⟨s2, _⟩ => SqT.of (s2 _ _ (s3 _ _ ht)), ?_, ?_⟩
    · rintro i x H2 hi ⟨s2, eD⟩
      have hx : (∃ z, x = .str z) ∨ ∃ n, x = .int n := by
        have hm := List.mem_of_getElem? hi
        cases v with
        | non => exact .inl ⟨_, List.mem_singleton.mp hm⟩
        | txt l =>
          rcases List.mem_cons.mp hm with h | h
          · exact .inl ⟨_, h⟩
          · exact .inl ⟨_, List.mem_singleton.mp h⟩
        | num n =>
          rcases List.mem_cons.mp hm with h | h
          · exact .inl ⟨_, h⟩
          · exact .inr ⟨_, List.mem_singleton.mp h⟩
      walk_at "g"
      refine ⟨rfl, ?_⟩
      rcases hx with ⟨z, rfl⟩ | ⟨n, rfl⟩
      · walk_at "g"
        refine ⟨_, _, _, _, false, rfl, .ty _, .base (.str z), rfl, ?_⟩
        walk_at "g"
        exact ⟨s2, eD⟩
      · walk_at "g"
        exact ⟨s2, eD⟩
    · rintro H2 ⟨s2, eD⟩
      walk_at "g"
      refine ⟨W0, D, [], [], rfl, rfl, s2 _ _ e4, eD, by decide, ?_⟩
      walk_at "g"
      exact ⟨up_same0 (s3.trans s2) hW, _, _, _, rfl, upd_same⟩
  · refine ⟨.list [], .list [], .lst (SqL.of (sN _ _ eW)) .nil, .lst (SqL.of upd_same) .nil, rfl, rfl, ?_⟩
    rw [show PyData.eqv (.list []) (.list []) = true from rfl]
    walk_at "g"
    refine w_iteF ?_
    walk_at "g"
    exact q _ (sH.trans sN)
def spParse : Sp := fun vs H Q _ => ∃ v : RV, vs = [.str (S (txtV v))] ∧ okN v ∧ (∀ l, v = .txt l → l.length ≤ 20 ∧ ∀ c ∈ l, c ∈ Lx.alphabet) ∧ ∀ H' t, Same H H' → H' t = some (.tup (treeV v)) → Q (.ref t) H'
/-- a literal's text as tokens -/
def LexOk (v : RV) : Prop := (txtV v).length ≤ 1000 ∧ ∃ ts n, lex ((txtV v).length + 1) 0 (txtV v) = some ts ∧ ts.length ≤ 1000 ∧ NoBr ts ∧ Lt ts 0 (treeV v) n ∧ wordAt ts n = sEnd
theorem ok_parse (hlex : ∀ v, okN v → (∀ l, v = .txt l → l.length ≤ 20 ∧ ∀ c ∈ l, c ∈ Lx.alphabet) → LexOk v) (hS : ∀ v, (∀ l, v = .txt l → l.length ≤ 20 ∧ ∀ c ∈ l, c ∈ Lx.alphabet) → okS v) (W : Wr K mg cTE cTk aL aS aK cKF ad) (c_QueryReader : Mc P w K mg base 7 "QueryReader" ad.QR (spNew cTE cTk ad))
    (c_QueryReader_expression : Me P w K mg base 9 ad.QR "expression" (fun vs H Q E => ∃ o, o < 59 ∧ ∃ (r : Addr) (ts : Toks) (p n : Nat) (xs : List V), vs = [.ref r] ∧ Rd cTk ad ts H r p o ∧ ts.length ≤ 1000 ∧ Lt ts p xs n ∧ wordAt ts (p + n) = sEnd ∧ Gv cTk ad H Q ts r xs (p + n) o))
    (c_QueryReader_finish : Me P w K mg base 3 ad.QR "finish" (spFinish cTk ad)) (c_checked : Cl P w K mg base 1 "checked" spChecked) : Cl P w K mg base 10 "parse_expression" spParse := by
  refine cl_mk W.d_parse_expression sc_parse_expression (fun _ _ _ _ _ _ us hl => match us, hl with | [_], _ => rfl) (fun vs H Q E h => ?_) (fun f cdv A outer s H vs Q E hr h => ?_)
  · obtain ⟨v, rfl, _⟩ := h; rfl
  obtain ⟨v, rfl, ho, hl, q⟩ := h
  obtain ⟨h1000, ts, n, hx, hts, hB, li, he⟩ := hlex v ho hl
  refine ⟨_, (pss_cons (ps_set (i := 1) sc_parse_expression.nd rfl (Or.inl rfl) (pe_mc c_QueryReader hr (by decide) rfl passL (pa_cons (pv 0) pa_nil)))
    (pss_cons (ps_set (i := 2) sc_parse_expression.nd rfl (Or.inl rfl) (pe_me0 c_QueryReader_expression hr (by decide) passL (pv 1)))
    (pss_cons (ps_expr (pe_me0 c_QueryReader_finish hr (by decide) passL (pv 1)))
    (pss_one (ps_ret (pe_cl c_checked hr (by decide) rfl passL (pa_cons (pv 2) pa_nil))))))), ?_⟩
  walk_at "g"
  intro r dx hr0 hdx ne
  have hr1 : upd H dx (.own r) r = none := by rw [upd_ne (fun z : r = dx => ne z.symm)]; exact hr0
  refine ⟨r, dx, upd H dx (.own r), txtV v, ts, rfl, rfl, hr1, h1000, hx, hts, hB, fun H1 k1 R1 => ⟨rfl, ?_⟩⟩
  have s1 : Same H H1 := fun b o e => k1 b o (ne_of_none e hr0) (by rw [upd_ne (ne_of_none e hr0), upd_ne (ne_of_none e hdx)]; exact e)
  walk_at "g"
  refine R1.at no_expression ?_
  refine ⟨0, by decide, r, ts, 0, n, _, rfl, R1, hts, li, by rw [Nat.zero_add]; exact he, fun H2 t k2 R2 hf ht => ?_⟩
  walk_at "g"
  refine R2.at no_finish ?_
  refine ⟨r, ts, _, 0, rfl, R2, hts, by rw [Nat.zero_add]; exact he, ?_⟩
  walk_at "g"
  refine ⟨t, v, rfl, ht, hS v hl, fun H3 s3 => q _ t ?_ (s3 _ _ ht)⟩
  exact fun b o e => s3 _ _ (k2 b o (ne_of_none e hr0) (s1 _ _ e))
end
end K04
end

section
-- part K04Lx
set_option Elab.async false
set_option linter.all false
set_option maxRecDepth 100000
set_option maxHeartbeats 800000
/-! K04Lx: a literal's text as tokens -/
namespace K04
open PySem PySem.Spec PyProof.Rows L2 Fw Lx M5 M24 M04
theorem run_full {p : Nat → Bool} {s : List Nat} (h : ∀ c ∈ s, p c = true) : run p s = s.length := by
  induction s with
  | nil => rfl
  | cons c s ih => rw [run_cons, if_pos (h c List.mem_cons_self), ih fun d hd => h d (List.mem_cons_of_mem _ hd), List.length_cons]; omega
theorem lex_end (f p : Nat) : lex (f + 1) p [] = some [(sEnd, .non, p)] := by
  have h : gap false [] = 0 := by simp [gap]
  rw [lex_done (by rw [h]; rfl), h]
  rfl
/-- one token that ends the text -/
theorem lex_one {s w : List Nat} {v : V} (hs : s ≠ []) (hg : gap false s = 0) (ht : tokAt s = some (w, v, s.length)) (f p : Nat) : lex (f + 2) p s = some [(w, v, p), (sEnd, .non, p + s.length)] := by
  rw [lex_step (f := f + 1) (by rw [hg]; exact hs) (by rw [hg, List.drop_zero]; exact ht), hg]
  rw [show s.drop (0 + s.length) = [] from by simp, lex_end]
  rfl
theorem quot_end : ∀ l : List Nat, quot (StrLaws.dbl 39 l ++ [39]) = some (l, (StrLaws.dbl 39 l).length + 1)
  | [] => rfl
  | c :: l => by
    have ih := quot_end l
    rw [StrLaws.dbl]
    by_cases h : c = 39
    · subst h
      rw [if_pos rfl]
      show quot (39 :: 39 :: (StrLaws.dbl 39 l ++ [39])) = _
      rw [quot, if_pos rfl, if_pos rfl, ih]
      rfl
    · rw [if_neg h]
      show quot (c :: (StrLaws.dbl 39 l ++ [39])) = _
      rw [quot_cons h, ih]
      rfl
theorem gap_not {c : Nat} {r : List Nat} (h : c ≠ 32 ∧ c ≠ 10 ∧ c ≠ 45) : gap false (c :: r) = 0 := by
  rw [gap, if_neg (by omega), if_neg (by omega)]
theorem dig_not {c : Nat} (h : isDig c = true) : c ≠ 32 ∧ c ≠ 10 ∧ c ≠ 45 ∧ isLet c = false := by
  have h2 : digits.all (fun c => decide (c ≠ 32 ∧ c ≠ 10 ∧ c ≠ 45 ∧ isLet c = false)) = true := by decide +kernel
  simpa using List.all_eq_true.mp h2 c (of_decide_eq_true h)
theorem num_dig (n : Nat) : ∀ c ∈ TL.numL n, isDig c = true := fun c hc => by
  have h1 : 48 ≤ c ∧ c ≤ 57 := TL.numL_digits n c hc
  refine decide_eq_true ?_
  obtain ⟨k, rfl⟩ : ∃ k, c = 48 + k := ⟨c - 48, by omega⟩
  have : k < 10 := by omega
  have h2 : ∀ k < 10, 48 + k ∈ digits := by decide +kernel
  exact h2 k this
theorem tok_numE (n : Nat) (h : n ≤ 9223372036854775807) : TL.numL n ≠ [] ∧ gap false (TL.numL n) = 0 ∧ tokAt (TL.numL n) = some (sInt, .int (n : Int), (TL.numL n).length) := by
  have hd := num_dig n
  have hl := TL.numL_len (n := n) (k := 19) (by decide) (Nat.lt_of_le_of_lt h (by decide))
  have hv := TL.numL_val n
  obtain ⟨c, s, e⟩ := List.exists_cons_of_ne_nil (TL.numL_ne n)
  rw [e] at hd hl hv ⊢
  have hc := dig_not (hd c List.mem_cons_self)
  refine ⟨List.cons_ne_nil _ _, gap_not ⟨hc.1, hc.2.1, hc.2.2.1⟩, ?_⟩
  unfold tokAt
  dsimp only
  rw [if_neg (by rw [hc.2.2.2]; decide), if_pos (hd c List.mem_cons_self), run_full hd, List.take_length, hv, if_neg (by omega), if_neg (by omega)]
theorem tok_txtE {l : List Nat} (h : ∀ c ∈ l, c ∈ Lx.alphabet) : tokAt (39 :: (StrLaws.dbl 39 l ++ [39])) = some (sQuoted, .str (S l), (39 :: (StrLaws.dbl 39 l ++ [39])).length) := by
  unfold tokAt
  dsimp only
  rw [if_neg (by decide +kernel), if_neg (by decide +kernel), if_pos rfl, quot_end]
  dsimp only
  rw [if_pos h]
  simp
theorem nb_nil : NoBr [] := fun t h => absurd h List.not_mem_nil
theorem nb_cons {w : List Nat} {v : V} {n : Nat} {r : Toks} (h : w ≠ [40] ∧ w ≠ [41]) (hr : NoBr r) : NoBr ((w, v, n) :: r) := fun t ht => by
  rcases List.mem_cons.mp ht with rfl | ht
  · exact h
  · exact hr t ht
theorem nb_end (n : Nat) : NoBr [(sEnd, .non, n)] := nb_cons ⟨by decide, by decide⟩ nb_nil
theorem lex_ok (v : RV) (ho : okN v) (hl : ∀ l, v = .txt l → l.length ≤ 20 ∧ ∀ c ∈ l, c ∈ Lx.alphabet) : LexOk v := by
  cases v with
  | non =>
    refine ⟨by decide, _, 1, lex_one (f := 3) (by simp [txtV]) (gap_not (by decide)) (w := [110, 117, 108, 108]) (v := .str (S [110, 117, 108, 108])) (by decide +kernel) 0, by decide, nb_cons ⟨by decide, by decide⟩ (nb_end _), .inl ⟨_, _, _, rfl, .null _, rfl⟩, rfl⟩
  | txt l =>
    obtain ⟨h1, h2⟩ := hl l rfl
    have hd := dbl_len 39 l
    have hlen : (txtV (.txt l)).length = (StrLaws.dbl 39 l).length + 2 := by simp [txtV]
    have e := lex_one (f := (StrLaws.dbl 39 l).length + 1) (p := 0) (s := txtV (.txt l)) (by simp [txtV]) (gap_not (by decide)) (tok_txtE h2)
    rw [show (StrLaws.dbl 39 l).length + 1 + 2 = (txtV (.txt l)).length + 1 by omega] at e
    refine ⟨by omega, _, 1, e, by show (2 : Nat) ≤ 1000; decide, nb_cons ⟨by decide, by decide⟩ (nb_end _), .inl ⟨_, _, _, rfl, .txt _, rfl⟩, rfl⟩
  | num n =>
    have hn : -9223372036854775807 ≤ n ∧ n ≤ 9223372036854775807 := ho
    obtain ⟨a1, a2, a3⟩ := tok_numE n.natAbs (by omega)
    have hlen := TL.numL_len (n := n.natAbs) (k := 19) (by decide) (by omega)
    have hpos : 0 < (TL.numL n.natAbs).length := List.length_pos_iff.mpr a1
    by_cases c : n < 0
    · have et : txtV (.num n) = 45 :: TL.numL n.natAbs := by show M7.intL n = _; unfold M7.intL; rw [if_pos c]
      have g0 : gap false (45 :: TL.numL n.natAbs) = 0 := by
        obtain ⟨d, r, e⟩ := List.exists_cons_of_ne_nil a1
        rw [e]
        have hd := dig_not (num_dig n.natAbs d (by rw [e]; exact List.mem_cons_self))
        rw [gap, if_neg (by omega), if_neg (fun h => hd.2.2.1 (Option.some.inj h.2))]
      have t0 : tokAt (45 :: TL.numL n.natAbs) = some ([45], .str (S [45]), 1) := by
        obtain ⟨d, r, e⟩ := List.exists_cons_of_ne_nil a1
        rw [e]
        unfold tokAt
        dsimp only
        rw [if_neg (by decide +kernel), if_neg (by decide +kernel), if_neg (by decide), if_neg, if_pos (by decide)]
        intro h
        have : LONG.all (fun x => x.head? != some 45) = true := by decide +kernel
        have := List.all_eq_true.mp this _ h
        simp at this
      rw [LexOk, et]
      have e : lex ((TL.numL n.natAbs).length + 2) 0 (45 :: TL.numL n.natAbs) = some [([45], .str (S [45]), 0), (sInt, .int (n.natAbs : Int), 1), (sEnd, .non, 1 + (TL.numL n.natAbs).length)] := by
        rw [lex_step (f := (TL.numL n.natAbs).length + 1) (by rw [g0]; exact List.cons_ne_nil _ _) (by rw [g0, List.drop_zero]; exact t0), g0]
        rw [show (45 :: TL.numL n.natAbs).drop (0 + 1) = TL.numL n.natAbs from rfl, show (TL.numL n.natAbs).length + 1 = ((TL.numL n.natAbs).length - 1) + 2 by omega, lex_one a1 a2 a3]
        rfl
      refine ⟨by rw [List.length_cons]; omega, _, 2, e, by show (3 : Nat) ≤ 1000; decide, nb_cons ⟨by decide, by decide⟩ (nb_cons ⟨by decide, by decide⟩ (nb_end _)), .inr ⟨_, _, (n.natAbs : Int), _, rfl, rfl, ?_, rfl⟩, rfl⟩
      · show [V.str (Str.ofString "int"), V.int n] = _
        rw [show (0 : Int) - (n.natAbs : Int) = n by omega]
    · have et : txtV (.num n) = TL.numL n.natAbs := by show M7.intL n = _; unfold M7.intL; rw [if_neg c]
      rw [LexOk, et]
      have e := lex_one (f := (TL.numL n.natAbs).length - 1) (p := 0) a1 a2 a3
      rw [show (TL.numL n.natAbs).length - 1 + 2 = (TL.numL n.natAbs).length + 1 by omega] at e
      refine ⟨by omega, _, 1, e, by show (2 : Nat) ≤ 1000; decide, nb_cons ⟨by decide, by decide⟩ (nb_end _), .inl ⟨_, _, _, rfl, ?_, rfl⟩, rfl⟩
      · rw [show (n.natAbs : Int) = n by omega]
        exact .int _
theorem okS_of (v : RV) (hl : ∀ l, v = .txt l → l.length ≤ 20 ∧ ∀ c ∈ l, c ∈ Lx.alphabet) : okS v := by
  cases v with
  | txt l =>
    intro c hc
    have h2 : Lx.alphabet.all (fun c => decide (c < 128)) = true := by decide +kernel
    exact of_decide_eq_true (List.all_eq_true.mp h2 c ((hl l rfl).2 c hc))
  | non => trivial
  | num n => trivial
end K04
end

section
-- part K04M
set_option Elab.async false
set_option linter.all false
set_option maxRecDepth 100000
set_option maxHeartbeats 800000
open PySem PySem.Spec PyProof.Rows L2 Fw
local macro_rules | `(tactic| walk_at "e1") => `(tactic| first
  | ((with_reducible refine' w_var ?hv ?_); (case hv => rfl))
  | ((with_reducible refine' K04.w_ixA ?hh ?ha ?_); (case hh => first | assumption | exact upd_same); (case ha => rfl))
  | ((with_reducible refine' K04.w_eqLF ?hl ?_); (case hl => decide +kernel))
  | ((with_reducible refine' K04.w_eqLT ?hl ?_); (case hl => rfl))
  | ((with_reducible refine' K04.w_neLF ?hl ?_); (case hl => decide +kernel))
  | ((with_reducible refine' K04.w_neLT ?hl ?_); (case hl => rfl))
  | with_reducible refine K04.w_isNV ?_
  | with_reducible refine K04.w_notNV ?_
  | ((with_reducible refine' K04.w_modZ ?hc ?_); (case hc => assumption))
  | ((with_reducible refine' K04.w_divZ ?hc ?_); (case hc => assumption))
  | with_reducible refine K04.w_ckw ?_
  | with_reducible refine GnK.w_anyK ?_
  | with_reducible refine Fw.w_notV ?_
  | with_reducible refine F24.w_iZipM ?_
  | with_reducible refine F24.w_iZipA ?_
  | with_reducible refine Fge.w_cld ?_
  | with_reducible refine w_c ?_
  | with_reducible refine w_op ?_
  | with_reducible refine w_un ?_
  | with_reducible refine w_cons ?_
  | with_reducible refine w_nil ?_
  | with_reducible refine w_cl ?_
  | with_reducible refine w_cb ?_
  | with_reducible refine w_gname ?_
  | with_reducible refine w_gsub ?_
  | with_reducible refine w_test ?_
  | with_reducible refine w_B ?_
  | with_reducible refine w_bl ?_
  | with_reducible refine w_and ?_
  | with_reducible refine w_or ?_
  | with_reducible refine w_not ?_
  | with_reducible refine w_if ?_
  | with_reducible refine w_I0 ?_
  | with_reducible refine Gk.w_rU ?_
  | with_reducible refine Dq.w_orV ?_
  | with_reducible refine Dq.w_js ?_
  | with_reducible refine Dq.w_js0 ?_
  | with_reducible refine Dq.w_fm ?_
  | with_reducible refine Dq.w_andV ?_
  | with_reducible refine Gk.w_iEnum ?_
  | with_reducible refine Dq.w_dget ?_
  | with_reducible refine Dq.w_dpop1 ?_
  | with_reducible refine Dq.w_ddel ?_
  | with_reducible refine Dq.w_din ?_
  | with_reducible refine Dq.w_dnotin ?_
  | with_reducible refine Dq.w_dget2 ?_
  | with_reducible refine Dq.w_dnew ?_
  | with_reducible refine Dq.w_fldaug ?_
  | with_reducible refine Dq.w_aSub ?_
  | with_reducible refine Dq.w_aAdd ?_
  | with_reducible refine Dq.w_mkd ?_
  | with_reducible refine Dq.w_notN0 ?_
  | with_reducible refine Dq.w_isN0 ?_
  | with_reducible refine Ftw.w_isTI ?_
  | with_reducible refine Ftw.w_isTS ?_
  | with_reducible refine Ftw.w_isTR ?_
  | with_reducible refine Ftw.w_isTN ?_
  | with_reducible refine Ftw.w_isTtt ?_
  | with_reducible refine Ftw.w_isTft ?_
  | with_reducible refine Ftw.w_isTtf ?_
  | with_reducible refine Ftw.w_isNS ?_
  | with_reducible refine Ftw.w_isNB ?_
  | ((with_reducible refine' Ftw.w_isiRS ?hq ?_); (case hq => assumption))
  | ((with_reducible refine' Ftw.w_isiRT ?hq ?_); (case hq => assumption))
  | ((with_reducible refine' Ftw.w_isiRI ?hq ?_); (case hq => assumption))
  | with_reducible refine Ftw.w_isiIT ?_
  | with_reducible refine Ftw.w_isiII ?_
  | with_reducible refine Dq.w_notNR ?_
  | with_reducible refine Dq.w_isNR ?_
  | with_reducible refine Dq.w_notNI ?_
  | with_reducible refine Dq.w_isNI ?_
  | with_reducible refine L2.w_neOs ?_
  | with_reducible refine w_ipI ?_
  | with_reducible refine w_eqS ?_
  | with_reducible refine w_neS ?_
  | with_reducible refine w_eqI ?_
  | with_reducible refine w_neI ?_
  | with_reducible refine w_eqB ?_
  | with_reducible refine w_neB ?_
  | ((with_reducible refine w_eq ?hs ?_); (case hs => rfl))
  | ((with_reducible refine w_ne ?hs ?_); (case hs => rfl))
  | with_reducible refine w_fld ?_
  | with_reducible refine w_bm ?_
  | with_reducible refine w_bm0 ?_
  | with_reducible refine w_sl ?_
  | with_reducible refine w_part ?_
  | with_reducible refine w_partI ?_
  | with_reducible refine w_nopart ?_
  | ((with_reducible refine' w_ixL ?hh ?ha ?_); (case hh => first | assumption | exact upd_same); (case ha => rfl))
  | ((with_reducible refine' w_setLu ?ha ?_); (case ha => rfl))
  | ((with_reducible refine' w_setL ?hh ?ha ?_); (case hh => first | assumption | exact upd_same); (case ha => rfl))
  | with_reducible refine w_iteT ?_
  | with_reducible refine w_iteF ?_
  | with_reducible refine w_lst ?_
  | with_reducible refine w_tup ?_
  | ((with_reducible refine w_new ?hz ?_); (case hz => rfl))
  | with_reducible refine w_lc ?_
  | with_reducible refine w_iL ?_
  | with_reducible refine w_iT ?_
  | with_reducible refine w_iR1 ?_
  | with_reducible refine w_iR2 ?_
  | with_reducible refine w_yes ?_
  | with_reducible refine w_iStr ?_
  | with_reducible exact tyS
  | with_reducible refine And.intro tyS ?_
  | ((with_reducible refine w_find3 ?_); (first | rw [find3_one] | rw [starts3] | skip))
  | ((with_reducible refine w_2s ?_); (try rw [find_one]))
  | ((with_reducible refine w_inS ?_); rw [S_list])
  | ((with_reducible refine w_lenS ?hz ?_); (case hz => first | assumption | omega | decide); rw [SX.S_len])
  | ((with_reducible refine w_addS ?hz ?_); (case hz => first | assumption | omega | decide); rw [vS_cat])
  | with_reducible refine w_mk ?_
  | with_reducible refine w_me ?_
  | with_reducible refine w_sfld ?_
  | ((with_reducible refine' w_gtup ?hh ?hn ?_); (case hh => first | assumption | exact upd_same); (case hn => rfl))
  | with_reducible refine w_gcons ?_
  | with_reducible refine w_gnil ?_
  | with_reducible refine w_repl ?_
  | with_reducible refine w_star ?_
  | with_reducible refine w_revL ?_
  | with_reducible refine w_isiS ?_
  | with_reducible refine w_isiI ?_
  | with_reducible refine w_isiN ?_
  | with_reducible refine w_chain ?_
  | with_reducible refine w_iEnumT ?_
  | with_reducible refine w_iZip3 ?_
  | with_reducible refine w_iZip ?_
  | with_reducible refine w_lenR3 ?_
  | with_reducible refine w_x1i ?_
  | with_reducible refine w_x1b ?_
  | with_reducible refine w_x1s ?_
  | with_reducible refine w_int1i ?_
  | with_reducible refine w_int1b ?_
  | ((with_reducible refine w_mod ?hc ?_); (case hc => omega))
  | ((with_reducible refine w_fdivW ?hc ?hd ?_); (case hc => omega); (case hd => omega))
  | ((with_reducible refine w_mul ?hc ?_); (case hc => first | exact Or.inr ⟨by decide, by decide⟩ | exact Or.inl ⟨by decide, by decide⟩))
  | ((with_reducible refine w_pow ?hc ?_); (case hc => exact ⟨by decide, by decide, by decide⟩)))
local macro_rules | `(tactic| walk_at "f1") => `(tactic| first
  | ((with_reducible refine' K04.g_tokens ?hW ?hK ?hs ?hx ?_); (case hW => assumption); (case hK => rfl); (case hs => rfl); (case hx => first | assumption | exact upd_same))
  | ((with_reducible refine' K04.g_place ?hW ?hK ?hs ?hx ?_); (case hW => assumption); (case hK => rfl); (case hs => rfl); (case hx => first | assumption | exact upd_same))
  | ((with_reducible refine' K04.g_opened ?hW ?hK ?hs ?hx ?_); (case hW => assumption); (case hK => rfl); (case hs => rfl); (case hx => first | assumption | exact upd_same))
  | with_reducible refine K04.w_kget ?_
  | with_reducible refine K04.w_med ?_
  | walk_at "e1")
local macro_rules | `(tactic| walk_at "s1") => `(tactic| first
  | with_reducible refine w_seq ?_
  | with_reducible refine w_asg ?_
  | with_reducible refine w_ret ?_
  | with_reducible refine w_par ?_
  | with_reducible refine w_drop ?_
  | with_reducible refine w_next ?_
  | with_reducible refine w_ifs ?_
  | ((with_reducible refine' w_aug ?hv ?_); (case hv => rfl))
  | with_reducible refine w_for ?_
  | walk_at "f1")
local macro_rules | `(tactic| walk_at "e") => `(tactic| repeat walk_at "e1")
local macro_rules | `(tactic| walk_at "g") => `(tactic| repeat walk_at "s1")
local macro_rules | `(tactic| walk_at "n1") => `(tactic| ((fail_if_success (with_reducible refine w_if ?_)); walk_at "s1"))
local macro_rules | `(tactic| walk_at "n") => `(tactic| repeat walk_at "n1")
local macro_rules | `(tactic| walk_at "p1") => `(tactic| ((fail_if_success (with_reducible refine w_ifs ?_)); walk_at "s1"))
local macro_rules | `(tactic| walk_at "p") => `(tactic| repeat walk_at "p1")
local macro_rules | `(tactic| walk_at "q1") => `(tactic| ((fail_if_success (with_reducible refine w_seq ?_)); walk_at "s1"))
local macro_rules | `(tactic| walk_at "q") => `(tactic| repeat walk_at "q1")

namespace K04
open Dc Lx M24 M5 M04
def arL : Ar → List Nat
  | .add => [43] | .sub => [45] | .mul => [42] | .div => [47] | .mod => [109, 111, 100]
theorem arS_eq (g : Ar) : arS g = S (arL g) := by cases g <;> rfl
def spLNum : Sp := fun vs H Q _ => ∃ (g : Ar) (u v : RV), vs = [.str (arS g), vV u, vV v] ∧ isT u = false ∧ isT v = false ∧ okN u ∧ okN v ∧ ∀ H', Same H H' → Q (arV g u v) H'
def spLCmp : Sp := fun vs H Q _ => ∃ (g : Sg) (u v : RV), vs = [.str (sgS g), vV u, vV v] ∧ Fit u v ∧ ∀ H', Same H H' → Q (oV (cmpV g u v)) H'
section
variable {K : PySem.W.Frag} {σ : L2.St} {H : Hp} {Q : VK}
theorem w_inLs {a : List Nat} {p : Addr} {ls : List (List Nat)} (h : H p = some (.lst (ls.map fun l => V.str (S l)))) (q : Q (.bl (decide (a ∈ ls))) H) : rIn K false (.str (S a)) (.ref p) H Q :=
  ⟨p, _, rfl, .inl (SqL.of h), rfl, flat_txt ls, by rw [inV_txt]; exact q⟩
theorem w_disp {trs : List (TE × TE)} (h : ∀ p, H p = none → tPairs trs σ (upd H p (.dK [])) fun ps H2 => H2 p = some (.dK []) ∧ ∃ kvs : List (Key × V), ps = kvs.map (fun kv => (kV kv.1, kv.2)) ∧ kvs.length ≤ 15 ∧ Q (.ref p) (upd H2 p (.dK (mergeK [] kvs)))) : tDisp trs σ H Q := h
theorem w_pr {tk tv : TE} {r : List (TE × TE)} {Q : List (V × V) → Hp → Prop} (h : tk σ H fun x H1 => tv σ H1 fun y H2 => tPairs r σ H2 fun ps H3 => Q ((x, y) :: ps) H3) : tPairs ((tk, tv) :: r) σ H Q := h
theorem w_pr0 {Q : List (V × V) → Hp → Prop} (h : Q [] H) : tPairs [] σ H Q := h
end
theorem abs_in {n : Int} (c : (if n < 0 then -n else n) ≤ 9223372036854775807) : inR n = V.int n := by
  unfold inR HI
  split at c <;> rw [if_pos (by omega)]
theorem abs_out {n : Int} (c : ¬ (if n < 0 then -n else n) ≤ 9223372036854775807) : inR n = V.non := by
  unfold inR HI
  split at c <;> rw [if_neg (by omega)]
theorem in_abs {n : Int} (c : -HI ≤ n ∧ n ≤ HI) : (if n < 0 then -n else n) ≤ 9223372036854775807 := by
  unfold HI at c
  split <;> omega
theorem get_put {kvs : List (Key × V)} {a b : Str} {x y : V} (h : a = b ∧ x = y ∨ a ≠ b ∧ valV kvs (.inr b) = some y) : valV (putK kvs (.inr a : Key) x) (.inr b) = some y := by
  rw [valV_put]
  rcases h with ⟨rfl, rfl⟩ | ⟨h, e⟩
  · rw [if_pos rfl]
  · rw [if_neg (fun z => h (Sum.inr.inj z).symm)]
    exact e
section
variable {P : Program} {w : World} {K : PySem.W.Frag} {mg : Str → Option Value} {base : Heap} {cTE cTk aL aS aK cKF : Addr}
theorem ok__law_rank (W : Wv K mg cTE cTk aL aS aK cKF) : Cl P w K mg base 1 "_law_rank" spRank := by
  refine cl_mk W.d__law_rank sc__law_rank (fun _ _ _ _ _ _ us hl => match us, hl with | [_], _ => rfl) (fun vs H Q E h => ?_) (fun f cdv A outer s H vs Q E hr h => ?_)
  · obtain ⟨v, rfl, _⟩ := h; rfl
  obtain ⟨v, rfl, q⟩ := h
  refine ⟨_, (pss_one (ps_ret (pe_ifExp (pt_cmpR op_isN1 (pv 0) pe_non (nomark _)) (pe_tup (pa_cons pe_int (pa_cons pe_int pa_nil))) (pe_ifExp (pt_val (pe_callB L2.call_isi rfl W.n_isinstance PyProof.Rows.boot_isinstance (pa_cons (pv 0) (pa_cons (pe_bltn (v := .ty "str") rfl W.n_str (by decide +kernel) rfl) pa_nil)))) (pe_tup (pa_cons pe_int (pa_cons (pv 0) pa_nil))) (pe_tup (pa_cons pe_int (pa_cons (pv 0) pa_nil))))))), ?_⟩
  cases v with
  | non =>
    rw [show vV .non = V.non from rfl]
    walk_at "g"
    exact q
  | txt l =>
    rw [show vV (.txt l) = V.str (S l) from rfl]
    walk_at "g"
    exact q
  | num n =>
    rw [show vV (.num n) = V.int n from rfl]
    walk_at "g"
    exact q
theorem ok__law_and (W : Wv K mg cTE cTk aL aS aK cKF) : Cl P w K mg base 1 "_law_and" spBoth := by
  refine cl_mk W.d__law_and sc__law_and (fun _ _ _ _ _ _ us hl => match us, hl with | [_, _], _ => rfl) (fun vs H Q E h => ?_) (fun f cdv A outer s H vs Q E hr h => ?_)
  · obtain ⟨x, y, rfl, _⟩ := h; rfl
  obtain ⟨x, y, rfl, q⟩ := h
  refine ⟨_, (pss_cons (ps_if (PW.pt (pw_or (pt_cmpR Ftx.op_isT (pv 0) pe_bl (nomark _)) (pw_or1 (pt_cmpR Ftx.op_isT (pv 1) pe_bl (nomark _)))))
    (pss_one (ps_ret pe_bl))
    pss_nil)
    (pss_one (ps_ret (pe_ifExp (PW.pt (pw_or (pt_cmpR op_isN1 (pv 0) pe_non (nomark _)) (pw_or1 (pt_cmpR op_isN1 (pv 1) pe_non (nomark _))))) pe_non pe_bl)))), ?_⟩
  rcases x with _ | _ | _ <;> rcases y with _ | _ | _ <;> dsimp only [oV, and3, M24.and3] at q ⊢ <;> walk_at "g" <;> exact q
theorem ok__law_not (W : Wv K mg cTE cTk aL aS aK cKF) : Cl P w K mg base 1 "_law_not" spNot := by
  refine cl_mk W.d__law_not sc__law_not (fun _ _ _ _ _ _ us hl => match us, hl with | [_], _ => rfl) (fun vs H Q E h => ?_) (fun f cdv A outer s H vs Q E hr h => ?_)
  · obtain ⟨x, rfl, _⟩ := h; rfl
  obtain ⟨x, rfl, q⟩ := h
  refine ⟨_, (pss_one (ps_ret (pe_ifExp (pt_cmpR op_isN1 (pv 0) pe_non (nomark _)) pe_non (pe_not (pv 0))))), ?_⟩
  rcases x with _ | _ | _ <;> dsimp only [oV, not3, Option.map] at q ⊢ <;> walk_at "g" <;> exact q
theorem ok__law_sort (W : Wv K mg cTE cTk aL aS aK cKF) : Cl P w K mg base 1 "_law_sort" spKind := by
  refine cl_mk W.d__law_sort sc__law_sort (fun _ _ _ _ _ _ us hl => match us, hl with | [_], _ => rfl) (fun vs H Q E h => ?_) (fun f cdv A outer s H vs Q E hr h => ?_)
  · obtain ⟨v, rfl, _⟩ := h; rfl
  obtain ⟨v, rfl, q⟩ := h
  refine ⟨_, (pss_one (ps_ret (pe_ifExp (pt_cmpR op_isN1 (pv 0) pe_non (nomark _)) pe_str (pe_ifExp (pt_val (pe_callB L2.call_isi rfl W.n_isinstance PyProof.Rows.boot_isinstance (pa_cons (pv 0) (pa_cons (pe_bltn (v := .ty "str") rfl W.n_str (by decide +kernel) rfl) pa_nil)))) pe_str pe_str)))), ?_⟩
  cases v with
  | non =>
    rw [show vV .non = V.non from rfl]
    walk_at "g"
    exact q
  | txt l =>
    rw [show vV (.txt l) = V.str (S l) from rfl]
    walk_at "g"
    exact q
  | num n =>
    rw [show vV (.num n) = V.int n from rfl]
    walk_at "g"
    exact q
theorem ok__law_number (W : Wv K mg cTE cTk aL aS aK cKF) : Cl P w K mg base 1 "_law_number" spLNum := by
  refine cl_mk W.d__law_number sc__law_number (fun _ _ _ _ _ _ us hl => match us, hl with | [_, _, _], _ => rfl) (fun vs H Q E h => ?_) (fun f cdv A outer s H vs Q E hr h => ?_)
  · obtain ⟨g, u, v, rfl, _⟩ := h; rfl
  obtain ⟨g, u, v, rfl, hu, hv, ou, ov, q⟩ := h
  refine ⟨_, (pss_cons (ps_if (PW.pt (pw_or (pt_cmpR op_isN1 (pv 1) pe_non (nomark _)) (pw_or (pt_cmpR op_isN1 (pv 2) pe_non (nomark _)) (pw_or1 (PW.pt (pw_and (pt_cmpR op_in_seq (pv 0) (pe_lst (pa_cons pe_str (pa_cons pe_str pa_nil))) (by with_unfolding_all rfl)) (pw_and1 (pt_cmpR op_eq (pv 2) pe_int (nomark _)))))))))
    (pss_one (ps_ret pe_non))
    pss_nil)
    (pss_cons (ps_if (pt_cmpR op_in_seq (pv 0) (pe_lst (pa_cons pe_str (pa_cons pe_str pa_nil))) (by with_unfolding_all rfl))
    (pss_one (ps_set (i := 3) sc__law_number.nd rfl (Or.inl rfl) (pe_ifExp (pt_cmpR op_eq (pv 0) pe_str (nomark _)) (pe_op MnK.op_fdivZ (pv 1) (pv 2)) (pe_op op_sub (pv 1) (pe_op op_mul (pe_op MnK.op_fdivZ (pv 1) (pv 2)) (pv 2))))))
    (pss_one (ps_set (i := 3) sc__law_number.nd rfl (Or.inl rfl) (pe_dget (hu_of hr) (pe_disp (pps_cons pe_str (pe_op op_add (pv 1) (pv 2)) (pps_cons pe_str (pe_op op_sub (pv 1) (pv 2)) (pps_cons pe_str (pe_op op_mul (pv 1) (pv 2)) pps_nil))) rfl rfl (fun z => by cases z) (by decide)) (pv 0) (fun _ _ => rfl)))))
    (pss_one (ps_ret (pe_ifExp (pt_cmpR op_le (pe_callB call_abs rfl W.n_abs (by decide +kernel) (pa_cons (pv 3) pa_nil)) pe_int (nomark _)) (pv 3) pe_non))))), ?_⟩
  cases u with
  | txt l => cases hu
  | non =>
    rw [show arV g .non v = V.non from rfl] at q
    walk_at "g"
    refine w_iteD (fun _ => ?_) (fun c1 => absurd rfl c1)
    walk_at "g"
    exact q _ (Same.refl _)
  | num n =>
    cases v with
    | txt l => cases hv
    | non =>
      rw [show arV g (.num n) .non = V.non from rfl] at q
      rw [show vV (.num n) = V.int n from rfl, show vV .non = V.non from rfl]
      walk_at "g"
      exact q _ (Same.refl _)
    | num m =>
      have on : -HI ≤ n ∧ n ≤ HI := ou
      have om : -HI ≤ m ∧ m ≤ HI := ov
      have cm : CMul n m := by unfold HI at on om; unfold CMul; omega
      have cd : m ≠ 0 → MnK.CDivZ n m := fun h => ⟨h, by unfold HI at om; omega⟩
      rw [show arV g (.num n) (.num m) = arI g n m from rfl] at q
      rw [show vV (.num n) = V.int n from rfl, show vV (.num m) = V.int m from rfl, arS_eq]
      walk_at "g"
      intro p1 hp1
      have s1 := same_new hp1 (.lst [V.str (Str.ofString "/"), V.str (Str.ofString "mod")])
      refine w_inLs (ls := [[47], [109, 111, 100]]) upd_same ?_
      walk_at "g"
      have dm : (g = .div ∨ g = .mod) ∨ (g = .add ∨ g = .sub ∨ g = .mul) := by cases g <;> simp
      rcases dm with dm | dm
      · have hin : arL g ∈ [[47], [109, 111, 100]] := by rcases dm with rfl | rfl <;> decide
        refine w_iteD (fun _ => ?_) (fun c1 => absurd hin c1)
        walk_at "g"
        refine w_iteD (fun c2 => ?_) (fun c2 => ?_)
        · have e : arI g n m = .non := by rcases dm with rfl | rfl <;> (dsimp only [arI]; rw [if_pos c2])
          rw [e] at q
          walk_at "g"
          exact q _ s1
        have hdiv := cd c2
        walk_at "g"
        intro p2 hp2
        have s2 := s1.trans (same_new hp2 (.lst [V.str (Str.ofString "/"), V.str (Str.ofString "mod")]))
        refine w_inLs (ls := [[47], [109, 111, 100]]) upd_same ?_
        walk_at "g"
        refine w_iteD (fun _ => ?_) (fun c1 => absurd hin c1)
        rcases dm with rfl | rfl
        · dsimp only [arI, arL] at q ⊢
          rw [if_neg c2] at q
          walk_at "g"
          refine w_iteD (fun _ => ?_) (fun c1 => absurd (by decide) c1)
          walk_at "g"
          refine w_iteD (fun c3 => ?_) (fun c3 => ?_)
          · rw [abs_in c3] at q
            walk_at "g"
            exact q _ s2
          · rw [abs_out c3] at q
            walk_at "g"
            exact q _ s2
        · dsimp only [arI, arL] at q ⊢
          rw [if_neg c2] at q
          walk_at "g"
          refine w_iteD (fun c1 => absurd c1 (by decide)) (fun _ => ?_)
          walk_at "g"
          refine w_mul (.inr (by unfold HI at om; omega)) ?_
          walk_at "g"
          rw [fmod_eq]
          refine w_iteD (fun c3 => ?_) (fun c3 => absurd (in_abs (fmod_in om c2)) c3)
          walk_at "g"
          exact q _ s2
      · have hin : arL g ∉ [[47], [109, 111, 100]] := by rcases dm with rfl | rfl | rfl <;> decide
        refine w_iteD (fun c1 => absurd c1 hin) (fun _ => ?_)
        walk_at "g"
        intro p2 hp2
        have s2 := s1.trans (same_new hp2 (.lst [V.str (Str.ofString "/"), V.str (Str.ofString "mod")]))
        refine w_inLs (ls := [[47], [109, 111, 100]]) upd_same ?_
        walk_at "g"
        refine w_iteD (fun c1 => absurd c1 hin) (fun _ => ?_)
        walk_at "g"
        refine w_disp fun pd hpd => ?_
        refine w_pr ?_
        walk_at "g"
        refine w_pr ?_
        walk_at "g"
        refine w_pr ?_
        walk_at "g"
        refine w_mul cm ?_
        refine w_pr0 ⟨upd_same, [(.inr (Str.ofString "+"), .int (n + m)), (.inr (Str.ofString "-"), .int (n - m)), (.inr (Str.ofString "*"), .int (n * m))], rfl, by show 3 ≤ 15; decide, ?_⟩
        walk_at "g"
        obtain ⟨z, e1, e2⟩ : ∃ z : Int, arI g n m = inR z ∧ valV (mergeK [] [((.inr (Str.ofString "+") : Key), V.int (n + m)), (.inr (Str.ofString "-"), .int (n - m)), (.inr (Str.ofString "*"), .int (n * m))]) (.inr (S (arL g))) = some (.int z) := by
          rcases dm with rfl | rfl | rfl
          · refine ⟨_, rfl, ?_⟩
            show valV (putK (putK (putK [] (.inr (Str.ofString "+") : Key) _) (.inr (Str.ofString "-")) _) (.inr (Str.ofString "*")) _) (.inr (Str.ofString "+")) = _
            exact get_put (.inr ⟨by decide, get_put (.inr ⟨by decide, get_put (.inl ⟨rfl, rfl⟩)⟩)⟩)
          · refine ⟨_, rfl, ?_⟩
            show valV (putK (putK (putK [] (.inr (Str.ofString "+") : Key) _) (.inr (Str.ofString "-")) _) (.inr (Str.ofString "*")) _) (.inr (Str.ofString "-")) = _
            exact get_put (.inr ⟨by decide, get_put (.inl ⟨rfl, rfl⟩)⟩)
          · refine ⟨_, rfl, ?_⟩
            show valV (putK (putK (putK [] (.inr (Str.ofString "+") : Key) _) (.inr (Str.ofString "-")) _) (.inr (Str.ofString "*")) _) (.inr (Str.ofString "*")) = _
            exact get_put (.inl ⟨rfl, rfl⟩)
        rw [e1] at q
        refine ⟨pd, .int z, rfl, .inl ⟨_, .inr (S (arL g)), .inl upd_same, rfl, e2.symm⟩, ?_⟩
        rw [upd_upd]
        have s4 := s2.trans (same_new hpd (.dK (mergeK [] [((.inr (Str.ofString "+") : Key), V.int (n + m)), (.inr (Str.ofString "-"), .int (n - m)), (.inr (Str.ofString "*"), .int (n * m))])))
        walk_at "g"
        refine w_iteD (fun c3 => ?_) (fun c3 => ?_)
        · rw [abs_in c3] at q
          walk_at "g"
          exact q _ s4
        · rw [abs_out c3] at q
          walk_at "g"
          exact q _ s4
theorem cmp_get {g : Sg} {x1 x2 x3 x4 x5 x6 : V} : valV (mergeK [] [((.inr (Str.ofString "=") : Key), x1), (.inr (Str.ofString "<>"), x2), (.inr (Str.ofString "<"), x3), (.inr (Str.ofString "<="), x4), (.inr (Str.ofString ">"), x5), (.inr (Str.ofString ">="), x6)]) (.inr (sgS g)) = some (match g with
    | .eq => x1 | .ne => x2 | .lt => x3 | .le => x4 | .gt => x5 | .ge => x6) := by
  cases g
  · show valV (putK (putK (putK (putK (putK (putK [] (.inr (Str.ofString "=") : Key) _) (.inr (Str.ofString "<>")) _) (.inr (Str.ofString "<")) _) (.inr (Str.ofString "<=")) _) (.inr (Str.ofString ">")) _) (.inr (Str.ofString ">=")) _) (.inr (Str.ofString "=")) = _
    exact get_put (.inr ⟨by decide, get_put (.inr ⟨by decide, get_put (.inr ⟨by decide, get_put (.inr ⟨by decide, get_put (.inr ⟨by decide, get_put (.inl ⟨rfl, rfl⟩)⟩)⟩)⟩)⟩)⟩)
  · show valV (putK (putK (putK (putK (putK (putK [] (.inr (Str.ofString "=") : Key) _) (.inr (Str.ofString "<>")) _) (.inr (Str.ofString "<")) _) (.inr (Str.ofString "<=")) _) (.inr (Str.ofString ">")) _) (.inr (Str.ofString ">=")) _) (.inr (Str.ofString "<>")) = _
    exact get_put (.inr ⟨by decide, get_put (.inr ⟨by decide, get_put (.inr ⟨by decide, get_put (.inr ⟨by decide, get_put (.inl ⟨rfl, rfl⟩)⟩)⟩)⟩)⟩)
  · show valV (putK (putK (putK (putK (putK (putK [] (.inr (Str.ofString "=") : Key) _) (.inr (Str.ofString "<>")) _) (.inr (Str.ofString "<")) _) (.inr (Str.ofString "<=")) _) (.inr (Str.ofString ">")) _) (.inr (Str.ofString ">=")) _) (.inr (Str.ofString "<")) = _
    exact get_put (.inr ⟨by decide, get_put (.inr ⟨by decide, get_put (.inr ⟨by decide, get_put (.inl ⟨rfl, rfl⟩)⟩)⟩)⟩)
  · show valV (putK (putK (putK (putK (putK (putK [] (.inr (Str.ofString "=") : Key) _) (.inr (Str.ofString "<>")) _) (.inr (Str.ofString "<")) _) (.inr (Str.ofString "<=")) _) (.inr (Str.ofString ">")) _) (.inr (Str.ofString ">=")) _) (.inr (Str.ofString "<=")) = _
    exact get_put (.inr ⟨by decide, get_put (.inr ⟨by decide, get_put (.inl ⟨rfl, rfl⟩)⟩)⟩)
  · show valV (putK (putK (putK (putK (putK (putK [] (.inr (Str.ofString "=") : Key) _) (.inr (Str.ofString "<>")) _) (.inr (Str.ofString "<")) _) (.inr (Str.ofString "<=")) _) (.inr (Str.ofString ">")) _) (.inr (Str.ofString ">=")) _) (.inr (Str.ofString ">")) = _
    exact get_put (.inr ⟨by decide, get_put (.inl ⟨rfl, rfl⟩)⟩)
  · show valV (putK (putK (putK (putK (putK (putK [] (.inr (Str.ofString "=") : Key) _) (.inr (Str.ofString "<>")) _) (.inr (Str.ofString "<")) _) (.inr (Str.ofString "<=")) _) (.inr (Str.ofString ">")) _) (.inr (Str.ofString ">=")) _) (.inr (Str.ofString ">=")) = _
    exact get_put (.inl ⟨rfl, rfl⟩)
theorem ok__law_cmp (W : Wv K mg cTE cTk aL aS aK cKF) : Cl P w K mg base 1 "_law_cmp" spLCmp := by
  refine cl_mk W.d__law_cmp sc__law_cmp (fun _ _ _ _ _ _ us hl => match us, hl with | [_, _, _], _ => rfl) (fun vs H Q E h => ?_) (fun f cdv A outer s H vs Q E hr h => ?_)
  · obtain ⟨g, u, v, rfl, _⟩ := h; rfl
  obtain ⟨g, u, v, rfl, hf, q⟩ := h
  refine ⟨_, (pss_cons (ps_if (PW.pt (pw_or (pt_cmpR op_isN1 (pv 1) pe_non (nomark _)) (pw_or1 (pt_cmpR op_isN1 (pv 2) pe_non (nomark _)))))
    (pss_one (ps_ret pe_non))
    pss_nil)
    (pss_one (ps_ret (pe_dget (hu_of hr) (pe_disp (pps_cons pe_str (pe_cmpR op_eq (pv 1) (pv 2) (nomark _)) (pps_cons pe_str (pe_cmpR op_ne (pv 1) (pv 2) (nomark _)) (pps_cons pe_str (pe_cmpR (Fge.or_op op_lt op_lt_str) (pv 1) (pv 2) (nomark _)) (pps_cons pe_str (pe_cmpR (Fge.or_op op_le op_le_str) (pv 1) (pv 2) (nomark _)) (pps_cons pe_str (pe_cmpR (Fge.or_op op_gt op_gt_str) (pv 1) (pv 2) (nomark _)) (pps_cons pe_str (pe_cmpR (Fge.or_op op_ge op_ge_str) (pv 1) (pv 2) (nomark _)) pps_nil)))))) rfl rfl (fun z => by cases z) (by decide)) (pv 0) (fun _ _ => rfl))))), ?_⟩
  walk_at "g"
  refine w_iteD (fun c1 => ?_) (fun c1 => ?_)
  · rw [show cmpV g u v = none from by unfold cmpV; rw [if_pos (.inl c1)]] at q
    walk_at "g"
    exact q _ (Same.refl _)
  walk_at "g"
  refine w_iteD (fun c2 => ?_) (fun c2 => ?_)
  · rw [show cmpV g u v = none from by unfold cmpV; rw [if_pos (.inr c2)]] at q
    walk_at "g"
    exact q _ (Same.refl _)
  have ft : isT u = isT v := hf.elim (absurd · c1) fun h => h.elim (absurd · c2) id
  walk_at "g"
  refine w_disp fun pd hpd => ?_
  refine w_pr ?_
  walk_at "g"
  refine w_eqVV ?_
  refine w_pr ?_
  walk_at "g"
  refine w_neVV ?_
  refine w_pr ?_
  walk_at "g"
  refine or_lt c1 c2 ft ?_
  refine w_pr ?_
  walk_at "g"
  refine or_le c1 c2 ft ?_
  refine w_pr ?_
  walk_at "g"
  refine or_gt c1 c2 ft ?_
  refine w_pr ?_
  walk_at "g"
  refine or_ge c1 c2 ft ?_
  refine w_pr0 ⟨upd_same, [(.inr (Str.ofString "="), .bl (decide (u = v))), (.inr (Str.ofString "<>"), .bl (!decide (u = v))), (.inr (Str.ofString "<"), .bl (vlt u v)), (.inr (Str.ofString "<="), .bl (!vlt v u)), (.inr (Str.ofString ">"), .bl (vlt v u)), (.inr (Str.ofString ">="), .bl (!vlt u v))], rfl, by show 6 ≤ 15; decide, ?_⟩
  walk_at "g"
  refine ⟨pd, _, rfl, .inl ⟨_, .inr (sgS g), .inl upd_same, rfl, cmp_get.symm⟩, ?_⟩
  rw [upd_upd]
  have q := q _ (same_new hpd (.dK (mergeK [] [((.inr (Str.ofString "=") : Key), V.bl (decide (u = v))), (.inr (Str.ofString "<>"), .bl (!decide (u = v))), (.inr (Str.ofString "<"), .bl (vlt u v)), (.inr (Str.ofString "<="), .bl (!vlt v u)), (.inr (Str.ofString ">"), .bl (vlt v u)), (.inr (Str.ofString ">="), .bl (!vlt u v))])))
  unfold cmpV at q
  rw [if_neg (fun h => h.elim c1 c2)] at q
  cases g <;> exact q
end
end K04
end

section
-- part K04N
set_option Elab.async false
set_option linter.all false
set_option maxRecDepth 100000
set_option maxHeartbeats 800000
open PySem PySem.Spec PyProof.Rows L2 Fw
local macro_rules | `(tactic| walk_at "e1") => `(tactic| first
  | ((with_reducible refine' w_var ?hv ?_); (case hv => rfl))
  | ((with_reducible refine' K04.w_ixA ?hh ?ha ?_); (case hh => first | assumption | exact upd_same); (case ha => rfl))
  | ((with_reducible refine' K04.w_eqLF ?hl ?_); (case hl => decide +kernel))
  | ((with_reducible refine' K04.w_eqLT ?hl ?_); (case hl => rfl))
  | ((with_reducible refine' K04.w_neLF ?hl ?_); (case hl => decide +kernel))
  | ((with_reducible refine' K04.w_neLT ?hl ?_); (case hl => rfl))
  | with_reducible refine K04.w_isNV ?_
  | with_reducible refine K04.w_notNV ?_
  | ((with_reducible refine' K04.w_modZ ?hc ?_); (case hc => assumption))
  | ((with_reducible refine' K04.w_divZ ?hc ?_); (case hc => assumption))
  | with_reducible refine K04.w_ckw ?_
  | with_reducible refine GnK.w_anyK ?_
  | with_reducible refine Fw.w_notV ?_
  | with_reducible refine F24.w_iZipM ?_
  | with_reducible refine F24.w_iZipA ?_
  | with_reducible refine Fge.w_cld ?_
  | with_reducible refine w_c ?_
  | with_reducible refine w_op ?_
  | with_reducible refine w_un ?_
  | with_reducible refine w_cons ?_
  | with_reducible refine w_nil ?_
  | with_reducible refine w_cl ?_
  | with_reducible refine w_cb ?_
  | with_reducible refine w_gname ?_
  | with_reducible refine w_gsub ?_
  | with_reducible refine w_test ?_
  | with_reducible refine w_B ?_
  | with_reducible refine w_bl ?_
  | with_reducible refine w_and ?_
  | with_reducible refine w_or ?_
  | with_reducible refine w_not ?_
  | with_reducible refine w_if ?_
  | with_reducible refine w_I0 ?_
  | with_reducible refine Gk.w_rU ?_
  | with_reducible refine Dq.w_orV ?_
  | with_reducible refine Dq.w_js ?_
  | with_reducible refine Dq.w_js0 ?_
  | with_reducible refine Dq.w_fm ?_
  | with_reducible refine Dq.w_andV ?_
  | with_reducible refine Gk.w_iEnum ?_
  | with_reducible refine Dq.w_dget ?_
  | with_reducible refine Dq.w_dpop1 ?_
  | with_reducible refine Dq.w_ddel ?_
  | with_reducible refine Dq.w_din ?_
  | with_reducible refine Dq.w_dnotin ?_
  | with_reducible refine Dq.w_dget2 ?_
  | with_reducible refine Dq.w_dnew ?_
  | with_reducible refine Dq.w_fldaug ?_
  | with_reducible refine Dq.w_aSub ?_
  | with_reducible refine Dq.w_aAdd ?_
  | with_reducible refine Dq.w_mkd ?_
  | with_reducible refine Dq.w_notN0 ?_
  | with_reducible refine Dq.w_isN0 ?_
  | with_reducible refine Ftw.w_isTI ?_
  | with_reducible refine Ftw.w_isTS ?_
  | with_reducible refine Ftw.w_isTR ?_
  | with_reducible refine Ftw.w_isTN ?_
  | with_reducible refine Ftw.w_isTtt ?_
  | with_reducible refine Ftw.w_isTft ?_
  | with_reducible refine Ftw.w_isTtf ?_
  | with_reducible refine Ftw.w_isNS ?_
  | with_reducible refine Ftw.w_isNB ?_
  | ((with_reducible refine' Ftw.w_isiRS ?hq ?_); (case hq => assumption))
  | ((with_reducible refine' Ftw.w_isiRT ?hq ?_); (case hq => assumption))
  | ((with_reducible refine' Ftw.w_isiRI ?hq ?_); (case hq => assumption))
  | with_reducible refine Ftw.w_isiIT ?_
  | with_reducible refine Ftw.w_isiII ?_
  | with_reducible refine Dq.w_notNR ?_
  | with_reducible refine Dq.w_isNR ?_
  | with_reducible refine Dq.w_notNI ?_
  | with_reducible refine Dq.w_isNI ?_
  | with_reducible refine L2.w_neOs ?_
  | with_reducible refine w_ipI ?_
  | with_reducible refine w_eqS ?_
  | with_reducible refine w_neS ?_
  | with_reducible refine w_eqI ?_
  | with_reducible refine w_neI ?_
  | with_reducible refine w_eqB ?_
  | with_reducible refine w_neB ?_
  | ((with_reducible refine w_eq ?hs ?_); (case hs => rfl))
  | ((with_reducible refine w_ne ?hs ?_); (case hs => rfl))
  | with_reducible refine w_fld ?_
  | with_reducible refine w_bm ?_
  | with_reducible refine w_bm0 ?_
  | with_reducible refine w_sl ?_
  | with_reducible refine w_part ?_
  | with_reducible refine w_partI ?_
  | with_reducible refine w_nopart ?_
  | ((with_reducible refine' w_ixL ?hh ?ha ?_); (case hh => first | assumption | exact upd_same); (case ha => rfl))
  | ((with_reducible refine' w_setLu ?ha ?_); (case ha => rfl))
  | ((with_reducible refine' w_setL ?hh ?ha ?_); (case hh => first | assumption | exact upd_same); (case ha => rfl))
  | with_reducible refine w_iteT ?_
  | with_reducible refine w_iteF ?_
  | with_reducible refine w_lst ?_
  | with_reducible refine w_tup ?_
  | ((with_reducible refine w_new ?hz ?_); (case hz => rfl))
  | with_reducible refine w_lc ?_
  | with_reducible refine w_iL ?_
  | with_reducible refine w_iT ?_
  | with_reducible refine w_iR1 ?_
  | with_reducible refine w_iR2 ?_
  | with_reducible refine w_yes ?_
  | with_reducible refine w_iStr ?_
  | with_reducible exact tyS
  | with_reducible refine And.intro tyS ?_
  | ((with_reducible refine w_find3 ?_); (first | rw [find3_one] | rw [starts3] | skip))
  | ((with_reducible refine w_2s ?_); (try rw [find_one]))
  | ((with_reducible refine w_inS ?_); rw [S_list])
  | ((with_reducible refine w_lenS ?hz ?_); (case hz => first | assumption | omega | decide); rw [SX.S_len])
  | ((with_reducible refine w_addS ?hz ?_); (case hz => first | assumption | omega | decide); rw [vS_cat])
  | with_reducible refine w_mk ?_
  | with_reducible refine w_me ?_
  | with_reducible refine w_sfld ?_
  | ((with_reducible refine' w_gtup ?hh ?hn ?_); (case hh => first | assumption | exact upd_same); (case hn => rfl))
  | with_reducible refine w_gcons ?_
  | with_reducible refine w_gnil ?_
  | with_reducible refine w_repl ?_
  | with_reducible refine w_star ?_
  | with_reducible refine w_revL ?_
  | with_reducible refine w_isiS ?_
  | with_reducible refine w_isiI ?_
  | with_reducible refine w_isiN ?_
  | with_reducible refine w_chain ?_
  | with_reducible refine w_iEnumT ?_
  | with_reducible refine w_iZip3 ?_
  | with_reducible refine w_iZip ?_
  | with_reducible refine w_lenR3 ?_
  | with_reducible refine w_x1i ?_
  | with_reducible refine w_x1b ?_
  | with_reducible refine w_x1s ?_
  | with_reducible refine w_int1i ?_
  | with_reducible refine w_int1b ?_
  | ((with_reducible refine w_mod ?hc ?_); (case hc => omega))
  | ((with_reducible refine w_fdivW ?hc ?hd ?_); (case hc => omega); (case hd => omega))
  | ((with_reducible refine w_mul ?hc ?_); (case hc => first | exact Or.inr ⟨by decide, by decide⟩ | exact Or.inl ⟨by decide, by decide⟩))
  | ((with_reducible refine w_pow ?hc ?_); (case hc => exact ⟨by decide, by decide, by decide⟩)))
local macro_rules | `(tactic| walk_at "f1") => `(tactic| first
  | ((with_reducible refine' K04.g_tokens ?hW ?hK ?hs ?hx ?_); (case hW => assumption); (case hK => rfl); (case hs => rfl); (case hx => first | assumption | exact upd_same))
  | ((with_reducible refine' K04.g_place ?hW ?hK ?hs ?hx ?_); (case hW => assumption); (case hK => rfl); (case hs => rfl); (case hx => first | assumption | exact upd_same))
  | ((with_reducible refine' K04.g_opened ?hW ?hK ?hs ?hx ?_); (case hW => assumption); (case hK => rfl); (case hs => rfl); (case hx => first | assumption | exact upd_same))
  | with_reducible refine K04.w_kget ?_
  | with_reducible refine K04.w_med ?_
  | walk_at "e1")
local macro_rules | `(tactic| walk_at "s1") => `(tactic| first
  | with_reducible refine w_seq ?_
  | with_reducible refine w_asg ?_
  | with_reducible refine w_ret ?_
  | with_reducible refine w_par ?_
  | with_reducible refine w_drop ?_
  | with_reducible refine w_next ?_
  | with_reducible refine w_ifs ?_
  | ((with_reducible refine' w_aug ?hv ?_); (case hv => rfl))
  | with_reducible refine w_for ?_
  | walk_at "f1")
local macro_rules | `(tactic| walk_at "e") => `(tactic| repeat walk_at "e1")
local macro_rules | `(tactic| walk_at "g") => `(tactic| repeat walk_at "s1")
local macro_rules | `(tactic| walk_at "n1") => `(tactic| ((fail_if_success (with_reducible refine w_if ?_)); walk_at "s1"))
local macro_rules | `(tactic| walk_at "n") => `(tactic| repeat walk_at "n1")
local macro_rules | `(tactic| walk_at "p1") => `(tactic| ((fail_if_success (with_reducible refine w_ifs ?_)); walk_at "s1"))
local macro_rules | `(tactic| walk_at "p") => `(tactic| repeat walk_at "p1")
local macro_rules | `(tactic| walk_at "q1") => `(tactic| ((fail_if_success (with_reducible refine w_seq ?_)); walk_at "s1"))
local macro_rules | `(tactic| walk_at "q") => `(tactic| repeat walk_at "q1")

namespace K04
open Dc Lx M24 M5 M04
def spLL (n : Nat) : Sp := fun vs H Q _ => 0 < n ∧ ∃ (u v : RV), vs = [vV u, vV v] ∧ isI u = false ∧ isI v = false ∧ (∀ p, v = .txt p → p.length < n ∧ p.length ≤ 20) ∧ (∀ t, u = .txt t → t.length ≤ 20) ∧ ∀ H', Same H H' → Q (likV u v) H'
/-- what is drawn -/
def okD (v : RV) : Prop := okN v ∧ ∀ l, v = .txt l → l.length ≤ 4 ∧ ∀ c ∈ l, c ∈ [97, 98, 95, 42, 39]
def spDraw : Sp := fun vs H Q _ => ∃ d : Addr, vs = [.ref d] ∧ Dice H d ∧ ∀ v H', okD v → Kp d H H' → Dice H' d → Q (vV v) H'
section
variable {P : Program} {w : World} {K : PySem.W.Frag} {mg : Str → Option Value} {base : Heap} {cTE cTk aL aS aK cKF : Addr}
theorem any_ne (t : List Nat) (f : Nat → Bool) (n : Nat) : (!decide (((List.range n).filter f).map (fun q : Nat => (q : Int)) = [])) = (List.range n).any f := by
  rw [Bool.eq_iff_iff]
  simp only [Bool.not_eq_true', decide_eq_false_iff_not, List.map_eq_nil_iff, List.filter_eq_nil_iff, List.any_eq_true]
  constructor
  · intro h
    refine Classical.byContradiction fun hn => h fun a ha hf => hn ⟨a, ha, hf⟩
  · rintro ⟨a, ha, hf⟩ h
    exact h a ha hf
theorem ok__law_like (W : Wv K mg cTE cTk aL aS aK cKF) : ∀ n, Cl P w K mg base n "_law_like" (spLL n)
  | 0 => by
    obtain ⟨f, fd, F, m⟩ := W.d__law_like
    exact ⟨f, fd, ["text", "pattern"], ⟨fun vs H Q E h => absurd h.1 (Nat.lt_irrefl 0), fun A outer s H args us vs Q E hr e0 hb r q => absurd q.1 (Nat.lt_irrefl 0)⟩, m, F.kp, F.bindsN (fun _ _ _ _ _ _ us hl => match us, hl with | [_, _], _ => rfl)⟩
  | n + 1 => by
    have c__law_like := ok__law_like W n
    refine cl_mk W.d__law_like sc__law_like (fun _ _ _ _ _ _ us hl => match us, hl with | [_, _], _ => rfl) (fun vs H Q E h => ?_) (fun f cdv A outer s H vs Q E hr h => ?_)
    · obtain ⟨_, u, v, rfl, _⟩ := h; rfl
    obtain ⟨_, u, v, rfl, hu, hv, hp, ht, q⟩ := h
    refine ⟨_, (pss_cons (ps_if (PW.pt (pw_or (pt_cmpR op_isN1 (pv 0) pe_non (nomark _)) (pw_or1 (pt_cmpR op_isN1 (pv 1) pe_non (nomark _)))))
    (pss_one (ps_ret pe_non))
    pss_nil)
    (pss_cons (ps_if (pt_cmpR op_eq (pv 1) pe_str (nomark _))
    (pss_one (ps_ret (pe_cmpR op_eq (pv 0) pe_str (nomark _))))
    pss_nil)
    (pss_cons (ps_if (pt_cmpR op_eq (pe_ix ix_str (pv 1) pe_int (fun _ _ => rfl)) pe_str (nomark _))
    (pss_one (ps_ret (pe_cmpR (op_neD (hu64 hr)) (pe_lc (own := [("k", 2)]) rfl sc__law_like.nd (pi_range1 rfl W.n_range (pa_cons (pe_op op_add (pe_callB call_len_str rfl W.n_len PySem.boot_len (pa_cons (pv 0) pa_nil)) pe_int) pa_nil)) (blkOk_by (own := [("k", 2)]) (N := ["text", "pattern", "k"]) (sc := defScope s__law_like) (by decide +kernel)) (fun _ _ _ _ _ => (pg_name (i := 2) sc__law_like.nd rfl (by first | exact Or.inl rfl | exact Or.inr rfl))) (fun _ _ _ _ _ => (pts_one (pt_val (pe_cl c__law_like hr (Nat.le_refl _) rfl passL (pa_cons (pe_slice sl_str (pv 0) (po_some (pv 2)) po_none) (pa_cons (pe_slice sl_str (pv 1) (po_some pe_int) po_none) pa_nil)))))) (fun _ _ _ _ _ => (pv 2))) (pe_lst pa_nil) (nomark _))))
    pss_nil)
    (pss_one (ps_ret (pe_and (pe_cmpR op_ne (pv 0) pe_str (nomark _)) (pe_and (pe_cmpR op_in_seq (pe_ix ix_str (pv 1) pe_int (fun _ _ => rfl)) (pe_lst (pa_cons pe_str (pa_cons (pe_ix ix_str (pv 0) pe_int (fun _ _ => rfl)) pa_nil))) (by with_unfolding_all rfl)) (pe_one (pe_cl c__law_like hr (Nat.le_refl _) rfl passL (pa_cons (pe_slice sl_str (pv 0) (po_some pe_int) po_none) (pa_cons (pe_slice sl_str (pv 1) (po_some pe_int) po_none) pa_nil))))))))))), ?_⟩
    cases u with
    | num l => cases hu
    | non =>
      rw [show likV .non v = V.non from by cases v <;> rfl] at q
      walk_at "g"
      refine w_iteD (fun _ => ?_) (fun c1 => absurd rfl c1)
      walk_at "g"
      exact q _ (Same.refl _)
    | txt t =>
      cases v with
      | num l => cases hv
      | non =>
        rw [show likV (.txt t) .non = V.non from rfl] at q
        walk_at "g"
        refine w_iteD (fun c1 => by cases c1) (fun _ => ?_)
        walk_at "g"
        refine w_iteD (fun _ => ?_) (fun c1 => absurd rfl c1)
        walk_at "g"
        exact q _ (Same.refl _)
      | txt p =>
        obtain ⟨hp1, hp2⟩ := hp p rfl
        have ht := ht t rfl
        have hz1 : t.length ≤ sizeLine := Nat.le_trans ht (by decide)
        have hz2 : p.length ≤ sizeLine := Nat.le_trans hp2 (by decide)
        rw [show likV (.txt t) (.txt p) = V.bl (likeR t p) from rfl] at q
        rw [show vV (.txt t) = V.str (S t) from rfl, show vV (.txt p) = V.str (S p) from rfl]
        walk_at "g"
        refine w_iteD (fun c1 => ?_) (fun c1 => ?_)
        · have c1 : p = [] := c1
          subst c1
          walk_at "g"
          have e : decide (t = (Str.ofString "").1.toList) = likeR t [] := by
            rw [Bool.eq_iff_iff, decide_eq_true_eq, like_nil]
            exact Iff.rfl
          rw [e]
          exact q _ (Same.refl _)
        obtain ⟨c, p', rfl⟩ := List.exists_cons_of_ne_nil (show p ≠ [] from c1)
        have hpn : p'.length < n := by simp only [List.length_cons] at hp1; omega
        have hp3 : p'.length ≤ 20 := by simp only [List.length_cons] at hp2; omega
        walk_at "g"
        refine w_ixS hz2 (i := 0) rfl ?_
        walk_at "g"
        refine w_iteD (fun c2 => ?_) (fun c2 => ?_)
        · have c2 : c = 42 := (List.cons.inj c2).1
          subst c2
          walk_at "g"
          refine ⟨by omega, by omega, fun D hD => ?_⟩
          have en : ((t.length : Int) + 1).toNat = t.length + 1 := by omega
          refine lc_range (fun i H2 => Same H H2 ∧ H2 D = some (.lst ((((List.range i).filter fun k => likeR (t.drop k) p').map fun q : Nat => (q : Int)).map V.int))) ⟨same_new hD _, upd_same⟩ ?_ ?_
          · rintro i H2 hi ⟨s2, eD⟩
            have hi2 : i ≤ t.length := by omega
            walk_at "g"
            rw [show (0 : Int) + (i : Int) = (i : Int) by omega]
            refine ⟨rfl, ?_⟩
            walk_at "g"
            refine w_slS1 hz1 hi2 ?_
            walk_at "g"
            refine w_slS1 (i := 1) hz2 (by simp) ?_
            walk_at "g"
            refine ⟨by omega, .txt (t.drop i), .txt p', rfl, rfl, rfl, fun p e => ?_, fun t2 e => ?_, fun H3 s3 => ?_⟩
            · cases e; exact ⟨hpn, hp3⟩
            · cases e
              exact Nat.le_trans (by rw [List.length_drop]; omega) ht
            rw [show likV (.txt (t.drop i)) (.txt p') = V.bl (likeR (t.drop i) p') from rfl]
            have er : (List.range (i + 1)).filter (fun k => likeR (t.drop k) p') = (List.range i).filter (fun k => likeR (t.drop k) p') ++ if likeR (t.drop i) p' = true then [i] else [] := by
              rw [List.range_succ, List.filter_append, List.filter_cons, List.filter_nil]
            walk_at "g"
            refine w_ite (fun c3 => ?_) (fun c3 => ?_)
            · walk_at "g"
              refine ⟨_, s3 _ _ eD, ?_, up_same0 (s2.trans s3) hD, ?_⟩
              · rw [List.length_map, List.length_map]
                refine Nat.lt_of_le_of_lt (List.length_filter_le _ _) ?_
                rw [List.length_range]
                exact Nat.lt_of_le_of_lt (Nat.le_trans hi2 ht) (by decide)
              · rw [upd_same, er, if_pos c3, List.map_append, List.map_append]
                rfl
            · refine ⟨s2.trans s3, ?_⟩
              rw [er, if_neg (by rw [c3]; decide), List.append_nil]
              exact s3 _ _ eD
          · rintro H2 ⟨s2, eD⟩
            rw [en] at eD
            walk_at "g"
            intro N hN
            have nN : D ≠ N := ne_of_none eD hN
            refine w_neNilD (by rw [upd_ne nN]; exact eD) upd_same ?_
            rw [any_ne t]
            have e : likeR t (42 :: p') = (List.range (t.length + 1)).any fun k => likeR (t.drop k) p' := by cases t <;> rfl
            rw [← e]
            exact q _ (s2.trans (same_new hN _))
        · have c2 : c ≠ 42 := fun h => c2 (by rw [h]; rfl)
          walk_at "g"
          refine w_iteN (fun c3 => ?_) (fun c3 => ?_)
          · obtain ⟨x, t', rfl⟩ := List.exists_cons_of_ne_nil (show t ≠ [] from c3)
            walk_at "g"
            refine w_ixS hz2 (i := 0) rfl ?_
            walk_at "g"
            refine w_ixS hz1 (i := 0) rfl ?_
            walk_at "g"
            intro N hN
            refine w_inLs (ls := [[95], [x]]) upd_same ?_
            walk_at "g"
            refine w_iteD (fun c4 => ?_) (fun c4 => ?_)
            · have c5 : c = 95 ∨ c = x := by
                rcases List.mem_cons.mp c4 with h | h
                · exact .inl (List.cons.inj h).1
                · exact .inr (List.cons.inj (List.mem_singleton.mp h)).1
              walk_at "g"
              refine w_slS1 (i := 1) hz1 (by simp) ?_
              walk_at "g"
              refine w_slS1 (i := 1) hz2 (by simp) ?_
              walk_at "g"
              refine ⟨by omega, .txt t', .txt p', rfl, rfl, rfl, fun p e => ?_, fun t2 e => ?_, fun H3 s3 => ?_⟩
              · cases e; exact ⟨hpn, hp3⟩
              · cases e; simp only [List.length_cons] at ht; omega
              rw [like_oneE c2, decide_eq_true c5, Bool.true_and] at q
              exact q _ ((same_new hN _).trans s3)
            · have c5 : ¬ (c = 95 ∨ c = x) := fun h => c4 (by
                rcases h with rfl | rfl
                · exact List.mem_cons_self
                · exact List.mem_cons_of_mem _ List.mem_cons_self)
              rw [like_oneE c2, decide_eq_false c5, Bool.false_and] at q
              exact q _ (same_new hN _)
          · have c3 : t = [] := c3
            subst c3
            rw [like_none c2] at q
            exact q _ (Same.refl _)
end
end K04
end

section
-- part K04O
set_option Elab.async false
set_option linter.all false
set_option maxRecDepth 100000
set_option maxHeartbeats 800000
open PySem PySem.Spec PyProof.Rows L2 Fw
local macro_rules | `(tactic| walk_at "e1") => `(tactic| first
  | ((with_reducible refine' w_var ?hv ?_); (case hv => rfl))
  | ((with_reducible refine' K04.w_ixA ?hh ?ha ?_); (case hh => first | assumption | exact upd_same); (case ha => rfl))
  | ((with_reducible refine' K04.w_eqLF ?hl ?_); (case hl => decide +kernel))
  | ((with_reducible refine' K04.w_eqLT ?hl ?_); (case hl => rfl))
  | ((with_reducible refine' K04.w_neLF ?hl ?_); (case hl => decide +kernel))
  | ((with_reducible refine' K04.w_neLT ?hl ?_); (case hl => rfl))
  | with_reducible refine K04.w_isNV ?_
  | with_reducible refine K04.w_notNV ?_
  | ((with_reducible refine' K04.w_modZ ?hc ?_); (case hc => assumption))
  | ((with_reducible refine' K04.w_divZ ?hc ?_); (case hc => assumption))
  | with_reducible refine K04.w_ckw ?_
  | with_reducible refine GnK.w_anyK ?_
  | with_reducible refine Fw.w_notV ?_
  | with_reducible refine F24.w_iZipM ?_
  | with_reducible refine F24.w_iZipA ?_
  | with_reducible refine Fge.w_cld ?_
  | with_reducible refine w_c ?_
  | with_reducible refine w_op ?_
  | with_reducible refine w_un ?_
  | with_reducible refine w_cons ?_
  | with_reducible refine w_nil ?_
  | with_reducible refine w_cl ?_
  | with_reducible refine w_cb ?_
  | with_reducible refine w_gname ?_
  | with_reducible refine w_gsub ?_
  | with_reducible refine w_test ?_
  | with_reducible refine w_B ?_
  | with_reducible refine w_bl ?_
  | with_reducible refine w_and ?_
  | with_reducible refine w_or ?_
  | with_reducible refine w_not ?_
  | with_reducible refine w_if ?_
  | with_reducible refine w_I0 ?_
  | with_reducible refine Gk.w_rU ?_
  | with_reducible refine Dq.w_orV ?_
  | with_reducible refine Dq.w_js ?_
  | with_reducible refine Dq.w_js0 ?_
  | with_reducible refine Dq.w_fm ?_
  | with_reducible refine Dq.w_andV ?_
  | with_reducible refine Gk.w_iEnum ?_
  | with_reducible refine Dq.w_dget ?_
  | with_reducible refine Dq.w_dpop1 ?_
  | with_reducible refine Dq.w_ddel ?_
  | with_reducible refine Dq.w_din ?_
  | with_reducible refine Dq.w_dnotin ?_
  | with_reducible refine Dq.w_dget2 ?_
  | with_reducible refine Dq.w_dnew ?_
  | with_reducible refine Dq.w_fldaug ?_
  | with_reducible refine Dq.w_aSub ?_
  | with_reducible refine Dq.w_aAdd ?_
  | with_reducible refine Dq.w_mkd ?_
  | with_reducible refine Dq.w_notN0 ?_
  | with_reducible refine Dq.w_isN0 ?_
  | with_reducible refine Ftw.w_isTI ?_
  | with_reducible refine Ftw.w_isTS ?_
  | with_reducible refine Ftw.w_isTR ?_
  | with_reducible refine Ftw.w_isTN ?_
  | with_reducible refine Ftw.w_isTtt ?_
  | with_reducible refine Ftw.w_isTft ?_
  | with_reducible refine Ftw.w_isTtf ?_
  | with_reducible refine Ftw.w_isNS ?_
  | with_reducible refine Ftw.w_isNB ?_
  | ((with_reducible refine' Ftw.w_isiRS ?hq ?_); (case hq => assumption))
  | ((with_reducible refine' Ftw.w_isiRT ?hq ?_); (case hq => assumption))
  | ((with_reducible refine' Ftw.w_isiRI ?hq ?_); (case hq => assumption))
  | with_reducible refine Ftw.w_isiIT ?_
  | with_reducible refine Ftw.w_isiII ?_
  | with_reducible refine Dq.w_notNR ?_
  | with_reducible refine Dq.w_isNR ?_
  | with_reducible refine Dq.w_notNI ?_
  | with_reducible refine Dq.w_isNI ?_
  | with_reducible refine L2.w_neOs ?_
  | with_reducible refine w_ipI ?_
  | with_reducible refine w_eqS ?_
  | with_reducible refine w_neS ?_
  | with_reducible refine w_eqI ?_
  | with_reducible refine w_neI ?_
  | with_reducible refine w_eqB ?_
  | with_reducible refine w_neB ?_
  | ((with_reducible refine w_eq ?hs ?_); (case hs => rfl))
  | ((with_reducible refine w_ne ?hs ?_); (case hs => rfl))
  | with_reducible refine w_fld ?_
  | with_reducible refine w_bm ?_
  | with_reducible refine w_bm0 ?_
  | with_reducible refine w_sl ?_
  | with_reducible refine w_part ?_
  | with_reducible refine w_partI ?_
  | with_reducible refine w_nopart ?_
  | ((with_reducible refine' w_ixL ?hh ?ha ?_); (case hh => first | assumption | exact upd_same); (case ha => rfl))
  | ((with_reducible refine' w_setLu ?ha ?_); (case ha => rfl))
  | ((with_reducible refine' w_setL ?hh ?ha ?_); (case hh => first | assumption | exact upd_same); (case ha => rfl))
  | with_reducible refine w_iteT ?_
  | with_reducible refine w_iteF ?_
  | with_reducible refine w_lst ?_
  | with_reducible refine w_tup ?_
  | ((with_reducible refine w_new ?hz ?_); (case hz => rfl))
  | with_reducible refine w_lc ?_
  | with_reducible refine w_iL ?_
  | with_reducible refine w_iT ?_
  | with_reducible refine w_iR1 ?_
  | with_reducible refine w_iR2 ?_
  | with_reducible refine w_yes ?_
  | with_reducible refine w_iStr ?_
  | with_reducible exact tyS
  | with_reducible refine And.intro tyS ?_
  | ((with_reducible refine w_find3 ?_); (first | rw [find3_one] | rw [starts3] | skip))
  | ((with_reducible refine w_2s ?_); (try rw [find_one]))
  | ((with_reducible refine w_inS ?_); rw [S_list])
  | ((with_reducible refine w_lenS ?hz ?_); (case hz => first | assumption | omega | decide); rw [SX.S_len])
  | ((with_reducible refine w_addS ?hz ?_); (case hz => first | assumption | omega | decide); rw [vS_cat])
  | with_reducible refine w_mk ?_
  | with_reducible refine w_me ?_
  | with_reducible refine w_sfld ?_
  | ((with_reducible refine' w_gtup ?hh ?hn ?_); (case hh => first | assumption | exact upd_same); (case hn => rfl))
  | with_reducible refine w_gcons ?_
  | with_reducible refine w_gnil ?_
  | with_reducible refine w_repl ?_
  | with_reducible refine w_star ?_
  | with_reducible refine w_revL ?_
  | with_reducible refine w_isiS ?_
  | with_reducible refine w_isiI ?_
  | with_reducible refine w_isiN ?_
  | with_reducible refine w_chain ?_
  | with_reducible refine w_iEnumT ?_
  | with_reducible refine w_iZip3 ?_
  | with_reducible refine w_iZip ?_
  | with_reducible refine w_lenR3 ?_
  | with_reducible refine w_x1i ?_
  | with_reducible refine w_x1b ?_
  | with_reducible refine w_x1s ?_
  | with_reducible refine w_int1i ?_
  | with_reducible refine w_int1b ?_
  | ((with_reducible refine w_mod ?hc ?_); (case hc => omega))
  | ((with_reducible refine w_fdivW ?hc ?hd ?_); (case hc => omega); (case hd => omega))
  | ((with_reducible refine w_mul ?hc ?_); (case hc => first | exact Or.inr ⟨by decide, by decide⟩ | exact Or.inl ⟨by decide, by decide⟩))
  | ((with_reducible refine w_pow ?hc ?_); (case hc => exact ⟨by decide, by decide, by decide⟩)))
local macro_rules | `(tactic| walk_at "f1") => `(tactic| first
  | ((with_reducible refine' K04.g_tokens ?hW ?hK ?hs ?hx ?_); (case hW => assumption); (case hK => rfl); (case hs => rfl); (case hx => first | assumption | exact upd_same))
  | ((with_reducible refine' K04.g_place ?hW ?hK ?hs ?hx ?_); (case hW => assumption); (case hK => rfl); (case hs => rfl); (case hx => first | assumption | exact upd_same))
  | ((with_reducible refine' K04.g_opened ?hW ?hK ?hs ?hx ?_); (case hW => assumption); (case hK => rfl); (case hs => rfl); (case hx => first | assumption | exact upd_same))
  | with_reducible refine K04.w_kget ?_
  | with_reducible refine K04.w_med ?_
  | walk_at "e1")
local macro_rules | `(tactic| walk_at "s1") => `(tactic| first
  | with_reducible refine w_seq ?_
  | with_reducible refine w_asg ?_
  | with_reducible refine w_ret ?_
  | with_reducible refine w_par ?_
  | with_reducible refine w_drop ?_
  | with_reducible refine w_next ?_
  | with_reducible refine w_ifs ?_
  | ((with_reducible refine' w_aug ?hv ?_); (case hv => rfl))
  | with_reducible refine w_for ?_
  | walk_at "f1")
local macro_rules | `(tactic| walk_at "e") => `(tactic| repeat walk_at "e1")
local macro_rules | `(tactic| walk_at "g") => `(tactic| repeat walk_at "s1")
local macro_rules | `(tactic| walk_at "n1") => `(tactic| ((fail_if_success (with_reducible refine w_if ?_)); walk_at "s1"))
local macro_rules | `(tactic| walk_at "n") => `(tactic| repeat walk_at "n1")
local macro_rules | `(tactic| walk_at "p1") => `(tactic| ((fail_if_success (with_reducible refine w_ifs ?_)); walk_at "s1"))
local macro_rules | `(tactic| walk_at "p") => `(tactic| repeat walk_at "p1")
local macro_rules | `(tactic| walk_at "q1") => `(tactic| ((fail_if_success (with_reducible refine w_seq ?_)); walk_at "s1"))
local macro_rules | `(tactic| walk_at "q") => `(tactic| repeat walk_at "q1")

namespace K04
open Dc Lx M24 M5 M04
section
variable {P : Program} {w : World} {K : PySem.W.Frag} {mg : Str → Option Value} {base : Heap} {cTE cTk aL aS aK cKF : Addr}
def drawL : List Nat := [97, 98, 95, 42, 39]
theorem ok__law_value_drawn (W : Wv K mg cTE cTk aL aS aK cKF) (c__law_roll : Cl P w K mg base 1 "_law_roll" spRoll) : Cl P w K mg base 2 "_law_value_drawn" spDraw := by
  refine cl_mk W.d__law_value_drawn sc__law_value_drawn (fun _ _ _ _ _ _ us hl => match us, hl with | [_], _ => rfl) (fun vs H Q E h => ?_) (fun f cdv A outer s H vs Q E hr h => ?_)
  · obtain ⟨d, rfl, _⟩ := h; rfl
  obtain ⟨d, rfl, dd, q⟩ := h
  refine ⟨_, (pss_cons (ps_set (i := 1) sc__law_value_drawn.nd rfl (Or.inl rfl) (pe_cl c__law_roll hr (by decide) rfl passL (pa_cons (pv 0) (pa_cons pe_int pa_nil))))
    (pss_cons (ps_if (pt_cmpR op_eq (pv 1) pe_int (nomark _))
    (pss_one (ps_ret pe_non))
    pss_nil)
    (pss_cons (ps_if (pt_cmpR op_eq (pv 1) pe_int (nomark _))
    (pss_one (ps_ret (pe_bm PySem.F.plainAttrs_str PySem.F.slot_str_join PySem.F.type_str_join mt_join pe_str (pa_cons (pe_lc (own := [("k", 2)]) rfl sc__law_value_drawn.nd (pi_range1 rfl W.n_range (pa_cons (pe_cl c__law_roll hr (by decide) rfl passL (pa_cons (pv 0) (pa_cons pe_int pa_nil))) pa_nil)) (blkOk_by (own := [("k", 2)]) (N := ["dice", "sort", "k"]) (sc := defScope s__law_value_drawn) (by decide +kernel)) (fun _ _ _ _ _ => (pg_name (i := 2) sc__law_value_drawn.nd rfl (Or.inl rfl))) (fun _ _ _ _ _ => pts_nil) (fun _ _ _ _ _ => (pe_ix ix_str pe_str (pe_cl c__law_roll hr (by decide) rfl passL (pa_cons (pv 0) (pa_cons pe_int pa_nil))) (fun _ _ => rfl)))) pa_nil))))
    pss_nil)
    (pss_one (ps_ret (pe_ix ix_list (pe_lst (pa_cons (pe_op op_sub (pe_cl c__law_roll hr (by decide) rfl passL (pa_cons (pv 0) (pa_cons pe_int pa_nil))) pe_int) (pa_cons (pe_op op_sub pe_int (pe_cl c__law_roll hr (by decide) rfl passL (pa_cons (pv 0) (pa_cons pe_int pa_nil)))) (pa_cons (pe_op op_sub pe_int pe_int) (pa_cons (pe_cl c__law_roll hr (by decide) rfl passL (pa_cons (pv 0) (pa_cons (pe_op op_pow pe_int pe_int) pa_nil))) pa_nil))))) (pe_cl c__law_roll hr (by decide) rfl passL (pa_cons (pv 0) (pa_cons pe_int pa_nil))) (fun _ _ => rfl))))))), ?_⟩
  walk_at "g"
  refine w_roll (by decide) (by decide) (Kp.refl d H) dd fun r H1 r0 r1 k1 _ d1 => ?_
  walk_at "g"
  refine w_iteD (fun c1 => ?_) (fun c1 => ?_)
  · walk_at "g"
    exact q .non H1 ⟨trivial, fun l e => by cases e⟩ k1 d1
  walk_at "g"
  refine w_iteD (fun c2 => ?_) (fun c2 => ?_)
  · walk_at "g"
    refine w_roll (by decide) (by decide) k1 d1 fun m H2 m0 m1 k2 _ d2 => ?_
    walk_at "g"
    refine w_lcRp ⟨m0, by omega⟩ fun D hD => ?_
    obtain ⟨k3, _, d3, nD, fD, eD⟩ := newl (o := .lst []) k2 d2 hD rfl
    refine ⟨fun i H' => ∃ l : List Nat, l.length = i ∧ (∀ c ∈ l, c ∈ drawL) ∧ H' D = some (.lst (l.map fun c => V.str (S [c]))) ∧ Kp d H H' ∧ Dice H' d, ⟨[], rfl, (fun c hc => absurd hc List.not_mem_nil), eD, k3, d3⟩, ?_, ?_⟩
    · rintro i H6 hi ⟨l, rfl, hl, e6, k6, d6⟩
      walk_at "g"
      refine ⟨rfl, ?_⟩
      walk_at "g"
      refine w_roll (by decide) (by decide) k6 d6 fun j H5 j0 j1 k5 k5' d5 => ?_
      have e5 := k5' _ _ nD e6
      obtain ⟨j, rfl⟩ := Int.eq_ofNat_of_zero_le j0
      have hj : j < drawL.length := by show j < 5; omega
      refine w_ixS (l := drawL) (by decide) (List.getElem?_eq_getElem hj) ?_
      refine ⟨_, e5, by rw [List.length_map]; exact Nat.lt_of_lt_of_le (by omega : l.length < 1000) (by decide), l ++ [drawL[j]], by rw [List.length_append]; rfl, fun c hc => ?_, by rw [upd_same, List.map_append]; rfl, Gk.Kp.wr k5 fD, Gk.Dice.wr d5 nD⟩
      rcases List.mem_append.mp hc with hc | hc
      · exact hl c hc
      · rw [List.mem_singleton.mp hc]; exact List.getElem_mem hj
    · rintro H6 ⟨l, hll, hl, e6, k6, d6⟩
      walk_at "g"
      obtain ⟨j1, j2, j3⟩ := join1 (K := K) (show l.length ≤ 1000 by omega) e6
      refine ⟨_, D, _, rfl, rfl, .inl j1, j2, ?_⟩
      rw [show Txt.join (Str.ofString "") (l.map fun c => S [c]) = S l from j3]
      exact q (.txt l) H6 ⟨trivial, fun l' e => by cases e; exact ⟨by omega, hl⟩⟩ k6 d6
  · walk_at "g"
    refine w_roll (by decide) (by decide) k1 d1 fun a H2 a0 a1 k2 _ d2 => ?_
    walk_at "g"
    refine w_roll (by decide) (by decide) k2 d2 fun b H3 b0 b1 k3 _ d3 => ?_
    walk_at "g"
    refine w_roll (by decide) (by decide) k3 d3 fun c H4 c0 c1 k4 _ d4 => ?_
    have c1x : c < 1000000000000 := c1
    walk_at "g"
    intro p hp
    obtain ⟨k5, _, d5, nD, fD, eD⟩ := newl (o := .lst [.int (a - 4), .int (9223372036854775807 - b), .int (0 - 9223372036854775807), .int c]) k4 d4 hp rfl
    generalize upd H4 p _ = H5 at k5 d5 eD ⊢
    walk_at "g"
    refine w_roll (by decide) (by decide) k5 d5 fun j H6 j0 j1 k6 k6' d6 => ?_
    have e6 := k6' _ _ nD eD
    obtain ⟨j, rfl⟩ := Int.eq_ofNat_of_zero_le j0
    have hj : j = 0 ∨ j = 1 ∨ j = 2 ∨ j = 3 := by omega
    have fin : ∀ n : Int, -HI ≤ n ∧ n ≤ HI → Q (.int n) H6 := fun n hn => q (.num n) H6 ⟨hn, fun l e => by cases e⟩ k6 d6
    unfold HI at fin
    rcases hj with rfl | rfl | rfl | rfl
    · exact w_ixL e6 rfl (fin _ (by omega))
    · exact w_ixL e6 rfl (fin _ (by omega))
    · exact w_ixL e6 rfl (fin _ (by omega))
    · exact w_ixL e6 rfl (fin _ (by omega))
end
end K04
end

section
-- part K04Q
set_option Elab.async false
set_option linter.all false
set_option maxRecDepth 100000
set_option maxHeartbeats 800000
open PySem PySem.Spec PyProof.Rows L2 Fw
local macro_rules | `(tactic| walk_at "e1") => `(tactic| first
  | ((with_reducible refine' w_var ?hv ?_); (case hv => rfl))
  | ((with_reducible refine' K04.w_ixA ?hh ?ha ?_); (case hh => first | assumption | exact upd_same); (case ha => rfl))
  | ((with_reducible refine' K04.w_eqLF ?hl ?_); (case hl => decide +kernel))
  | ((with_reducible refine' K04.w_eqLT ?hl ?_); (case hl => rfl))
  | ((with_reducible refine' K04.w_neLF ?hl ?_); (case hl => decide +kernel))
  | ((with_reducible refine' K04.w_neLT ?hl ?_); (case hl => rfl))
  | with_reducible refine K04.w_isNV ?_
  | with_reducible refine K04.w_notNV ?_
  | ((with_reducible refine' K04.w_modZ ?hc ?_); (case hc => assumption))
  | ((with_reducible refine' K04.w_divZ ?hc ?_); (case hc => assumption))
  | with_reducible refine K04.w_ckw ?_
  | with_reducible refine GnK.w_anyK ?_
  | with_reducible refine Fw.w_notV ?_
  | with_reducible refine F24.w_iZipM ?_
  | with_reducible refine F24.w_iZipA ?_
  | with_reducible refine Fge.w_cld ?_
  | with_reducible refine w_c ?_
  | with_reducible refine w_op ?_
  | with_reducible refine w_un ?_
  | with_reducible refine w_cons ?_
  | with_reducible refine w_nil ?_
  | with_reducible refine w_cl ?_
  | with_reducible refine w_cb ?_
  | with_reducible refine w_gname ?_
  | with_reducible refine w_gsub ?_
  | with_reducible refine w_test ?_
  | with_reducible refine w_B ?_
  | with_reducible refine w_bl ?_
  | with_reducible refine w_and ?_
  | with_reducible refine w_or ?_
  | with_reducible refine w_not ?_
  | with_reducible refine w_if ?_
  | with_reducible refine w_I0 ?_
  | with_reducible refine Gk.w_rU ?_
  | with_reducible refine Dq.w_orV ?_
  | with_reducible refine Dq.w_js ?_
  | with_reducible refine Dq.w_js0 ?_
  | with_reducible refine Dq.w_fm ?_
  | with_reducible refine Dq.w_andV ?_
  | with_reducible refine Gk.w_iEnum ?_
  | with_reducible refine Dq.w_dget ?_
  | with_reducible refine Dq.w_dpop1 ?_
  | with_reducible refine Dq.w_ddel ?_
  | with_reducible refine Dq.w_din ?_
  | with_reducible refine Dq.w_dnotin ?_
  | with_reducible refine Dq.w_dget2 ?_
  | with_reducible refine Dq.w_dnew ?_
  | with_reducible refine Dq.w_fldaug ?_
  | with_reducible refine Dq.w_aSub ?_
  | with_reducible refine Dq.w_aAdd ?_
  | with_reducible refine Dq.w_mkd ?_
  | with_reducible refine Dq.w_notN0 ?_
  | with_reducible refine Dq.w_isN0 ?_
  | with_reducible refine Ftw.w_isTI ?_
  | with_reducible refine Ftw.w_isTS ?_
  | with_reducible refine Ftw.w_isTR ?_
  | with_reducible refine Ftw.w_isTN ?_
  | with_reducible refine Ftw.w_isTtt ?_
  | with_reducible refine Ftw.w_isTft ?_
  | with_reducible refine Ftw.w_isTtf ?_
  | with_reducible refine Ftw.w_isNS ?_
  | with_reducible refine Ftw.w_isNB ?_
  | ((with_reducible refine' Ftw.w_isiRS ?hq ?_); (case hq => assumption))
  | ((with_reducible refine' Ftw.w_isiRT ?hq ?_); (case hq => assumption))
  | ((with_reducible refine' Ftw.w_isiRI ?hq ?_); (case hq => assumption))
  | with_reducible refine Ftw.w_isiIT ?_
  | with_reducible refine Ftw.w_isiII ?_
  | with_reducible refine Dq.w_notNR ?_
  | with_reducible refine Dq.w_isNR ?_
  | with_reducible refine Dq.w_notNI ?_
  | with_reducible refine Dq.w_isNI ?_
  | with_reducible refine L2.w_neOs ?_
  | with_reducible refine w_ipI ?_
  | with_reducible refine w_eqS ?_
  | with_reducible refine w_neS ?_
  | with_reducible refine w_eqI ?_
  | with_reducible refine w_neI ?_
  | with_reducible refine w_eqB ?_
  | with_reducible refine w_neB ?_
  | ((with_reducible refine w_eq ?hs ?_); (case hs => rfl))
  | ((with_reducible refine w_ne ?hs ?_); (case hs => rfl))
  | with_reducible refine w_fld ?_
  | with_reducible refine w_bm ?_
  | with_reducible refine w_bm0 ?_
  | with_reducible refine w_sl ?_
  | with_reducible refine w_part ?_
  | with_reducible refine w_partI ?_
  | with_reducible refine w_nopart ?_
  | ((with_reducible refine' w_ixL ?hh ?ha ?_); (case hh => first | assumption | exact upd_same); (case ha => rfl))
  | ((with_reducible refine' w_setLu ?ha ?_); (case ha => rfl))
  | ((with_reducible refine' w_setL ?hh ?ha ?_); (case hh => first | assumption | exact upd_same); (case ha => rfl))
  | with_reducible refine w_iteT ?_
  | with_reducible refine w_iteF ?_
  | with_reducible refine w_lst ?_
  | with_reducible refine w_tup ?_
  | ((with_reducible refine w_new ?hz ?_); (case hz => rfl))
  | with_reducible refine w_lc ?_
  | with_reducible refine w_iL ?_
  | with_reducible refine w_iT ?_
  | with_reducible refine w_iR1 ?_
  | with_reducible refine w_iR2 ?_
  | with_reducible refine w_yes ?_
  | with_reducible refine w_iStr ?_
  | with_reducible exact tyS
  | with_reducible refine And.intro tyS ?_
  | ((with_reducible refine w_find3 ?_); (first | rw [find3_one] | rw [starts3] | skip))
  | ((with_reducible refine w_2s ?_); (try rw [find_one]))
  | ((with_reducible refine w_inS ?_); rw [S_list])
  | ((with_reducible refine w_lenS ?hz ?_); (case hz => first | assumption | omega | decide); rw [SX.S_len])
  | ((with_reducible refine w_addS ?hz ?_); (case hz => first | assumption | omega | decide); rw [vS_cat])
  | with_reducible refine w_mk ?_
  | with_reducible refine w_me ?_
  | with_reducible refine w_sfld ?_
  | ((with_reducible refine' w_gtup ?hh ?hn ?_); (case hh => first | assumption | exact upd_same); (case hn => rfl))
  | with_reducible refine w_gcons ?_
  | with_reducible refine w_gnil ?_
  | with_reducible refine w_repl ?_
  | with_reducible refine w_star ?_
  | with_reducible refine w_revL ?_
  | with_reducible refine w_isiS ?_
  | with_reducible refine w_isiI ?_
  | with_reducible refine w_isiN ?_
  | with_reducible refine w_chain ?_
  | with_reducible refine w_iEnumT ?_
  | with_reducible refine w_iZip3 ?_
  | with_reducible refine w_iZip ?_
  | with_reducible refine w_lenR3 ?_
  | with_reducible refine w_x1i ?_
  | with_reducible refine w_x1b ?_
  | with_reducible refine w_x1s ?_
  | with_reducible refine w_int1i ?_
  | with_reducible refine w_int1b ?_
  | ((with_reducible refine w_mod ?hc ?_); (case hc => omega))
  | ((with_reducible refine w_fdivW ?hc ?hd ?_); (case hc => omega); (case hd => omega))
  | ((with_reducible refine w_mul ?hc ?_); (case hc => first | exact Or.inr ⟨by decide, by decide⟩ | exact Or.inl ⟨by decide, by decide⟩))
  | ((with_reducible refine w_pow ?hc ?_); (case hc => exact ⟨by decide, by decide, by decide⟩)))
local macro_rules | `(tactic| walk_at "f1") => `(tactic| first
  | ((with_reducible refine' K04.g_tokens ?hW ?hK ?hs ?hx ?_); (case hW => assumption); (case hK => rfl); (case hs => rfl); (case hx => first | assumption | exact upd_same))
  | ((with_reducible refine' K04.g_place ?hW ?hK ?hs ?hx ?_); (case hW => assumption); (case hK => rfl); (case hs => rfl); (case hx => first | assumption | exact upd_same))
  | ((with_reducible refine' K04.g_opened ?hW ?hK ?hs ?hx ?_); (case hW => assumption); (case hK => rfl); (case hs => rfl); (case hx => first | assumption | exact upd_same))
  | with_reducible refine K04.w_kget ?_
  | with_reducible refine K04.w_med ?_
  | walk_at "e1")
local macro_rules | `(tactic| walk_at "s1") => `(tactic| first
  | with_reducible refine w_seq ?_
  | with_reducible refine w_asg ?_
  | with_reducible refine w_ret ?_
  | with_reducible refine w_par ?_
  | with_reducible refine w_drop ?_
  | with_reducible refine w_next ?_
  | with_reducible refine w_ifs ?_
  | ((with_reducible refine' w_aug ?hv ?_); (case hv => rfl))
  | with_reducible refine w_for ?_
  | walk_at "f1")
local macro_rules | `(tactic| walk_at "e") => `(tactic| repeat walk_at "e1")
local macro_rules | `(tactic| walk_at "g") => `(tactic| repeat walk_at "s1")
local macro_rules | `(tactic| walk_at "n1") => `(tactic| ((fail_if_success (with_reducible refine w_if ?_)); walk_at "s1"))
local macro_rules | `(tactic| walk_at "n") => `(tactic| repeat walk_at "n1")
local macro_rules | `(tactic| walk_at "p1") => `(tactic| ((fail_if_success (with_reducible refine w_ifs ?_)); walk_at "s1"))
local macro_rules | `(tactic| walk_at "p") => `(tactic| repeat walk_at "p1")
local macro_rules | `(tactic| walk_at "q1") => `(tactic| ((fail_if_success (with_reducible refine w_seq ?_)); walk_at "s1"))
local macro_rules | `(tactic| walk_at "q") => `(tactic| repeat walk_at "q1")

namespace K04
open Dc Lx Gk M24 M5 M04 LamX
section
variable {X : Cx}
theorem pe_lamT {T : List (Addr × Str)} {cF c Pt : Addr} {k : Nat} {params : Arguments} {body : Expr} {scope : Scope} {t : XK → TE} {p lpos pos : Pos} (F : FnP X.K X.mg "_law_told" s__law_told) (eT : X.mg "KindFault" = some (.ref cF)) {qn : Str} (hm : (Pt, qn ++ ("<lambda>" : Str)) ∈ T) (hu : ∀ p ∈ T, p.1 = Pt → p.2 = qn ++ ("<lambda>" : Str))
    (TB : TabB X.base X.mg c Pt) (hcode : X.env.code = .ref c) (qn' : Str) (hq : X.env.qual = qn) (hr : Room (k + 2) X.A) (sc : Scope) (hsc : X.env.scope = sc) (L : lamSB sc scope = true) (hdef : defaultsOf params X.env = ([], []))
    (hbind : ∀ (q : Str) (cl : List (Str × Addr)) (pm cv ctv : Value), bindArgs (PySem.W.kla_fn "<lambda>" q params body scope cl pm cv ctv) ⟨[], []⟩ = pure []) (hg : Gl X "_law_told")
    (hbody : ∀ (A : Around) (outer : List Env) (s : Shared) (H : Hp) (E : XK) (f c' : Addr), Room k (A.deeper (lamEnv X scope s.heap.objs.size f c')) → PE (lamCx X A outer s H E scope f c') body (t E)) :
    PE X (.Call (.Name "_law_told" p) [.Lambda params body scope lpos] [] pos) (tLam T (TTold X.K cF "KindFault") t) := by
  subst hq
  obtain ⟨f, fd, F, m⟩ := F
  have bb := F.bindsN (ps := ["what"]) fun _ _ _ _ _ _ us hl => match us, hl with | [_], _ => rfl
  obtain ⟨oc, od, dV, kV, doc, pm, an, cdv, ct, osl, rfl, lk, hcd, _, _⟩ := F.ex
  exact pe_lamcall hg m F.kp lk hcd bb sc__law_told rfl (Or.inl rfl) (told_gives rfl eT rfl fun _ => rfl) TB hcode hm hu hr (hsc ▸ lamS_by L) hdef hbind hbody
end
structure Wz (K : PySem.W.Frag) (mg : Str → Option Value) (cTE cTk aL aS aK cKF : Addr) (ad : Ad) : Prop extends Wr K mg cTE cTk aL aS aK cKF ad where
  d__law_told : FnP K mg "_law_told" s__law_told
  x_KK : PySem.W.exmOne K (.ref cKF) (.ref cKF) = some true
theorem w_lamG {T : List (Addr × Str)} {TT : (XK → Hp → VK → Prop) → Hp → VK → Prop} {t : XK → TE} {σ : L2.St} {H : Hp} {Q : VK} (h : Tabs T H ∧ ∀ H1, ExtN H H1 → Tabs T H1 → TT (fun E H' Q' => t E σ H' Q') H1 Q) : tLam T TT t σ H Q := h
structure Good (T : List (Addr × Str)) (p : Addr) (ds : List Addr) (H : Hp) : Prop where
  lst : H p = some (.lst (ds.map V.ref))
  dice : ∀ d ∈ ds, Dice H d
  tab : Tabs T H
theorem Good.kp {T : List (Addr × Str)} {p d : Addr} {ds : List Addr} {H H' : Hp} (g : Good T p ds H) (hd : d ∈ ds) (k : Kp d H H') (h : Dice H' d) : Good T p ds H' := by
  refine ⟨k _ _ (fun n => ?_) g.lst, fun e he => ?_, tabs_kp g.tab k (g.dice d hd)⟩
  · obtain ⟨x, y, z, e⟩ := g.dice d hd
    have l := g.lst
    rw [n, e] at l
    cases ds with
    | nil => cases hd
    | cons b r => cases l
  · by_cases n : e = d
    · rw [n]; exact h
    · obtain ⟨x, y, z, q⟩ := g.dice e he
      exact ⟨x, y, z, k _ _ n q⟩
theorem Good.sm {T : List (Addr × Str)} {p : Addr} {ds : List Addr} {H H' : Hp} (g : Good T p ds H) (s : Same H H') : Good T p ds H' := ⟨s _ _ g.lst, fun d hd => Dice.sm (g.dice d hd) s, g.tab.ext s⟩
theorem Good.ex {T : List (Addr × Str)} {p : Addr} {ds : List Addr} {H H' : Hp} (g : Good T p ds H) (s : ExtN H H') (t : Tabs T H') : Good T p ds H' := ⟨ext_lst s g.lst, fun d hd => by
  obtain ⟨x, y, z, e⟩ := g.dice d hd
  exact ⟨x, y, z, ext_lst s e⟩, t⟩
def spLaw (K : PySem.W.Frag) (Pl Pf : Addr) : Sp := fun vs H Q _ => ∃ (a : Addr) (ns : List Int), vs = [.ref a] ∧ SqL K H a (ns.map V.int) ∧ ns.length ≤ 63 ∧ Tabs (TQ Pl Pf) H ∧ ∀ H', Q (.bl true) H'
theorem w_orG {ta tb : TE} {σ : L2.St} {H : Hp} {R : VK} (G : V → Hp → Prop) (h1 : ∀ R' : VK, (∀ v H', G v H' → R' v H') → tOrV ta tb σ H R') (h2 : ∀ v H', G v H' → R v H') : tOrV ta tb σ H R := h1 R h2
theorem flat_v (v : RV) : flatV (vV v) = true := by cases v <;> rfl
theorem w_inNon {K : PySem.W.Frag} {H : Hp} {Q : VK} {t : Addr} {u v : RV} (h : H t = some (.lst [vV u, vV v])) (q : Q (.bl (decide (u = .non ∨ v = .non))) H) : rIn K false .non (.ref t) H Q :=
  ⟨t, _, rfl, .inl (SqL.of h), rfl, by simp [flat_v], by
    rw [show inV .non [vV u, vV v] = decide (u = .non ∨ v = .non) by cases u <;> cases v <;> simp [inV, eqV, GnK.kW]]
    exact q⟩
theorem w_inTxt {K : PySem.W.Frag} {H : Hp} {Q : VK} {t : Addr} {u v : RV} (h : H t = some (.lst [.str (kindS u), .str (kindS v)])) (q : Q (.bl (isT u || isT v)) H) : rIn K false (.str (Str.ofString "text")) (.ref t) H Q :=
  ⟨t, _, rfl, .inl (SqL.of h), rfl, rfl, by
    rw [show inV (.str (Str.ofString "text")) [.str (kindS u), .str (kindS v)] = (isT u || isT v) by cases u <;> cases v <;> rfl]
    exact q⟩
theorem w_inInt {K : PySem.W.Frag} {H : Hp} {Q : VK} {t : Addr} {u v : RV} (h : H t = some (.lst [.str (kindS u), .str (kindS v)])) (q : Q (.bl (isI u || isI v)) H) : rIn K false (.str (Str.ofString "int")) (.ref t) H Q :=
  ⟨t, _, rfl, .inl (SqL.of h), rfl, rfl, by
    rw [show inV (.str (Str.ofString "int")) [.str (kindS u), .str (kindS v)] = (isI u || isI v) by cases u <;> cases v <;> rfl]
    exact q⟩
theorem scal_o (x : Option Bool) : scal (oV x) (oV x) = true := by rcases x with _ | _ | _ <;> rfl
theorem scal_ar (g : Ar) (u v : RV) : scal (arV g u v) (arV g u v) = true := by
  cases u <;> cases v <;> first
    | rfl
    | (cases g <;> simp only [arV, arI, inR] <;> (repeat' split) <;> rfl)
theorem scal_cat (u v : RV) : scal (catV u v) (catV u v) = true := by cases u <;> cases v <;> rfl
theorem scal_lik (u v : RV) : scal (likV u v) (likV u v) = true := by cases u <;> cases v <;> rfl
def KF : V := .str (Str.ofString "KindFault")
def tCat (u v : RV) : V := if (isI u || isI v) = true then KF else catV u v
def tLik (u v : RV) : V := if (isI u || isI v) = true then KF else likV u v
def tSam (u v : RV) : V := if Fit u v then .non else KF
theorem scal_tc (u v : RV) : scal (tCat u v) (tCat u v) = true := by
  unfold tCat; split
  · rfl
  · exact scal_cat u v
theorem scal_tl (u v : RV) : scal (tLik u v) (tLik u v) = true := by
  unfold tLik; split
  · rfl
  · exact scal_lik u v
section
variable {K : PySem.W.Frag} {C : Addr} {H : Hp} {Q : VK} {u v : RV}
theorem told_cat (hx : PySem.W.exmOne K (.ref C) (.ref C) = some true) (hl : ∀ l, u = .txt l ∨ v = .txt l → l.length ≤ 1000) (h : ∀ H', Same H H' → Q (tCat u v) H') : spCat C [vV u, vV v] H Q (fun cls _ H' => ∃ b, PySem.W.exmOne K cls (.ref C) = some b ∧ (b = true → Q (.str (Str.ofString "KindFault")) H') ∧ (b = false → False)) := by
  refine ⟨u, v, rfl, hl, fun c H' s => ?_, fun c H' s => ⟨true, hx, fun _ => ?_, fun h => absurd h (by decide)⟩⟩
  · have := h H' s
    unfold tCat at this
    rwa [c.1, c.2, if_neg (by decide)] at this
  · have := h H' s
    unfold tCat at this
    rwa [show (isI u || isI v) = true by rcases c with c | c <;> rw [c] <;> cases isI _ <;> rfl, if_pos rfl] at this
theorem told_lik (hx : PySem.W.exmOne K (.ref C) (.ref C) = some true) (hl : ∀ l, u = .txt l ∨ v = .txt l → l.length ≤ 20) (h : ∀ H', Same H H' → Q (tLik u v) H') : spLike C [vV u, vV v] H Q (fun cls _ H' => ∃ b, PySem.W.exmOne K cls (.ref C) = some b ∧ (b = true → Q (.str (Str.ofString "KindFault")) H') ∧ (b = false → False)) := by
  refine ⟨u, v, rfl, hl, fun c H' s => ?_, fun c H' s => ⟨true, hx, fun _ => ?_, fun h => absurd h (by decide)⟩⟩
  · have := h H' s
    unfold tLik at this
    rwa [c.1, c.2, if_neg (by decide)] at this
  · have := h H' s
    unfold tLik at this
    rwa [show (isI u || isI v) = true by rcases c with c | c <;> rw [c] <;> cases isI _ <;> rfl, if_pos rfl] at this
theorem told_sam (hx : PySem.W.exmOne K (.ref C) (.ref C) = some true) (h : Q (tSam u v) H) : spSame C [vV u, vV v] H Q (fun cls _ H' => ∃ b, PySem.W.exmOne K cls (.ref C) = some b ∧ (b = true → Q (.str (Str.ofString "KindFault")) H') ∧ (b = false → False)) := by
  refine ⟨u, v, rfl, fun c => ?_, fun c => ⟨true, hx, fun _ => ?_, fun h => absurd h (by decide)⟩⟩
  · unfold tSam at h; rwa [if_pos c] at h
  · unfold tSam at h; rwa [if_neg c] at h
theorem w_eqSam (q : Q (.bl (!decide (Fit u v))) H) : rEq (tSam u v) (.str (Str.ofString "KindFault")) H Q := by
  unfold tSam
  by_cases c : Fit u v
  · rw [if_pos c]
    refine ⟨rfl, ?_⟩
    rw [decide_eq_true c] at q
    exact q
  · rw [if_neg c]
    refine ⟨rfl, ?_⟩
    rw [decide_eq_false c] at q
    rw [show decide (KF = V.str (Str.ofString "KindFault")) = true from decide_eq_true rfl]
    exact q
theorem w_ifG {tt : TT} {ta tb : TE} {σ : L2.St} {R : VK} (G : V → Hp → Prop) (h1 : ∀ R' : VK, (∀ v H', G v H' → R' v H') → tIf tt ta tb σ H R') (h2 : ∀ v H', G v H' → R v H') : tIf tt ta tb σ H R := h1 R h2
end
theorem draw_lt {c : Nat} (h : c ∈ [97, 98, 95, 42, 39]) : c < 128 := by
  simp only [List.mem_cons, List.not_mem_nil, or_false] at h
  omega
def oD : Option Bool → PyData
  | none => .none
  | some b => .bool b
theorem o_dp {K : PySem.W.Frag} {H : Hp} (x : Option Bool) : Dp K H (oV x) (oD x) := by
  rcases x with _ | b
  · exact .non
  · exact .bl b
theorem o_fine (x : Option Bool) : Fine 0 (oD x) := by rcases x with _ | _ | _ <;> exact ⟨rfl, by simp [oD, PyData.depth], by simp [oD, PyData.eqv]⟩
theorem w_neO {K : PySem.W.Frag} {H : Hp} {Q : VK} (x : Option Bool) (q : Q (.bl false) H) : rNeD K (oV x) (oV x) H Q := w_neFine (o_dp x) (o_dp x) (o_fine x) (by decide) q
def iD : Option Int → PyData
  | none => .none
  | some b => .int b
def iV : Option Int → V
  | none => .non
  | some b => .int b
theorem i_dp {K : PySem.W.Frag} {H : Hp} (x : Option Int) : Dp K H (iV x) (iD x) := by
  rcases x with _ | b
  · exact .non
  · exact .int b
theorem i_fine (x : Option Int) : Fine 0 (iD x) := by
  rcases x with _ | b
  · exact ⟨rfl, by simp [iD, PyData.depth], by simp [iD, PyData.eqv]⟩
  · exact Fine.int b
theorem w_neI {K : PySem.W.Frag} {H : Hp} {Q : VK} (x : Option Int) (q : Q (.bl false) H) : rNeD K (iV x) (iV x) H Q := w_neFine (i_dp x) (i_dp x) (i_fine x) (by decide) q
theorem scal_i (x : Option Int) : scal (iV x) (iV x) = true := by rcases x with _ | _ <;> rfl
def sumO (l : List RV) : Option Int := if nums l = [] then none else if -HI ≤ (nums l).sum ∧ (nums l).sum ≤ HI then some (nums l).sum else none
theorem sumO_eq (l : List RV) : sumV l = iV (sumO l) := by
  unfold sumV sumO inR
  split
  · rfl
  · split <;> rfl
theorem least_ex (R : Int → Int → Prop) (tot : ∀ a b, R a b ∨ R b a) (tr : ∀ a b c, R a b → R b c → R a c) : ∀ l : List Int, l ≠ [] → ∃ m ∈ l, ∀ k ∈ l, R m k
  | [], h => absurd rfl h
  | [a], _ => ⟨a, List.mem_cons_self, fun k hk => by rw [List.mem_singleton.mp hk]; exact (tot a a).elim id id⟩
  | a :: b :: r, _ => by
    obtain ⟨m, hm, h⟩ := least_ex R tot tr (b :: r) (List.cons_ne_nil _ _)
    rcases tot a m with c | c
    · exact ⟨a, List.mem_cons_self, fun k hk => by
        rcases List.mem_cons.mp hk with rfl | hk
        · exact (tot k k).elim id id
        · exact tr _ _ _ c (h k hk)⟩
    · exact ⟨m, List.mem_cons_of_mem _ hm, fun k hk => by
        rcases List.mem_cons.mp hk with rfl | hk
        · exact c
        · exact h k hk⟩
/-- the least, or the greatest -/
def Lst (g : Bool) (l : List Int) (x : Option Int) : Prop := (l = [] → x = none) ∧ (l ≠ [] → ∃ m ∈ l, x = some m ∧ ∀ k ∈ l, if g = true then k ≤ m else m ≤ k)
theorem lst_ex (g : Bool) (l : List Int) : ∃ x, Lst g l x := by
  by_cases h : l = []
  · exact ⟨none, fun _ => rfl, fun z => absurd h z⟩
  · cases g with
    | true =>
      obtain ⟨m, hm, hk⟩ := least_ex (fun a b => b ≤ a) (fun a b => by omega) (fun a b c => by omega) l h
      exact ⟨some m, fun z => absurd z h, fun _ => ⟨m, hm, rfl, fun k hk' => by rw [if_pos rfl]; exact hk k hk'⟩⟩
    | false =>
      obtain ⟨m, hm, hk⟩ := least_ex (fun a b => a ≤ b) (fun a b => by omega) (fun a b c => by omega) l h
      exact ⟨some m, fun z => absurd z h, fun _ => ⟨m, hm, rfl, fun k hk' => by rw [if_neg Bool.false_ne_true]; exact hk k hk'⟩⟩
theorem Lst.uniq {g : Bool} {l : List Int} {x : Option Int} (h : Lst g l x) (hl : l ≠ []) {m : Int} (hm : m ∈ l) (hk : ∀ k ∈ l, if g = true then k ≤ m else m ≤ k) : iV x = .int m := by
  obtain ⟨m', hm', rfl, hk'⟩ := h.2 hl
  have a := hk _ hm'
  have b := hk' _ hm
  cases g with
  | true => rw [if_pos rfl] at a b; rw [show m' = m by omega]; rfl
  | false => rw [if_neg Bool.false_ne_true] at a b; rw [show m' = m by omega]; rfl
theorem told_least {H : Hp} {Q : VK} {E : XK} {aN : Addr} {l : List RV} {g : Bool} {x : Option Int} (hx : Lst g (nums l) x) (e : H aN = some (.lst (l.map vV))) (hl : l.length ≤ 20) (hT : ∀ v ∈ l, isT v = false) (h : ∀ H', Same H H' → Q (iV x) H') : spLeast [.ref aN, .bl g] H Q E :=
  ⟨aN, l, g, rfl, e, hl, hT, fun z H' s => by
    have := h H' s
    rwa [hx.1 z] at this, fun z m hm hk H' s => by
    have := h H' s
    rwa [hx.uniq z hm hk] at this⟩
def nt (l : List RV) : List RV := l.filter fun v => !isT v
theorem nt_T (l : List RV) : ∀ v ∈ nt l, isT v = false := fun v hv => by
  have := (List.mem_filter.mp hv).2
  simpa using this
theorem nt_snoc (l : List RV) (v : RV) : nt (l ++ [v]) = if (!isT v) = true then nt l ++ [v] else nt l := by
  unfold nt
  rw [List.filter_append, List.filter_cons, List.filter_nil]
  split <;> simp_all
theorem nt_all {l : List RV} (h : l.any isT = false) : nt l = l := List.filter_eq_self.mpr fun v hv => by
  have := List.any_eq_false.mp h v hv
  simpa using this
theorem kind_t (v : RV) : (kindS v = Str.ofString "text") ↔ isT v = true := by
  have h1 : Str.ofString "text" ≠ Str.ofString "int" := by decide +kernel
  have h2 : Str.ofString "null" ≠ Str.ofString "text" := by decide +kernel
  cases v with
  | non => exact ⟨fun h => absurd h h2, fun h => by cases h⟩
  | txt l => exact ⟨fun _ => rfl, fun _ => rfl⟩
  | num n => exact ⟨fun h => absurd h.symm h1, fun h => by cases h⟩
theorem str_tl {a b : Str} (h : a.1.toList = b.1.toList) : a = b := by
  obtain ⟨a⟩ := a
  obtain ⟨b⟩ := b
  exact congrArg Str.mk (Array.toList_inj.mp h)
theorem kind_tl {v : RV} (h : isT v = true) : (kindS v).1.toList = (Str.ofString "text").1.toList := by rw [(kind_t v).mpr h]
theorem w_ttG {ta : TT} {σ : L2.St} {H : Hp} {R : Bool → Hp → Prop} (G : Bool → Hp → Prop) (h1 : ∀ R' : Bool → Hp → Prop, (∀ b H', G b H' → R' b H') → ta σ H R') (h2 : ∀ b H', G b H' → R b H') : ta σ H R := h1 R h2
theorem draw_al {c : Nat} (h : c ∈ [97, 98, 95, 42, 39]) : c ∈ Lx.alphabet := by
  simp only [List.mem_cons, List.not_mem_nil, or_false] at h
  rcases h with rfl | rfl | rfl | rfl | rfl <;> decide +kernel
theorem fine_is (ns : List Int) : Fine 1 (.list (ns.map PyData.int)) := Fine.lst fun d hd => by
  obtain ⟨n, _, rfl⟩ := List.mem_map.mp hd
  exact Fine.int n
def sgs : List Sg := [.eq, .ne, .lt, .le, .gt, .ge]
def ars : List Ar := [.add, .sub, .mul, .div, .mod]
section
variable {P : Program} {w : World} {K : PySem.W.Frag} {mg : Str → Option Value} {base : Heap} {cTE cTk aL aS aK cKF : Addr} {ad : Ad}
theorem ok_law {f c Pl Pf : Addr} {fd : FuncData} (W : Wz K mg cTE cTk aL aS aK cKF ad) (F : FunD K "law" "law" (defArgs s_law) (defBody s_law) (defScope s_law) [] [] f fd) (hc : fd.code = .ref c) (TB : TabB base mg c Pl) (nT : Pl ≠ Pf)
    (c__law_roll : Cl P w K mg base 1 "_law_roll" spRoll) (c__law_rounds : Cl P w K mg base 2 "_law_rounds" (spRounds K)) (c__law_value_drawn : Cl P w K mg base 2 "_law_value_drawn" spDraw) (c__law_sort : Cl P w K mg base 1 "_law_sort" spKind)
    (c_compare : Cl P w K mg base 3 "compare" (spComp cKF)) (c__law_cmp : Cl P w K mg base 1 "_law_cmp" spLCmp) (c_arithmetic : Cl P w K mg base 2 "arithmetic" (spArith cKF)) (c__law_number : Cl P w K mg base 1 "_law_number" spLNum)
    (c_concat : Cl P w K mg base 2 "concat" (spCat cKF)) (c_like : Cl P w K mg base 2 "like" (spLike cKF)) (c__law_like : Cl P w K mg base 6 "_law_like" (spLL 6)) (c_same_kind : Cl P w K mg base 2 "same_kind" (spSame cKF)) (c_kind_of : Cl P w K mg base 1 "kind_of" spKind)
    (c_rank : Cl P w K mg base 1 "rank" spRank) (c__law_rank : Cl P w K mg base 1 "_law_rank" spRank) (c_row_rank : Cl P w K mg base 2 "row_rank" spRow) (c_both : Cl P w K mg base 1 "both" spBoth) (c__law_and : Cl P w K mg base 1 "_law_and" spBoth) (c_negated : Cl P w K mg base 1 "negated" spNot) (c__law_not : Cl P w K mg base 1 "_law_not" spNot)
    (c_either : Cl P w K mg base 1 "either" spEither) (c_sum_of : Cl P w K mg base 3 "sum_of" (spSum cKF (TQ Pl Pf))) (c_least_of : Cl P w K mg base 2 "least_of" spLeast) (c_parse_expression : Cl P w K mg base 10 "parse_expression" spParse) (c_value_text : Cl P w K mg base 2 "value_text" spText)
    (c_quoted : Cl P w K mg base 1 "quoted" spQuo) (c_in_range : Cl P w K mg base 1 "in_range" spRange) (c_closed : Cl P w K mg base 1 "closed" spClosed) (c_stepped : Cl P w K mg base 1 "stepped" spStepped) :
    FnOk P w K mg base (L2.CX P w) 12 f fd ["script"] (spLaw K Pl Pf) := by
  have hTm := tq_l (Pl := Pl) (Pf := Pf)
  have hTu := tq_ul nT
  obtain ⟨oc, od, dV, kV, doc, pm, an, cdv, ct, osl, rfl, lk, hcd, _, _⟩ := F.ex
  obtain rfl : cdv = .ref c := hc
  refine fn_of lk hcd sc_law (fun vs H Q E h => ?_) fun A outer s H vs Q E hr h => ?_
  · obtain ⟨a, ns, rfl, _⟩ := h; rfl
  obtain ⟨a, ns, rfl, hS, h63, hT, q⟩ := h
  refine ⟨_, (pss_cons (ps_for (passes_of rfl) rfl (pi_list (pe_cl c__law_rounds hr (by decide) rfl passL (pa_cons (pv 0) (pa_cons pe_int pa_nil)))) (pg_name (i := 1) sc_law.nd rfl (by first | exact Or.inl rfl | exact Or.inr rfl))
    (pss_cons (ps_asg (pe_tup (pa_cons (pe_cl c__law_value_drawn hr (by decide) rfl passL (pa_cons (pv 1) pa_nil)) (pa_cons (pe_cl c__law_value_drawn hr (by decide) rfl passL (pa_cons (pv 1) pa_nil)) pa_nil))) (pg_tup rfl (pgs_cons (pg_name (i := 2) sc_law.nd rfl (Or.inr rfl)) (pgs_cons (pg_name (i := 3) sc_law.nd rfl (Or.inr rfl)) pgs_nil))))
    (pss_cons (ps_set (i := 4) sc_law.nd rfl (Or.inl rfl) (pe_or (pe_cmpR op_in_seq pe_non (pe_lst (pa_cons (pv 2) (pa_cons (pv 3) pa_nil))) (by with_unfolding_all rfl)) (pe_one (pe_cmpR op_eq (pe_cl c__law_sort hr (by decide) rfl passL (pa_cons (pv 2) pa_nil)) (pe_cl c__law_sort hr (by decide) rfl passL (pa_cons (pv 3) pa_nil)) (nomark _)))))
    (pss_cons (ps_for (passes_of rfl) rfl (pi_list (pe_lst (pa_cons pe_str (pa_cons pe_str (pa_cons pe_str (pa_cons pe_str (pa_cons pe_str (pa_cons pe_str pa_nil)))))))) (pg_name (i := 5) sc_law.nd rfl (Or.inr rfl))
    (pss_cons (ps_set (i := 6) sc_law.nd rfl (Or.inl rfl) (pe_lamT W.d__law_told W.e_KindFault.og hTm hTu TB rfl (("law" : Str) ++ (".<locals>." : Str)) rfl hr (defScope s_law) rfl (by decide +kernel) rfl (fun _ _ _ _ _ => rfl) rfl (fun A outer s H E f c1 hr => (pe_cl c_compare hr (by decide) rfl passLam (pa_cons (pv 5) (pa_cons (pv 2) (pa_cons (pv 3) pa_nil)))))))
    (pss_one (ps_if (pt_cmpR op_ne (pv 6) (pe_ifExp (pt_not (pt_val (pv 4))) pe_str (pe_cl c__law_cmp hr (by decide) rfl passL (pa_cons (pv 5) (pa_cons (pv 2) (pa_cons (pv 3) pa_nil))))) (nomark _))
    (pss_one (ps_ret pe_bl))
    pss_nil))))
    (pss_cons (ps_for (passes_of rfl) rfl (pi_list (pe_lst (pa_cons pe_str (pa_cons pe_str (pa_cons pe_str (pa_cons pe_str (pa_cons pe_str pa_nil))))))) (pg_name (i := 5) sc_law.nd rfl (Or.inr rfl))
    (pss_cons (ps_set (i := 6) sc_law.nd rfl (Or.inl rfl) (pe_lamT W.d__law_told W.e_KindFault.og hTm hTu TB rfl (("law" : Str) ++ (".<locals>." : Str)) rfl hr (defScope s_law) rfl (by decide +kernel) rfl (fun _ _ _ _ _ => rfl) rfl (fun A outer s H E f c1 hr => (pe_cl c_arithmetic hr (by decide) rfl passLam (pa_cons (pv 5) (pa_cons (pv 2) (pa_cons (pv 3) pa_nil)))))))
    (pss_one (ps_if (pt_cmpR op_ne (pv 6) (pe_ifExp (pt_cmpR op_in_seq pe_str (pe_lst (pa_cons (pe_cl c__law_sort hr (by decide) rfl passL (pa_cons (pv 2) pa_nil)) (pa_cons (pe_cl c__law_sort hr (by decide) rfl passL (pa_cons (pv 3) pa_nil)) pa_nil))) (by with_unfolding_all rfl)) pe_str (pe_cl c__law_number hr (by decide) rfl passL (pa_cons (pv 5) (pa_cons (pv 2) (pa_cons (pv 3) pa_nil))))) (nomark _))
    (pss_one (ps_ret pe_bl))
    pss_nil))))
    (pss_cons (ps_set (i := 6) sc_law.nd rfl (Or.inl rfl) (pe_lamT W.d__law_told W.e_KindFault.og hTm hTu TB rfl (("law" : Str) ++ (".<locals>." : Str)) rfl hr (defScope s_law) rfl (by decide +kernel) rfl (fun _ _ _ _ _ => rfl) rfl (fun A outer s H E f c1 hr => (pe_cl c_concat hr (by decide) rfl passLam (pa_cons (pv 2) (pa_cons (pv 3) pa_nil))))))
    (pss_cons (ps_if (pt_cmpR op_ne (pv 6) (pe_ifExp (pt_cmpR op_in_seq pe_str (pe_lst (pa_cons (pe_cl c__law_sort hr (by decide) rfl passL (pa_cons (pv 2) pa_nil)) (pa_cons (pe_cl c__law_sort hr (by decide) rfl passL (pa_cons (pv 3) pa_nil)) pa_nil))) (by with_unfolding_all rfl)) pe_str (pe_ifExp (pt_cmpR op_in_seq pe_non (pe_lst (pa_cons (pv 2) (pa_cons (pv 3) pa_nil))) (by with_unfolding_all rfl)) pe_non (pe_op op_add_str (pv 2) (pv 3)))) (nomark _))
    (pss_one (ps_ret pe_bl))
    pss_nil)
    (pss_cons (ps_set (i := 6) sc_law.nd rfl (Or.inl rfl) (pe_lamT W.d__law_told W.e_KindFault.og hTm hTu TB rfl (("law" : Str) ++ (".<locals>." : Str)) rfl hr (defScope s_law) rfl (by decide +kernel) rfl (fun _ _ _ _ _ => rfl) rfl (fun A outer s H E f c1 hr => (pe_cl c_like hr (by decide) rfl passLam (pa_cons (pv 2) (pa_cons (pv 3) pa_nil))))))
    (pss_cons (ps_if (pt_cmpR op_ne (pv 6) (pe_ifExp (pt_cmpR op_in_seq pe_str (pe_lst (pa_cons (pe_cl c__law_sort hr (by decide) rfl passL (pa_cons (pv 2) pa_nil)) (pa_cons (pe_cl c__law_sort hr (by decide) rfl passL (pa_cons (pv 3) pa_nil)) pa_nil))) (by with_unfolding_all rfl)) pe_str (pe_cl c__law_like hr (by first | exact Nat.le_refl _ | decide) rfl passL (pa_cons (pv 2) (pa_cons (pv 3) pa_nil)))) (nomark _))
    (pss_one (ps_ret pe_bl))
    pss_nil)
    (pss_cons (ps_if (PW.pt (pw_or (pt_cmpR op_eq (pe_cmpR op_eq (pe_lamT W.d__law_told W.e_KindFault.og hTm hTu TB rfl (("law" : Str) ++ (".<locals>." : Str)) rfl hr (defScope s_law) rfl (by decide +kernel) rfl (fun _ _ _ _ _ => rfl) rfl (fun A outer s H E f c1 hr => (pe_cl c_same_kind hr (by decide) rfl passLam (pa_cons (pv 2) (pa_cons (pv 3) pa_nil))))) pe_str (nomark _)) (pv 4) (nomark _)) (pw_or1 (pt_cmpR op_ne (pe_cl c_kind_of hr (by decide) rfl passL (pa_cons (pv 2) pa_nil)) (pe_cl c__law_sort hr (by decide) rfl passL (pa_cons (pv 2) pa_nil)) (nomark _)))))
    (pss_one (ps_ret pe_bl))
    pss_nil)
    (pss_cons (ps_if (PW.pt (pw_or (pt_cmpR (op_neD (hu64 hr)) (pe_cl c_rank hr (by decide) rfl passL (pa_cons (pv 2) pa_nil)) (pe_cl c__law_rank hr (by decide) rfl passL (pa_cons (pv 2) pa_nil)) (nomark _)) (pw_or1 (pt_cmpR (op_neD (hu64 hr)) (pe_cl c_row_rank hr (by decide) rfl passL (pa_cons (pe_tup (pa_cons (pv 2) (pa_cons (pv 3) pa_nil))) pa_nil)) (pe_tup (pa_cons (pe_cl c__law_rank hr (by decide) rfl passL (pa_cons (pv 2) pa_nil)) (pa_cons (pe_cl c__law_rank hr (by decide) rfl passL (pa_cons (pv 3) pa_nil)) pa_nil))) (nomark _)))))
    (pss_one (ps_ret pe_bl))
    pss_nil)
    (pss_cons (ps_setLc (i := 7) (own := [("k", 8)]) rfl sc_law.nd rfl rfl (sw_true rfl rfl rfl (by decide +kernel)) (pi_range1 rfl W.n_range (pa_cons pe_int pa_nil)) (blkOk_by (own := [("k", 8)]) (N := ["script", "dice", "one", "other", "fit", "sign", "told_now", "truths", "k", "values", "numbers", "value", "known", "due", "tree"]) (sc := defScope s_law) (by decide +kernel)) (fun _ _ _ _ _ => (pg_name (i := 8) sc_law.nd rfl (Or.inl rfl))) (fun _ _ _ _ _ => pts_nil) (fun _ _ _ _ _ => (pe_ix (ix_listK K rfl) (pe_lst (pa_cons pe_bl (pa_cons pe_bl (pa_cons pe_non pa_nil)))) (pe_cl c__law_roll hr (by decide) rfl passL (pa_cons (pv 1) (pa_cons pe_int pa_nil))) (fun _ _ => rfl))))
    (pss_cons (ps_if (PW.pt (pw_or (pt_cmpR (op_neD (hu64 hr)) (pe_cl c_both hr (by decide) rfl passL (pa_cons (pe_ix ix_list (pv 7) pe_int (fun _ _ => rfl)) (pa_cons (pe_ix ix_list (pv 7) pe_int (fun _ _ => rfl)) pa_nil))) (pe_cl c__law_and hr (by decide) rfl passL (pa_cons (pe_ix ix_list (pv 7) pe_int (fun _ _ => rfl)) (pa_cons (pe_ix ix_list (pv 7) pe_int (fun _ _ => rfl)) pa_nil))) (nomark _)) (pw_or1 (pt_cmpR (op_neD (hu64 hr)) (pe_cl c_negated hr (by decide) rfl passL (pa_cons (pe_ix ix_list (pv 7) pe_int (fun _ _ => rfl)) pa_nil)) (pe_cl c__law_not hr (by decide) rfl passL (pa_cons (pe_ix ix_list (pv 7) pe_int (fun _ _ => rfl)) pa_nil)) (nomark _)))))
    (pss_one (ps_ret pe_bl))
    pss_nil)
    (pss_cons (ps_if (pt_cmpR (op_neD (hu64 hr)) (pe_cl c_either hr (by decide) rfl passL (pa_cons (pe_ix ix_list (pv 7) pe_int (fun _ _ => rfl)) (pa_cons (pe_ix ix_list (pv 7) pe_int (fun _ _ => rfl)) pa_nil))) (pe_cl c__law_not hr (by decide) rfl passL (pa_cons (pe_cl c__law_and hr (by decide) rfl passL (pa_cons (pe_cl c__law_not hr (by decide) rfl passL (pa_cons (pe_ix ix_list (pv 7) pe_int (fun _ _ => rfl)) pa_nil)) (pa_cons (pe_cl c__law_not hr (by decide) rfl passL (pa_cons (pe_ix ix_list (pv 7) pe_int (fun _ _ => rfl)) pa_nil)) pa_nil))) pa_nil)) (nomark _))
    (pss_one (ps_ret pe_bl))
    pss_nil)
    (pss_cons (ps_set (i := 9) sc_law.nd rfl (Or.inr rfl) (pe_lc (own := [("k", 8)]) rfl sc_law.nd (pi_range1 rfl W.n_range (pa_cons (pe_cl c__law_roll hr (by decide) rfl passL (pa_cons (pv 1) (pa_cons pe_int pa_nil))) pa_nil)) (blkOk_by (own := [("k", 8)]) (N := ["script", "dice", "one", "other", "fit", "sign", "told_now", "truths", "k", "values", "numbers", "value", "known", "due", "tree"]) (sc := defScope s_law) (by decide +kernel)) (fun _ _ _ _ _ => (pg_name (i := 8) sc_law.nd rfl (Or.inl rfl))) (fun _ _ _ _ _ => pts_nil) (fun _ _ _ _ _ => (pe_cl c__law_value_drawn hr (by decide) rfl passL (pa_cons (pv 1) pa_nil)))))
    (pss_cons (ps_setLc (i := 10) (own := [("value", 11)]) rfl sc_law.nd rfl rfl (sw_true rfl rfl rfl (by decide +kernel)) (pi_list (pv 9)) (blkOk_by (own := [("value", 11)]) (N := ["script", "dice", "one", "other", "fit", "sign", "told_now", "truths", "k", "values", "numbers", "value", "known", "due", "tree"]) (sc := defScope s_law) (by decide +kernel)) (fun _ _ _ _ _ => (pg_name (i := 11) sc_law.nd rfl (by first | exact Or.inl rfl | exact Or.inr rfl))) (fun _ _ _ _ _ => (pts_one (pt_cmpR op_ne (pe_cl c__law_sort hr (by decide) rfl passL (pa_cons (pv 11) pa_nil)) pe_str (nomark _)))) (fun _ _ _ _ _ => (pv 11)))
    (pss_cons (ps_setLc (i := 12) (own := [("value", 11)]) rfl sc_law.nd rfl rfl (sw_true rfl rfl rfl (by decide +kernel)) (pi_list (pv 10)) (blkOk_by (own := [("value", 11)]) (N := ["script", "dice", "one", "other", "fit", "sign", "told_now", "truths", "k", "values", "numbers", "value", "known", "due", "tree"]) (sc := defScope s_law) (by decide +kernel)) (fun _ _ _ _ _ => (pg_name (i := 11) sc_law.nd rfl (by first | exact Or.inl rfl | exact Or.inr rfl))) (fun _ _ _ _ _ => (pts_one (pt_cmpR op_notN1 (pv 11) pe_non (nomark _)))) (fun _ _ _ _ _ => (pv 11)))
    (pss_cons (ps_set (i := 13) sc_law.nd rfl (Or.inl rfl) (pe_ifExp (PW.pt (pw_or (pt_cmpR (op_eqD (hu64 hr)) (pv 12) (pe_lst pa_nil) (nomark _)) (pw_or1 (pt_cmpR op_gt (pe_callB call_abs rfl W.n_abs (by decide +kernel) (pa_cons (pe_callB (cr_sumA rfl) rfl W.n_sum PyProof.Rows.boot_sum (pa_cons (pv 12) pa_nil)) pa_nil)) pe_int (nomark _))))) pe_non (pe_callB (cr_sumA rfl) rfl W.n_sum PyProof.Rows.boot_sum (pa_cons (pv 12) pa_nil))))
    (pss_cons (ps_if (PW.pt (pw_or (pt_cmpR (op_neD (hu64 hr)) (pe_cl c_sum_of hr (by decide) rfl passL (pa_cons (pv 10) pa_nil)) (pv 13) (nomark _)) (pw_or1 (pt_cmpR (op_neD (hu64 hr)) (pe_cl c_least_of hr (by decide) rfl passL (pa_cons (pv 10) (pa_cons pe_bl pa_nil))) (pe_ifExp (pt_cmpR (op_neD (hu64 hr)) (pv 12) (pe_lst pa_nil) (nomark _)) (pe_callB (cr_min rfl) rfl W.n_min (by decide +kernel) (pa_cons (pv 12) pa_nil)) pe_non) (nomark _)))))
    (pss_one (ps_ret pe_bl))
    pss_nil)
    (pss_cons (ps_if (pt_cmpR op_ne (pe_cl c_least_of hr (by decide) rfl passL (pa_cons (pv 10) (pa_cons pe_bl pa_nil))) (pe_ifExp (pt_cmpR (op_neD (hu64 hr)) (pv 12) (pe_lst pa_nil) (nomark _)) (pe_callB (cr_max rfl) rfl W.n_max (by decide +kernel) (pa_cons (pv 12) pa_nil)) pe_non) (nomark _))
    (pss_one (ps_ret pe_bl))
    pss_nil)
    (pss_cons (ps_if (PW.pt (pw_and (pt_cmpR op_lt (pe_callB call_len_seq rfl W.n_len PySem.boot_len (pa_cons (pv 12) pa_nil)) (pe_callB call_len_seq rfl W.n_len PySem.boot_len (pa_cons (pe_lc (own := [("value", 11)]) rfl sc_law.nd (pi_list (pv 9)) (blkOk_by (own := [("value", 11)]) (N := ["script", "dice", "one", "other", "fit", "sign", "told_now", "truths", "k", "values", "numbers", "value", "known", "due", "tree"]) (sc := defScope s_law) (by decide +kernel)) (fun _ _ _ _ _ => (pg_name (i := 11) sc_law.nd rfl (by first | exact Or.inl rfl | exact Or.inr rfl))) (fun _ _ _ _ _ => (pts_one (pt_cmpR op_notN1 (pv 11) pe_non (nomark _)))) (fun _ _ _ _ _ => (pv 11))) pa_nil)) (nomark _)) (pw_and1 (pt_cmpR op_ne (pe_lamT W.d__law_told W.e_KindFault.og hTm hTu TB rfl (("law" : Str) ++ (".<locals>." : Str)) rfl hr (defScope s_law) rfl (by decide +kernel) rfl (fun _ _ _ _ _ => rfl) rfl (fun A outer s H E f c1 hr => (pe_cl c_sum_of hr (by decide) rfl passLam (pa_cons (pv 9) pa_nil)))) pe_str (nomark _)))))
    (pss_one (ps_ret pe_bl))
    pss_nil)
    (pss_cons (ps_set (i := 14) sc_law.nd rfl (Or.inl rfl) (pe_cl c_parse_expression hr (by decide) rfl passL (pa_cons (pe_cl c_value_text hr (by decide) rfl passL (pa_cons (pv 2) pa_nil)) pa_nil)))
    (pss_one (ps_if (pt_cmpR (op_neD (hu64 hr)) (pv 14) (pe_ifExp (pt_cmpR op_isN1 (pv 2) pe_non (nomark _)) (pe_tup (pa_cons pe_str pa_nil)) (pe_ifExp (pt_val (pe_callB L2.call_isi rfl W.n_isinstance PyProof.Rows.boot_isinstance (pa_cons (pv 2) (pa_cons (pe_bltn (v := .ty "str") rfl W.n_str (by decide +kernel) rfl) pa_nil)))) (pe_tup (pa_cons pe_str (pa_cons (pv 2) pa_nil))) (pe_tup (pa_cons pe_str (pa_cons (pv 2) pa_nil))))) (nomark _))
    (pss_one (ps_ret pe_bl))
    pss_nil))))))))))))))))))))))))
    (pss_cons (ps_if (PW.pt (pw_or (pt_cmpR op_ne (pe_cl c_quoted hr (by decide) rfl passL (pa_cons pe_str pa_nil)) pe_str (nomark _)) (pw_or (pt_cmpR op_notN1 (pe_cl c_in_range hr (by decide) rfl passL (pa_cons pe_int pa_nil)) pe_non (nomark _)) (pw_or1 (pt_cmpR op_ne (pe_cl c_in_range hr (by decide) rfl passL (pa_cons (pe_op op_sub pe_int pe_int) pa_nil)) (pe_op op_sub pe_int pe_int) (nomark _))))))
    (pss_one (ps_ret pe_bl))
    pss_nil)
    (pss_one (ps_ret (pe_and (pe_cmpR (op_eqD (hu64 hr)) (pe_cl c_closed hr (by decide) rfl passL (pa_cons (pe_lst (pa_cons pe_int pa_nil)) (pa_cons pe_str pa_nil))) (pe_lst (pa_cons pe_int (pa_cons pe_int (pa_cons pe_int pa_nil)))) (nomark _)) (pe_one (pe_cmpR (op_eqD (hu64 hr)) (pe_cl c_stepped hr (by decide) rfl passL (pa_cons (pe_lst (pa_cons pe_int (pa_cons pe_int pa_nil))) (pa_cons pe_str (pa_cons pe_str pa_nil)))) (pe_lst (pa_cons pe_int (pa_cons pe_int pa_nil))) (nomark _)))))))), ?_⟩
  walk_at "g"
  refine ⟨a, ns, 2, rfl, hS, h63, fun p H1 dcs s1 fp ep hds hl => ?_⟩
  refine w_forL (SqL.of ep) (fun i σ Hc => Good (TQ Pl Pf) p dcs Hc ∧ ∃ v1 v2 v3 v4 v5 v6 v7 v8 v9 v10 v11 v12 v13 v14 : Option V, σ = [some (.ref a), v1, v2, v3, v4, v5, v6, v7, v8, v9, v10, v11, v12, v13, v14])
    ⟨⟨ep, fun d hd => (hds d hd).1, hT.ext s1⟩, none, none, none, none, none, none, none, none, none, none, none, none, none, none, rfl⟩ (fun i σ Hc _ h => SqL.of h.1.lst) ?_ ?_
  · rintro i x σ H2 hi ⟨g, v1, v2, v3, v4, v5, v6, v7, v8, v9, v10, v11, v12, v13, v14, rfl⟩
    obtain ⟨d, hd, rfl⟩ : ∃ d ∈ dcs, x = V.ref d := by
      obtain ⟨d, e1, e2⟩ := map_get hi
      exact ⟨d, List.mem_of_getElem? e1, e2⟩
    have dd := g.dice d hd
    have kp := Kp.refl d H2
    walk_at "g"
    refine ⟨d, rfl, g.dice d hd, fun u H3 hu k3 d3 => ?_⟩
    replace g := g.kp hd k3 d3
    walk_at "g"
    refine ⟨d, rfl, d3, fun v H4 hv k4 d4 => ?_⟩
    replace g := g.kp hd k4 d4
    clear k3 k4 d3 d4 dd kp s1 fp ep hT
    walk_at "g"
    intro pt ht
    replace g := g.sm (same_new ht (.tup [vV u, vV v]))
    refine w_gtup upd_same rfl ?_
    generalize upd H4 pt (.tup [vV u, vV v]) = H5 at g
    iterate 6 walk_at "s1"
    refine w_orG (fun x H' => x = .bl (decide (Fit u v)) ∧ Good (TQ Pl Pf) p dcs H') (fun R hR => ?_) ?_
    · walk_at "g"
      intro pt ht
      walk_at "g"
      refine w_inNon upd_same ?_
      replace g := g.sm (same_new ht (.lst [vV u, vV v]))
      generalize upd H5 pt (.lst [vV u, vV v]) = H6 at g
      walk_at "g"
      refine w_iteD (fun c1 => hR _ _ ⟨by rw [decide_eq_true (show Fit u v from c1.elim .inl fun h => .inr (.inl h))], g⟩) (fun c1 => ?_)
      walk_at "g"
      refine ⟨u, rfl, ?_⟩
      walk_at "g"
      refine ⟨v, rfl, ?_⟩
      refine w_eqSt (hR _ _ ⟨?_, g⟩)
      rw [decide_eq_decide.mpr (show kindS u = kindS v ↔ Fit u v from (kind_eq (fun z => c1 (.inl z)) (fun z => c1 (.inr z))).trans ⟨fun z => .inr (.inr z), fun z => z.elim (fun z => absurd (.inl z) c1) fun z => z.elim (fun z => absurd (.inr z) c1) id⟩)]
    rintro _ H6 ⟨rfl, g⟩
    walk_at "g"
    intro pl hpl
    have el : upd H6 pl (.lst (sgs.map fun g => V.str (sgS g))) pl = some (.lst (sgs.map fun g => V.str (sgS g))) := upd_same
    replace g := g.sm (same_new hpl (.lst (sgs.map fun g => V.str (sgS g))))
    refine w_forL (xs := sgs.map fun g => V.str (sgS g)) (SqL.of el) (fun i σ Hc => Good (TQ Pl Pf) p dcs Hc ∧ Hc pl = some (.lst (sgs.map fun g => V.str (sgS g))) ∧ ∃ v5 v6 : Option V, σ = [some (.ref a), some (.ref d), some (vV u), some (vV v), some (.bl (decide (Fit u v))), v5, v6, v7, v8, v9, v10, v11, v12, v13, v14]) ⟨g, el, v5, v6, rfl⟩ (fun i σ Hc _ h => SqL.of h.2.1) ?_ ?_
    · rintro i x σ H7 hi ⟨g, e7, v5, v6, rfl⟩
      obtain ⟨s, hs, rfl⟩ := map_get hi
      walk_at "g"
      refine w_lamG ⟨g.tab, fun H8 x8 t8 => ?_⟩
      replace g := g.ex x8 t8
      have e8 := ext_lst x8 e7
      refine w_lamT ?_
      walk_at "g"
      refine ⟨s, u, v, rfl, fun hF => ?_, fun hF => ⟨true, W.x_KK, fun _ => ?_, fun h => absurd h (by decide)⟩⟩
      · walk_at "g"
        refine w_iteN (fun c => absurd hF c) (fun _ => ?_)
        walk_at "g"
        refine ⟨s, u, v, rfl, hF, fun H9 s9 => ?_⟩
        refine w_neX (scal_o _) ?_
        walk_at "g"
        exact ⟨g.sm s9, s9 _ _ e8, _, _, rfl⟩
      · walk_at "g"
        refine w_iteN (fun _ => ?_) (fun c => absurd c hF)
        walk_at "g"
        exact ⟨g, e8, _, _, rfl⟩
    rintro σ' H7 ⟨g, _, w5, w6, rfl⟩
    clear v5 v6 el hpl
    walk_at "g"
    intro pl hpl
    have el : upd H7 pl (.lst (ars.map fun g => V.str (arS g))) pl = some (.lst (ars.map fun g => V.str (arS g))) := upd_same
    replace g := g.sm (same_new hpl (.lst (ars.map fun g => V.str (arS g))))
    refine w_forL (xs := ars.map fun g => V.str (arS g)) (SqL.of el) (fun i σ Hc => Good (TQ Pl Pf) p dcs Hc ∧ Hc pl = some (.lst (ars.map fun g => V.str (arS g))) ∧ ∃ v5 v6 : Option V, σ = [some (.ref a), some (.ref d), some (vV u), some (vV v), some (.bl (decide (Fit u v))), v5, v6, v7, v8, v9, v10, v11, v12, v13, v14]) ⟨g, el, w5, w6, rfl⟩ (fun i σ Hc _ h => SqL.of h.2.1) ?_ ?_
    · rintro i x σ H8 hi ⟨g, e7, v5, v6, rfl⟩
      obtain ⟨s, hs, rfl⟩ := map_get hi
      walk_at "g"
      refine w_lamG ⟨g.tab, fun H9 x9 t9 => ?_⟩
      replace g := g.ex x9 t9
      have e9 := ext_lst x9 e7
      refine w_lamT ?_
      walk_at "g"
      refine ⟨s, u, v, rfl, hu.1, hv.1, fun hF H10 s10 => ?_, fun hF H10 s10 => ⟨true, W.x_KK, fun _ => ?_, fun h => absurd h (by decide)⟩⟩
      · replace g := g.sm s10
        have e10 := s10 _ _ e9
        walk_at "g"
        refine ⟨u, rfl, ?_⟩
        walk_at "g"
        refine ⟨v, rfl, ?_⟩
        walk_at "g"
        intro t ht
        refine w_inTxt upd_same ?_
        replace g := g.sm (same_new ht (.lst [.str (kindS u), .str (kindS v)]))
        have e11 := same_new ht (.lst [.str (kindS u), .str (kindS v)]) _ _ e10
        generalize upd H10 t (.lst [.str (kindS u), .str (kindS v)]) = H11 at g e11
        rw [hF.1, hF.2, show (false || false) = false from rfl]
        walk_at "g"
        refine ⟨s, u, v, rfl, hF.1, hF.2, hu.1, hv.1, fun H12 s12 => ?_⟩
        refine w_neX (scal_ar _ _ _) ?_
        walk_at "g"
        exact ⟨g.sm s12, s12 _ _ e11, _, _, rfl⟩
      · replace g := g.sm s10
        have e10 := s10 _ _ e9
        walk_at "g"
        refine ⟨u, rfl, ?_⟩
        walk_at "g"
        refine ⟨v, rfl, ?_⟩
        walk_at "g"
        intro t ht
        refine w_inTxt upd_same ?_
        replace g := g.sm (same_new ht (.lst [.str (kindS u), .str (kindS v)]))
        have e11 := same_new ht (.lst [.str (kindS u), .str (kindS v)]) _ _ e10
        generalize upd H10 t (.lst [.str (kindS u), .str (kindS v)]) = H11 at g e11
        rw [show (isT u || isT v) = true by rcases hF with h | h <;> rw [h] <;> cases isT _ <;> rfl]
        walk_at "g"
        exact ⟨g, e11, _, _, rfl⟩
    rintro σ' H8 ⟨g, _, v5, v6, rfl⟩
    clear w5 w6 el hpl
    walk_at "g"
    refine w_lamG ⟨g.tab, fun H9 x9 t9 => ?_⟩
    replace g := g.ex x9 t9
    clear x9 t9
    refine w_lamT ?_
    walk_at "g"
    have su : okS u := by
      cases u with
      | txt l => exact fun c hc => draw_lt ((hu.2 l rfl).2 c hc)
      | _ => trivial
    have sv : okS v := by
      cases v with
      | txt l => exact fun c hc => draw_lt ((hv.2 l rfl).2 c hc)
      | _ => trivial
    have hlen : ∀ l, u = .txt l ∨ v = .txt l → l.length ≤ 4 := fun l h => h.elim (fun h => (hu.2 l h).1) fun h => (hv.2 l h).1
    refine told_cat W.x_KK (fun l h => Nat.le_trans (hlen l h) (by decide)) fun H10 s10 => ?_
    replace g := g.sm s10
    iterate 6 walk_at "s1"
    refine w_ifG (fun y H' => y = tCat u v ∧ Good (TQ Pl Pf) p dcs H') (fun R hR => ?_) ?_
    · walk_at "g"
      refine ⟨u, rfl, ?_⟩
      walk_at "g"
      refine ⟨v, rfl, ?_⟩
      walk_at "g"
      intro t ht
      refine w_inInt upd_same ?_
      replace g := g.sm (same_new ht (.lst [.str (kindS u), .str (kindS v)]))
      generalize upd H10 t (.lst [.str (kindS u), .str (kindS v)]) = H11 at g
      walk_at "g"
      refine w_ite (fun c1 => ?_) (fun c1 => ?_)
      · walk_at "g"
        exact hR _ _ ⟨by unfold tCat; rw [if_pos c1]; rfl, g⟩
      · walk_at "g"
        intro t2 ht2
        refine w_inNon upd_same ?_
        replace g := g.sm (same_new ht2 (.lst [vV u, vV v]))
        generalize upd H11 t2 (.lst [vV u, vV v]) = H12 at g
        walk_at "g"
        have c3 : ¬ (isI u || isI v) = true := by rw [c1]; decide
        refine w_iteD (fun c2 => ?_) (fun c2 => ?_)
        · walk_at "g"
          refine hR _ _ ⟨?_, g⟩
          unfold tCat
          rw [if_neg c3]
          rcases c2 with rfl | rfl
          · cases v <;> rfl
          · cases u <;> rfl
        · cases u with
          | non => exact absurd (.inl rfl) c2
          | num n => exact absurd rfl c3
          | txt l => cases v with
            | non => exact absurd (.inr rfl) c2
            | num n => exact absurd rfl c3
            | txt l' =>
              rw [show vV (.txt l) = V.str (S l) from rfl, show vV (.txt l') = V.str (S l') from rfl]
              walk_at "g"
              refine ⟨_, _, rfl, rfl, ?_, hR _ _ ⟨?_, g⟩⟩
              · have h1 := hlen l (.inl rfl)
                have h2 := hlen l' (.inr rfl)
                rw [SX.S_len, SX.S_len]
                exact Nat.le_trans (by omega : l.length + l'.length ≤ 8) (by decide)
              exact vS_cat l l'
    rintro _ H11 ⟨rfl, g⟩
    walk_at "g"
    refine w_neX (scal_tc _ _) ?_
    walk_at "g"
    refine w_lamG ⟨g.tab, fun H12 x12 t12 => ?_⟩
    replace g := g.ex x12 t12
    clear x12 t12
    refine w_lamT ?_
    walk_at "g"
    refine told_lik W.x_KK (fun l h => Nat.le_trans (hlen l h) (by decide)) fun H13 s13 => ?_
    replace g := g.sm s13
    iterate 6 walk_at "s1"
    refine w_ifG (fun y H' => y = tLik u v ∧ Good (TQ Pl Pf) p dcs H') (fun R hR => ?_) ?_
    · walk_at "g"
      refine ⟨u, rfl, ?_⟩
      walk_at "g"
      refine ⟨v, rfl, ?_⟩
      walk_at "g"
      intro t ht
      refine w_inInt upd_same ?_
      replace g := g.sm (same_new ht (.lst [.str (kindS u), .str (kindS v)]))
      generalize upd H13 t (.lst [.str (kindS u), .str (kindS v)]) = H14 at g
      walk_at "g"
      refine w_ite (fun c1 => ?_) (fun c1 => ?_)
      · walk_at "g"
        exact hR _ _ ⟨by unfold tLik; rw [if_pos c1]; rfl, g⟩
      · walk_at "g"
        have c3 : ¬ (isI u || isI v) = true := by rw [c1]; decide
        refine ⟨by decide, u, v, rfl, (Bool.or_eq_false_iff.mp c1).1, (Bool.or_eq_false_iff.mp c1).2, fun l e => ?_, fun l e => Nat.le_trans (hlen l (.inl e)) (by decide), fun H15 s15 => ?_⟩
        · have := hlen l (.inr e)
          exact ⟨by omega, by omega⟩
        · refine hR _ _ ⟨?_, g.sm s15⟩
          unfold tLik
          rw [if_neg c3]
    rintro _ H14 ⟨rfl, g⟩
    walk_at "g"
    refine w_neX (scal_tl _ _) ?_
    walk_at "g"
    refine w_lamG ⟨g.tab, fun H15 x15 t15 => ?_⟩
    replace g := g.ex x15 t15
    clear x15 t15
    refine w_lamT ?_
    walk_at "g"
    refine told_sam W.x_KK ?_
    walk_at "g"
    refine w_eqSam ?_
    walk_at "g"
    rw [show ((!decide (Fit u v)) == decide (Fit u v)) = false by cases decide (Fit u v) <;> rfl]
    walk_at "g"
    refine ⟨u, rfl, ?_⟩
    walk_at "g"
    refine ⟨u, rfl, ?_⟩
    refine w_neX (x := .str (kindS u)) rfl ?_
    walk_at "g"
    refine ⟨u, rfl, fun p1 hp1 => ?_⟩
    have e1 : upd H15 p1 (.tup (rkV u)) p1 = some (.tup (rkV u)) := upd_same
    replace g := g.sm (same_new hp1 (.tup (rkV u)))
    generalize upd H15 p1 (.tup (rkV u)) = H16 at e1 g
    walk_at "g"
    refine ⟨u, rfl, fun p2 hp2 => ?_⟩
    have e2 : upd H16 p2 (.tup (rkV u)) p2 = some (.tup (rkV u)) := upd_same
    replace e1 := same_new hp2 (.tup (rkV u)) _ _ e1
    replace g := g.sm (same_new hp2 (.tup (rkV u)))
    generalize upd H16 p2 (.tup (rkV u)) = H17 at e1 e2 g
    refine w_neFine (rk_dp e1) (rk_dp e2) (rk_fine su) (by decide) ?_
    clear e1 e2 hp1 hp2
    walk_at "g"
    intro t ht
    have et : upd H17 t (.tup [vV u, vV v]) t = some (.tup ([u, v].map vV)) := upd_same
    replace g := g.sm (same_new ht (.tup [vV u, vV v]))
    generalize upd H17 t (.tup [vV u, vV v]) = H18 at et g
    walk_at "g"
    refine ⟨t, [u, v], rfl, et, by show 2 ≤ 10; decide, fun H19 r as s19 _ er la hk => ?_⟩
    replace g := g.sm s19
    obtain ⟨x1, x2, rfl⟩ : ∃ x1 x2, as = [x1, x2] := by
      match as, la with
      | [x1, x2], _ => exact ⟨x1, x2, rfl⟩
    have k1 := hk 0 x1 u rfl rfl
    have k2 := hk 1 x2 v rfl rfl
    clear hk la et ht
    walk_at "g"
    refine ⟨u, rfl, fun p3 hp3 => ?_⟩
    have e3 : upd H19 p3 (.tup (rkV u)) p3 = some (.tup (rkV u)) := upd_same
    have sn := same_new hp3 (.tup (rkV u))
    replace er := sn _ _ er
    replace k1 := sn _ _ k1
    replace k2 := sn _ _ k2
    replace g := g.sm sn
    generalize upd H19 p3 (.tup (rkV u)) = H20 at e3 g er k1 k2
    clear sn hp3
    walk_at "g"
    refine ⟨v, rfl, fun p4 hp4 => ?_⟩
    have e4 : upd H20 p4 (.tup (rkV v)) p4 = some (.tup (rkV v)) := upd_same
    have sn := same_new hp4 (.tup (rkV v))
    replace er := sn _ _ er
    replace k1 := sn _ _ k1
    replace k2 := sn _ _ k2
    replace e3 := sn _ _ e3
    replace g := g.sm sn
    generalize upd H20 p4 (.tup (rkV v)) = H21 at e3 e4 g er k1 k2
    clear sn hp4
    walk_at "g"
    intro t2 ht2
    have e5 : upd H21 t2 (.tup [.ref p3, .ref p4]) t2 = some (.tup [.ref p3, .ref p4]) := upd_same
    have sn := same_new ht2 (.tup [.ref p3, .ref p4])
    replace er := sn _ _ er
    replace k1 := sn _ _ k1
    replace k2 := sn _ _ k2
    replace e3 := sn _ _ e3
    replace e4 := sn _ _ e4
    replace g := g.sm sn
    generalize upd H21 t2 (.tup [.ref p3, .ref p4]) = H22 at e3 e4 e5 g er k1 k2
    clear sn ht2
    refine w_neFine (d := .tuple [rkD u, rkD v]) (k := 2) (.tup (SqT.of er) (.cons (rk_dp k1) (.cons (rk_dp k2) .nil))) (.tup (SqT.of e5) (.cons (rk_dp e3) (.cons (rk_dp e4) .nil))) (Fine.tup fun d hd => ?_) (by decide) ?_
    · rcases List.mem_cons.mp hd with rfl | hd
      · exact rk_fine su
      · rw [List.mem_singleton.mp hd]; exact rk_fine sv
    clear er k1 k2 e3 e4 e5 s19 s13 s10 hds
    walk_at "g"
    have d22 := g.dice d hd
    refine w_lcRp ⟨by decide, by decide⟩ fun D hD => ?_
    obtain ⟨k3, _, d3, nD, fD, eD⟩ := newl (o := .lst []) (Kp.refl d H22) d22 hD rfl
    refine ⟨fun i H' => ∃ l : List (Option Bool), l.length = i ∧ H' D = some (.lst (l.map oV)) ∧ Kp d H22 H' ∧ Dice H' d, ⟨[], rfl, eD, k3, d3⟩, ?_, ?_⟩
    · rintro i H6 hi ⟨l, rfl, e6, k6, d6⟩
      walk_at "g"
      refine ⟨rfl, ?_⟩
      walk_at "g"
      intro t ht
      obtain ⟨k7, k7', d7, n7, f7, e7⟩ := newl (o := .lst [.bl true, .bl false, .non]) k6 d6 ht rfl
      have eD7 := k7' _ _ nD e6
      generalize upd H6 t (.lst [.bl true, .bl false, .non]) = H7 at k7 d7 e7 eD7 ⊢
      walk_at "g"
      refine w_roll (by decide) (by decide) k7 d7 fun j H8 j0 j1 k8 k8' d8 => ?_
      have e8 := k8' _ _ n7 e7
      have eD8 := k8' _ _ nD eD7
      obtain ⟨j, rfl⟩ := Int.eq_ofNat_of_zero_le j0
      have hj : j = 0 ∨ j = 1 ∨ j = 2 := by omega
      obtain ⟨b, hb⟩ : ∃ b : Option Bool, atI [.bl true, .bl false, V.non] (j : Int) = some (oV b) := by
        rcases hj with rfl | rfl | rfl
        · exact ⟨some true, rfl⟩
        · exact ⟨some false, rfl⟩
        · exact ⟨none, rfl⟩
      refine w_ixL e8 hb ?_
      exact ⟨_, eD8, by rw [List.length_map]; exact Nat.lt_of_lt_of_le (by omega : l.length < 1000) (by decide), l ++ [b], by rw [List.length_append]; rfl, by rw [upd_same, List.map_append]; rfl, Gk.Kp.wr k8 fD, Gk.Dice.wr d8 nD⟩
    rintro H23 ⟨l, hl, e6, k6, d6⟩
    obtain ⟨x, y, rfl⟩ : ∃ x y, l = [x, y] := by
      match l, hl with
      | [x, y], _ => exact ⟨x, y, rfl⟩
    replace g := g.kp hd k6 d6
    clear hl k6 d6 k3 d3 nD fD eD hD d22
    walk_at "g"
    refine ⟨x, y, rfl, ?_⟩
    walk_at "g"
    refine ⟨x, y, rfl, ?_⟩
    refine w_neO _ ?_
    walk_at "g"
    refine ⟨x, rfl, ?_⟩
    walk_at "g"
    refine ⟨x, rfl, ?_⟩
    refine w_neO _ ?_
    walk_at "g"
    refine ⟨x, y, rfl, ?_⟩
    walk_at "g"
    refine ⟨x, rfl, ?_⟩
    walk_at "g"
    refine ⟨y, rfl, ?_⟩
    walk_at "g"
    refine ⟨_, _, rfl, ?_⟩
    walk_at "g"
    refine ⟨_, rfl, ?_⟩
    rw [show not3 (and3 (not3 x) (not3 y)) = or3 x y by rcases x with _ | _ | _ <;> rcases y with _ | _ | _ <;> rfl]
    refine w_neO _ ?_
    clear e6
    walk_at "g"
    have d23 := g.dice d hd
    refine w_roll (by decide) (by decide) (Kp.refl d H23) d23 fun m H24 m0 m1 k24 _ d24 => ?_
    walk_at "g"
    refine w_lcRp ⟨m0, by omega⟩ fun aV hV => ?_
    obtain ⟨k3, _, d3, nD, fD, eD⟩ := newl (o := .lst []) k24 d24 hV rfl
    refine ⟨fun i H' => ∃ l : List RV, l.length = i ∧ (∀ v ∈ l, okD v) ∧ H' aV = some (.lst (l.map vV)) ∧ Kp d H23 H' ∧ Dice H' d, ⟨[], rfl, (fun c hc => absurd hc List.not_mem_nil), eD, k3, d3⟩, ?_, ?_⟩
    · rintro i H6 hi ⟨l, rfl, hl, e6, k6, d6⟩
      walk_at "g"
      refine ⟨rfl, ?_⟩
      walk_at "g"
      refine ⟨d, rfl, d6, fun z H7 hz k7 d7 => ?_⟩
      refine ⟨_, k7 _ _ nD e6, by rw [List.length_map]; exact Nat.lt_of_lt_of_le (by omega : l.length < 1000) (by decide), l ++ [z], by rw [List.length_append]; rfl, fun c hc => ?_, by rw [upd_same, List.map_append]; rfl, Gk.Kp.wr (k6.trans k7) fD, Gk.Dice.wr d7 nD⟩
      rcases List.mem_append.mp hc with hc | hc
      · exact hl c hc
      · rw [List.mem_singleton.mp hc]; exact hz
    rintro H25 ⟨l, hll, hl, eV, k6, d6⟩
    replace g := g.kp hd k6 d6
    clear k6 d6 k3 d3 nD fD eD hV d23 k24 d24
    have hl9 : l.length ≤ 20 := by omega
    walk_at "g"
    refine w_lcLn (SqL.of eV) fun aN hN => ⟨fun i H2 => Same H25 H2 ∧ H2 aN = some (.lst ((nt (l.take i)).map vV)), ⟨same_new hN _, upd_same⟩, fun i H2 _ ⟨s2, _⟩ => SqL.of (s2 _ _ eV), ?_, ?_⟩
    · rintro i x H2 hi ⟨s2, eD⟩
      obtain ⟨y, hy, rfl⟩ := vv_at hi
      have hil := (List.getElem?_eq_some_iff.mp hy).1
      have ek := nt_snoc (l.take i) y
      have et : l.take (i + 1) = l.take i ++ [y] := by rw [List.take_add_one, hy]; rfl
      walk_at "g"
      refine ⟨rfl, ?_⟩
      walk_at "g"
      refine ⟨y, rfl, ?_⟩
      walk_at "g"
      refine w_iteN (fun c1 => ?_) (fun c1 => ?_)
      · have c2 : isT y = false := by
          cases e : isT y with
          | false => rfl
          | true => exact absurd (kind_tl e) c1
        walk_at "g"
        refine ⟨_, eD, Nat.lt_of_le_of_lt (by rw [List.length_map]; exact List.length_filter_le _ _) (Nat.lt_of_le_of_lt (Nat.le_trans (List.length_take_le _ _) (Nat.le_of_lt hil)) (Nat.lt_of_le_of_lt hl9 (by decide))), up_same0 s2 hN, ?_⟩
        rw [upd_same, et, ek, if_pos (by rw [c2]; rfl), List.map_append]
        rfl
      · refine ⟨s2, ?_⟩
        rw [et, ek, if_neg (by rw [(kind_t y).mp (str_tl c1)]; decide)]
        exact eD
    rintro H26 ⟨s26, eN⟩
    rw [List.length_map, List.take_length] at eN
    replace g := g.sm s26
    replace eV := s26 _ _ eV
    clear s26 hN
    have hT0 := nt_T l
    have hn9 : (nt l).length ≤ 20 := Nat.le_trans (List.length_filter_le _ _) hl9
    walk_at "g"
    refine w_lcLn (SqL.of eN) fun aK hK => ⟨fun i H2 => Same H26 H2 ∧ H2 aK = some (.lst ((kn ((nt l).take i)).map vV)), ⟨same_new hK _, upd_same⟩, fun i H2 _ ⟨s2, _⟩ => SqL.of (s2 _ _ eN), ?_, ?_⟩
    · rintro i x H2 hi ⟨s2, eD⟩
      obtain ⟨y, hy, rfl⟩ := vv_at hi
      have hil := (List.getElem?_eq_some_iff.mp hy).1
      have ek := kn_snoc ((nt l).take i) y
      have et : (nt l).take (i + 1) = (nt l).take i ++ [y] := by rw [List.take_add_one, hy]; rfl
      walk_at "g"
      refine ⟨rfl, ?_⟩
      walk_at "g"
      refine w_iteN (fun c1 => ?_) (fun c1 => ?_)
      · walk_at "g"
        refine ⟨_, eD, Nat.lt_of_le_of_lt (by rw [List.length_map]; exact kn_len _) (Nat.lt_of_le_of_lt (Nat.le_trans (List.length_take_le _ _) (Nat.le_of_lt hil)) (Nat.lt_of_le_of_lt hn9 (by decide))), up_same0 s2 hK, ?_⟩
        rw [upd_same, et, ek, if_pos (by simp [c1]), List.map_append]
        rfl
      · refine ⟨s2, ?_⟩
        rw [et, ek, if_neg (by simp [c1])]
        exact eD
    rintro H27 ⟨s27, eK⟩
    rw [List.length_map, List.take_length, kn_nums hT0] at eK
    replace g := g.sm s27
    replace eV := s27 _ _ eV
    replace eN := s27 _ _ eN
    clear s27 hK
    iterate 3 walk_at "s1"
    refine w_ifG (fun y H' => y = iV (sumO (nt l)) ∧ Same H27 H') (fun R hR => ?_) ?_
    · walk_at "g"
      intro p0 hp0
      have nN : aK ≠ p0 := ne_of_none eK hp0
      have sp := same_new hp0 (.lst [])
      refine w_eqNilD (by rw [upd_ne nN]; exact eK) upd_same ?_
      have eK2 : upd H27 p0 (.lst []) aK = some (.lst ((nums (nt l)).map V.int)) := by rw [upd_ne nN]; exact eK
      generalize upd H27 p0 (.lst []) = H28 at sp eK2 ⊢
      walk_at "g"
      refine w_iteD (fun c1 => ?_) (fun c1 => ?_)
      · walk_at "g"
        exact hR _ _ ⟨by unfold sumO; rw [if_pos c1]; rfl, sp⟩
      · walk_at "g"
        refine ⟨aK, nums (nt l), rfl, .inl (SqL.of eK2), ?_⟩
        refine ⟨_, rfl, ?_⟩
        walk_at "g"
        refine w_iteD (fun c2 => ?_) (fun c2 => ?_)
        · walk_at "g"
          refine hR _ _ ⟨?_, sp⟩
          unfold sumO HI
          rw [if_neg c1, if_neg (fun z => by split at c2 <;> omega)]
          rfl
        · walk_at "g"
          refine ⟨aK, nums (nt l), rfl, .inl (SqL.of eK2), ?_⟩
          refine hR _ _ ⟨?_, sp⟩
          unfold sumO HI
          rw [if_neg c1, if_pos (by split at c2 <;> omega)]
          rfl
    rintro _ H28 ⟨rfl, s28⟩
    replace g := g.sm s28
    replace eV := s28 _ _ eV
    replace eN := s28 _ _ eN
    replace eK := s28 _ _ eK
    clear s28
    obtain ⟨xl, hxl⟩ := lst_ex false (nums (nt l))
    obtain ⟨xg, hxg⟩ := lst_ex true (nums (nt l))
    walk_at "g"
    refine ⟨aN, nt l, rfl, eN, hn9, g.tab, fun z => ?_, fun _ H29 x29 t29 => ?_⟩
    · obtain ⟨v, hv, e⟩ := List.any_eq_true.mp z
      rw [hT0 v hv] at e
      cases e
    replace g := g.ex x29 t29
    replace eV := ext_lst x29 eV
    replace eN := ext_lst x29 eN
    replace eK := ext_lst x29 eK
    clear x29 t29
    rw [sumO_eq]
    walk_at "g"
    refine w_neI _ ?_
    walk_at "g"
    refine told_least hxl eN hn9 hT0 fun H30 s30 => ?_
    replace g := g.sm s30
    replace eV := s30 _ _ eV
    replace eN := s30 _ _ eN
    replace eK := s30 _ _ eK
    clear s30
    refine w_ifG (fun y H' => y = iV xl ∧ Same H30 H') (fun R hR => ?_) ?_
    · walk_at "g"
      intro p0 hp0
      have nN : aK ≠ p0 := ne_of_none eK hp0
      have sp := same_new hp0 (.lst [])
      refine w_neNilD (by rw [upd_ne nN]; exact eK) upd_same ?_
      have eK2 : upd H30 p0 (.lst []) aK = some (.lst ((nums (nt l)).map V.int)) := by rw [upd_ne nN]; exact eK
      generalize upd H30 p0 (.lst []) = H31 at sp eK2 ⊢
      walk_at "g"
      refine w_iteN (fun c1 => ?_) (fun c1 => ?_)
      · walk_at "g"
        refine ⟨aK, nums (nt l), rfl, SqL.of eK2, List.length_pos_iff.mpr c1, fun m hm hk => ?_⟩
        exact hR _ _ ⟨(hxl.uniq c1 hm (fun k h => by rw [if_neg Bool.false_ne_true]; exact hk k h)).symm, sp⟩
      · walk_at "g"
        exact hR _ _ ⟨by rw [hxl.1 c1]; rfl, sp⟩
    rintro _ H31 ⟨rfl, s31⟩
    replace g := g.sm s31
    replace eV := s31 _ _ eV
    replace eN := s31 _ _ eN
    replace eK := s31 _ _ eK
    clear s31
    refine w_neI _ ?_
    walk_at "g"
    refine told_least hxg eN hn9 hT0 fun H32 s32 => ?_
    replace g := g.sm s32
    replace eV := s32 _ _ eV
    replace eN := s32 _ _ eN
    replace eK := s32 _ _ eK
    clear s32
    refine w_ifG (fun y H' => y = iV xg ∧ Same H32 H') (fun R hR => ?_) ?_
    · walk_at "g"
      intro p0 hp0
      have nN : aK ≠ p0 := ne_of_none eK hp0
      have sp := same_new hp0 (.lst [])
      refine w_neNilD (by rw [upd_ne nN]; exact eK) upd_same ?_
      have eK2 : upd H32 p0 (.lst []) aK = some (.lst ((nums (nt l)).map V.int)) := by rw [upd_ne nN]; exact eK
      generalize upd H32 p0 (.lst []) = H31 at sp eK2 ⊢
      walk_at "g"
      refine w_iteN (fun c1 => ?_) (fun c1 => ?_)
      · walk_at "g"
        refine ⟨aK, nums (nt l), rfl, SqL.of eK2, List.length_pos_iff.mpr c1, fun m hm hk => ?_⟩
        exact hR _ _ ⟨(hxg.uniq c1 hm (fun k h => by rw [if_pos rfl]; exact hk k h)).symm, sp⟩
      · walk_at "g"
        exact hR _ _ ⟨by rw [hxg.1 c1]; rfl, sp⟩
    rintro _ H33 ⟨rfl, s33⟩
    replace g := g.sm s33
    replace eV := s33 _ _ eV
    replace eN := s33 _ _ eN
    replace eK := s33 _ _ eK
    clear s33
    refine w_neX (scal_i _) ?_
    iterate 4 walk_at "s1"
    refine w_ttG (fun b H' => b = false ∧ Good (TQ Pl Pf) p dcs H') (fun R hR => ?_) ?_
    · walk_at "g"
      refine ⟨aK, _, rfl, .inl (SqL.of eK), ?_⟩
      rw [List.length_map]
      walk_at "g"
      refine w_lcLn (SqL.of eV) fun aM hM => ⟨fun i H2 => Same H33 H2 ∧ H2 aM = some (.lst ((kn (l.take i)).map vV)), ⟨same_new hM _, upd_same⟩, fun i H2 _ ⟨s2, _⟩ => SqL.of (s2 _ _ eV), ?_, ?_⟩
      · rintro i x H2 hi ⟨s2, eD⟩
        obtain ⟨y, hy, rfl⟩ := vv_at hi
        have hil := (List.getElem?_eq_some_iff.mp hy).1
        have ek := kn_snoc (l.take i) y
        have et : l.take (i + 1) = l.take i ++ [y] := by rw [List.take_add_one, hy]; rfl
        walk_at "g"
        refine ⟨rfl, ?_⟩
        walk_at "g"
        refine w_iteN (fun c1 => ?_) (fun c1 => ?_)
        · walk_at "g"
          refine ⟨_, eD, Nat.lt_of_le_of_lt (by rw [List.length_map]; exact kn_len _) (Nat.lt_of_le_of_lt (Nat.le_trans (List.length_take_le _ _) (Nat.le_of_lt hil)) (Nat.lt_of_le_of_lt hl9 (by decide))), up_same0 s2 hM, ?_⟩
          rw [upd_same, et, ek, if_pos (by simp [c1]), List.map_append]
          rfl
        · refine ⟨s2, ?_⟩
          rw [et, ek, if_neg (by simp [c1])]
          exact eD
      rintro H34 ⟨s34, eM⟩
      rw [List.length_map, List.take_length] at eM
      replace g := g.sm s34
      replace eV := s34 _ _ eV
      replace eK := s34 _ _ eK
      clear s34 hM
      walk_at "g"
      refine ⟨aM, _, rfl, .inl (SqL.of eM), ?_⟩
      rw [List.length_map]
      walk_at "g"
      refine w_iteD (fun c1 => ?_) (fun c1 => ?_)
      rotate_left
      · exact hR _ _ ⟨rfl, g⟩
      have hany : l.any isT = true := by
        cases e : l.any isT with
        | true => rfl
        | false =>
          have e1 := nt_all e
          have e2 := congrArg List.length (kn_nums (l := nt l) hT0)
          rw [List.length_map, List.length_map, e1] at e2
          rw [e1] at c1
          omega
      walk_at "g"
      refine w_lamG ⟨g.tab, fun H35 x35 t35 => ?_⟩
      replace g := g.ex x35 t35
      replace eV := ext_lst x35 eV
      refine w_lamT ?_
      walk_at "g"
      refine ⟨aV, l, rfl, eV, hl9, g.tab, fun _ H36 x36 t36 => ⟨true, W.x_KK, fun _ => ?_, fun h => absurd h (by decide)⟩, fun z => ?_⟩
      · replace g := g.ex x36 t36
        walk_at "g"
        exact hR _ _ ⟨rfl, g⟩
      · rw [hany] at z
        cases z
    rintro _ H35 ⟨rfl, g⟩
    clear eV eN eK
    walk_at "g"
    refine ⟨u, rfl, fun l h => Nat.le_trans (hu.2 l h).1 (by decide), hu.1, ?_⟩
    walk_at "g"
    refine ⟨u, rfl, hu.1, fun l h => ⟨Nat.le_trans (hu.2 l h).1 (by decide), fun c hc => draw_al ((hu.2 l h).2 c hc)⟩, fun H36 t s36 et => ?_⟩
    replace g := g.sm s36
    walk_at "g"
    refine w_iteD (fun c1 => ?_) (fun c1 => ?_)
    · subst c1
      walk_at "g"
      intro t2 h2
      have s37 := same_new h2 (.tup [.str (Str.ofString "null")])
      refine w_neFine (tree_dp (s37 _ _ et)) (tree_dp (v := .non) upd_same) (tree_fine su) (by decide) ?_
      walk_at "g"
      exact ⟨g.sm s37, _, _, _, _, _, _, _, _, _, _, _, _, _, _, rfl⟩
    · cases u with
      | non => exact absurd rfl c1
      | txt z =>
        rw [show vV (.txt z) = V.str (S z) from rfl]
        walk_at "g"
        intro t2 h2
        have s37 := same_new h2 (.tup (treeV (.txt z)))
        refine w_neFine (tree_dp (s37 _ _ et)) (tree_dp (v := .txt z) upd_same) (tree_fine su) (by decide) ?_
        walk_at "g"
        exact ⟨g.sm s37, _, _, _, _, _, _, _, _, _, _, _, _, _, _, rfl⟩
      | num z =>
        rw [show vV (.num z) = V.int z from rfl]
        walk_at "g"
        intro t2 h2
        have s37 := same_new h2 (.tup (treeV (.num z)))
        refine w_neFine (tree_dp (s37 _ _ et)) (tree_dp (v := .num z) upd_same) (tree_fine su) (by decide) ?_
        walk_at "g"
        exact ⟨g.sm s37, _, _, _, _, _, _, _, _, _, _, _, _, _, _, rfl⟩
  · rintro σ Hc ⟨g, v1, v2, v3, v4, v5, v6, v7, v8, v9, v10, v11, v12, v13, v14, rfl⟩
    walk_at "g"
    refine ⟨[105, 116, 39, 115], rfl, by decide, ?_⟩
    rw [show S (39 :: (StrLaws.dbl 39 [105, 116, 39, 115] ++ [39])) = Str.ofString "'it''s'" from by decide +kernel]
    walk_at "g"
    refine ⟨9223372036854775808, rfl, ?_⟩
    rw [show inR 9223372036854775808 = V.non from rfl]
    walk_at "g"
    refine ⟨0 - 5, rfl, ?_⟩
    rw [show inR (0 - 5) = V.int (0 - 5) from rfl]
    walk_at "g"
    refine w_iteN (fun c => absurd rfl c) (fun _ => ?_)
    walk_at "g"
    intro t0 ht0
    have e0 : upd Hc t0 (.lst [.int 0]) t0 = some (.lst ([0].map nI)) := upd_same
    generalize upd Hc t0 (.lst [.int 0]) = H1 at e0 ⊢
    walk_at "g"
    refine ⟨t0, [0], [42, 42, 97], rfl, e0, by decide, by simp, fun H2 r s2 _ er => ?_⟩
    rw [show lst (clo [42, 42, 97] fun q => decide (q ∈ [0])) [42, 42, 97].length = [0, 1, 2] from by decide +kernel] at er
    walk_at "g"
    intro t1 ht1
    refine w_eqFine (d := .list [.int 0, .int 1, .int 2]) (k := 1) (.lst (SqL.of (same_new ht1 _ _ _ er)) (dp_ints [0, 1, 2])) (.lst (SqL.of upd_same) (dp_ints [0, 1, 2])) (fine_is [0, 1, 2]) (by decide) ?_
    generalize upd H2 t1 (.lst [.int 0, .int 1, .int 2]) = H3
    walk_at "g"
    intro t2 ht2
    have e2 : upd H3 t2 (.lst [.int 0, .int 1]) t2 = some (.lst ([0, 1].map nI)) := upd_same
    generalize upd H3 t2 (.lst [.int 0, .int 1]) = H4 at e2 ⊢
    walk_at "g"
    refine ⟨t2, [0, 1], [42, 95], 98, rfl, e2, by decide, by simp, fun H5 r s5 _ er => ?_⟩
    rw [show lst (stp [42, 95] 98 fun q => decide (q ∈ [0, 1])) [42, 95].length = [0, 2] from by decide +kernel] at er
    walk_at "g"
    intro t3 ht3
    refine w_eqFine (d := .list [.int 0, .int 2]) (k := 1) (.lst (SqL.of (same_new ht3 _ _ _ er)) (dp_ints [0, 2])) (.lst (SqL.of upd_same) (dp_ints [0, 2])) (fine_is [0, 2]) (by decide) ?_
    exact q _
end
end K04
end

section
-- part K04T
set_option Elab.async false
set_option linter.all false
set_option maxRecDepth 100000
set_option maxHeartbeats 2000000
/-! K04T: the top's dicts and tuples, as Bools -/
namespace K04
open PySem PySem.Spec PyProof.Rows L2 Fw
abbrev adK (K : PySem.W.Frag) : Ad := ⟨He.ga K "QueryReader", He.ga K "LOGIC", He.ga K "ARITHMETIC", He.ga K "LITERALS", He.ga K "COMPARISONS"⟩
theorem wk_of {K : PySem.W.Frag} {w : World} (A : ∃ es n, KDict K w (He.ga K "LOGIC") es n) (B : ∃ es n, KDict K w (He.ga K "ARITHMETIC") es n) (C : ∃ es n, KDict K w (He.ga K "LITERALS") es n) (h : exDi K = true) : Wk K w (adK K) := by
  obtain ⟨h1, h⟩ := He.ba h
  obtain ⟨h2, h⟩ := He.ba h
  obtain ⟨h3, h4⟩ := He.ba h
  exact ⟨A, B, C, He.eqO_ok h1, He.eqO_ok h2, kStr_ok h3, kStr_ok h4⟩
theorem tK_eq : tK0 = Lx.KW := by decide +kernel
theorem q_long {K : PySem.W.Frag} (h : exTu K = true) (H : Hp) : SqT K H (He.ga K "LONG_SIGNS") (Lx.LONG.map fun l => V.str (S l)) := tupB_ok (He.ba h).1 H
theorem q_short {K : PySem.W.Frag} (h : exTu K = true) (H : Hp) : SqT K H (He.ga K "SHORT_SIGNS") (Lx.SHORT.map fun l => V.str (S l)) := tupB_ok (He.ba (He.ba h).2).1 H
theorem q_kw {K : PySem.W.Frag} (h : exTu K = true) (H : Hp) : SqT K H (He.ga K "KEYWORDS") (Lx.KW.map fun l => V.str (S l)) := by
  rw [← tK_eq]
  exact tupB_ok (He.ba (He.ba (He.ba h).2).2).1 H
theorem q_cm {K : PySem.W.Frag} (h : exTu K = true) (H : Hp) : SqT K H (He.ga K "COMPARISONS") ([[61], [60, 62], [60], [60, 61], [62], [62, 61]].map fun l : List Nat => V.str (S l)) := tupB_ok (He.ba (He.ba (He.ba h).2).2).2 H
theorem ne_ok {K : PySem.W.Frag} (h : exNe K = true) : He.ga K "Token" ≠ He.ga K "QueryReader" := of_decide_eq_true h
end K04
end

section
-- part K04XI
set_option Elab.async false
set_option linter.all false
set_option maxRecDepth 100000
set_option maxHeartbeats 2000000
namespace K04
open PySem PySem.Spec PyProof.Rows L2 Fw LamX Dc Lx Gk M24 M5 M04

theorem facts {w : World} {K : PySem.W.Frag} {h : Heap} {mg : Str → Option Value} (X : K.In h) (G : h.Ns mainGlobals mg) (c : He.SaysX faD fnD [((fun K => He.ga K "LOGIC"), [("or" : Str) , ("and" : Str)]), ((fun K => He.ga K "ARITHMETIC"), [("+" : Str) , ("-" : Str) , ("||" : Str) , ("*" : Str) , ("/" : Str) , ("mod" : Str)]), ((fun K => He.ga K "LITERALS"), [("int" : Str) , ("quoted" : Str)])] tfD exD w h K) :
    Wz K mg (He.ga K "TextError") (He.ga K "Token") (He.ga K "LONG_SIGNS") (He.ga K "SHORT_SIGNS") (He.ga K "KEYWORDS") (He.ga K "KindFault") (adK K) := by
  have d := c.t.d
  have glo : ∀ {x : Str}, (He.Fa.glo x).ok K = true → mg x = some (.ref (He.ga K x)) := fun h => He.glo_ok X G h
  have fre : ∀ {x : Str}, (He.Fa.free x).ok K = true → mg x = none := fun h => He.free_ok X G h
  have st : ∀ {x : Str} {l : List Nat}, (He.Fa.str x (S l)).ok K = true → Ct mg x l := fun h => by
    obtain ⟨t, e⟩ := He.str_ok X G h
    exact ⟨_, e, t, rfl⟩
  have it : ∀ {x : Str} {n : Int}, (He.Fa.int x n).ok K = true → Cin mg x n := fun h => by
    obtain ⟨t, e⟩ := He.int_ok X G h
    exact ⟨_, e, t, rfl⟩
  obtain ⟨xe1TextError, xe2TextError, xe3TextError, xe4TextError⟩ := He.exc_ok (d.fact 111 (f := .exc "TextError") rfl)
  obtain ⟨xe1KindFault, xe2KindFault, xe3KindFault, xe4KindFault⟩ := He.exc_ok (d.fact 112 (f := .exc "KindFault") rfl)

  have hx := c.more
  unfold exD at hx
  obtain ⟨hx0, hx⟩ := He.ba hx
  obtain ⟨hx1, hx⟩ := He.ba hx
  obtain ⟨hx2, hx⟩ := He.ba hx
  have hx3 := hx
  exact {
    r_cl := He.cls_ok (d.fact 90 (f := .cls "QueryReader") rfl)
    r_tokens := He.noat_ok (d.fact 91 (f := .noat "QueryReader" "tokens") rfl)
    r_place := He.noat_ok (d.fact 92 (f := .noat "QueryReader" "place") rfl)
    r_opened := He.noat_ok (d.fact 93 (f := .noat "QueryReader" "opened") rfl)
    r_closers := He.noat_ok (d.fact 94 (f := .noat "QueryReader" "closers") rfl)
    r_wrapped := He.noat_ok (d.fact 95 (f := .noat "QueryReader" "wrapped") rfl)
    r_g := glo (d.fact 45 (f := .glo "QueryReader") rfl)
    r_i := by
      obtain ⟨fd, q⟩ := d.def_ 45 (d := ⟨("QueryReader", some "__init__"), "__init__", "Reader.__init__", defArgs s_Reader___init__, defBody s_Reader___init__, defScope s_Reader___init__, [], []⟩) rfl
      exact ⟨_, fd, q, He.mkr_ok (d.fact 110 (f := .mkr "QueryReader") rfl)⟩
    r_word_at := by
      obtain ⟨fd, q⟩ := d.def_ 46 (d := ⟨("QueryReader", some "word_at"), "word_at", "Reader.word_at", defArgs s_Reader_word_at, defBody s_Reader_word_at, defScope s_Reader_word_at, [], []⟩) rfl
      exact ⟨_, fd, q, He.meth_ok (d.fact 96 (f := .meth "QueryReader" "word_at") rfl)⟩
    r_ahead := by
      obtain ⟨fd, q⟩ := d.def_ 47 (d := ⟨("QueryReader", some "ahead"), "ahead", "Reader.ahead", defArgs s_Reader_ahead, defBody s_Reader_ahead, defScope s_Reader_ahead, [.int 0], []⟩) rfl
      exact ⟨_, fd, q, He.meth_ok (d.fact 97 (f := .meth "QueryReader" "ahead") rfl)⟩
    r_taken := by
      obtain ⟨fd, q⟩ := d.def_ 48 (d := ⟨("QueryReader", some "taken"), "taken", "Reader.taken", defArgs s_Reader_taken, defBody s_Reader_taken, defScope s_Reader_taken, [], []⟩) rfl
      exact ⟨_, fd, q, He.meth_ok (d.fact 98 (f := .meth "QueryReader" "taken") rfl)⟩
    r_take := by
      obtain ⟨fd, q⟩ := d.def_ 49 (d := ⟨("QueryReader", some "take"), "take", "Reader.take", defArgs s_Reader_take, defBody s_Reader_take, defScope s_Reader_take, [], []⟩) rfl
      exact ⟨_, fd, q, He.meth_ok (d.fact 99 (f := .meth "QueryReader" "take") rfl)⟩
    r_finish := by
      obtain ⟨fd, q⟩ := d.def_ 50 (d := ⟨("QueryReader", some "finish"), "finish", "Reader.finish", defArgs s_Reader_finish, defBody s_Reader_finish, defScope s_Reader_finish, [], []⟩) rfl
      exact ⟨_, fd, q, He.meth_ok (d.fact 100 (f := .meth "QueryReader" "finish") rfl)⟩
    r_enter := by
      obtain ⟨fd, q⟩ := d.def_ 51 (d := ⟨("QueryReader", some "enter"), "enter", "Reader.enter", defArgs s_Reader_enter, defBody s_Reader_enter, defScope s_Reader_enter, [], []⟩) rfl
      exact ⟨_, fd, q, He.meth_ok (d.fact 101 (f := .meth "QueryReader" "enter") rfl)⟩
    r_leave := by
      obtain ⟨fd, q⟩ := d.def_ 52 (d := ⟨("QueryReader", some "leave"), "leave", "Reader.leave", defArgs s_Reader_leave, defBody s_Reader_leave, defScope s_Reader_leave, [], []⟩) rfl
      exact ⟨_, fd, q, He.meth_ok (d.fact 102 (f := .meth "QueryReader" "leave") rfl)⟩
    r_expression := by
      obtain ⟨fd, q⟩ := d.def_ 53 (d := ⟨("QueryReader", some "expression"), "expression", "QueryReader.expression", defArgs s_QueryReader_expression, defBody s_QueryReader_expression, defScope s_QueryReader_expression, [], []⟩) rfl
      exact ⟨_, fd, q, He.meth_ok (d.fact 103 (f := .meth "QueryReader" "expression") rfl)⟩
    r_condition := by
      obtain ⟨fd, q⟩ := d.def_ 54 (d := ⟨("QueryReader", some "condition"), "condition", "QueryReader.condition", defArgs s_QueryReader_condition, defBody s_QueryReader_condition, defScope s_QueryReader_condition, [], []⟩) rfl
      exact ⟨_, fd, q, He.meth_ok (d.fact 104 (f := .meth "QueryReader" "condition") rfl)⟩
    r_comparison := by
      obtain ⟨fd, q⟩ := d.def_ 55 (d := ⟨("QueryReader", some "comparison"), "comparison", "QueryReader.comparison", defArgs s_QueryReader_comparison, defBody s_QueryReader_comparison, defScope s_QueryReader_comparison, [], []⟩) rfl
      exact ⟨_, fd, q, He.meth_ok (d.fact 105 (f := .meth "QueryReader" "comparison") rfl)⟩
    r_amount := by
      obtain ⟨fd, q⟩ := d.def_ 56 (d := ⟨("QueryReader", some "amount"), "amount", "QueryReader.amount", defArgs s_QueryReader_amount, defBody s_QueryReader_amount, defScope s_QueryReader_amount, [], []⟩) rfl
      exact ⟨_, fd, q, He.meth_ok (d.fact 106 (f := .meth "QueryReader" "amount") rfl)⟩
    r_operand := by
      obtain ⟨fd, q⟩ := d.def_ 57 (d := ⟨("QueryReader", some "operand"), "operand", "QueryReader.operand", defArgs s_QueryReader_operand, defBody s_QueryReader_operand, defScope s_QueryReader_operand, [], []⟩) rfl
      exact ⟨_, fd, q, He.meth_ok (d.fact 107 (f := .meth "QueryReader" "operand") rfl)⟩
    r_minus := by
      obtain ⟨fd, q⟩ := d.def_ 58 (d := ⟨("QueryReader", some "minus"), "minus", "QueryReader.minus", defArgs s_QueryReader_minus, defBody s_QueryReader_minus, defScope s_QueryReader_minus, [], []⟩) rfl
      exact ⟨_, fd, q, He.meth_ok (d.fact 108 (f := .meth "QueryReader" "minus") rfl)⟩
    r_literal := by
      obtain ⟨fd, q⟩ := d.def_ 59 (d := ⟨("QueryReader", some "literal"), "literal", "QueryReader.literal", defArgs s_QueryReader_literal, defBody s_QueryReader_literal, defScope s_QueryReader_literal, [], []⟩) rfl
      exact ⟨_, fd, q, He.meth_ok (d.fact 109 (f := .meth "QueryReader" "literal") rfl)⟩
    n_abs := fre (d.fact 55 (f := .free "abs") rfl)
    n_int := fre (d.fact 56 (f := .free "int") rfl)
    n_str := fre (d.fact 57 (f := .free "str") rfl)
    n_len := fre (d.fact 58 (f := .free "len") rfl)
    n_range := fre (d.fact 59 (f := .free "range") rfl)
    n_isinstance := fre (d.fact 60 (f := .free "isinstance") rfl)
    n_tuple := fre (d.fact 61 (f := .free "tuple") rfl)
    n_sorted := fre (d.fact 62 (f := .free "sorted") rfl)
    n_max := fre (d.fact 63 (f := .free "max") rfl)
    n_min := fre (d.fact 64 (f := .free "min") rfl)
    n_sum := fre (d.fact 65 (f := .free "sum") rfl)
    n_any := fre (d.fact 66 (f := .free "any") rfl)
    n_list := fre (d.fact 67 (f := .free "list") rfl)
    n_enumerate := fre (d.fact 68 (f := .free "enumerate") rfl)
    d__law_dice := by
      obtain ⟨fd, q⟩ := d.def_ 0 (d := ⟨("_law_dice", none), "_law_dice", "_law_dice", defArgs s__law_dice, defBody s__law_dice, defScope s__law_dice, [], []⟩) rfl
      exact ⟨_, fd, q, glo (d.fact 0 (f := .glo "_law_dice") rfl)⟩
    d__law_roll := by
      obtain ⟨fd, q⟩ := d.def_ 1 (d := ⟨("_law_roll", none), "_law_roll", "_law_roll", defArgs s__law_roll, defBody s__law_roll, defScope s__law_roll, [], []⟩) rfl
      exact ⟨_, fd, q, glo (d.fact 1 (f := .glo "_law_roll") rfl)⟩
    d__law_rounds := by
      obtain ⟨fd, q⟩ := d.def_ 2 (d := ⟨("_law_rounds", none), "_law_rounds", "_law_rounds", defArgs s__law_rounds, defBody s__law_rounds, defScope s__law_rounds, [], []⟩) rfl
      exact ⟨_, fd, q, glo (d.fact 2 (f := .glo "_law_rounds") rfl)⟩
    d_sign_number := by
      obtain ⟨fd, q⟩ := d.def_ 3 (d := ⟨("sign_number", none), "sign_number", "sign_number", defArgs s_sign_number, defBody s_sign_number, defScope s_sign_number, [], []⟩) rfl
      exact ⟨_, fd, q, glo (d.fact 3 (f := .glo "sign_number") rfl)⟩
    d_check_text := by
      obtain ⟨fd, q⟩ := d.def_ 4 (d := ⟨("check_text", none), "check_text", "check_text", defArgs s_check_text, defBody s_check_text, defScope s_check_text, [], []⟩) rfl
      exact ⟨_, fd, q, glo (d.fact 4 (f := .glo "check_text") rfl)⟩
    d_run_end := by
      obtain ⟨fd, q⟩ := d.def_ 5 (d := ⟨("run_end", none), "run_end", "run_end", defArgs s_run_end, defBody s_run_end, defScope s_run_end, [], []⟩) rfl
      exact ⟨_, fd, q, glo (d.fact 5 (f := .glo "run_end") rfl)⟩
    d_gap_end := by
      obtain ⟨fd, q⟩ := d.def_ 6 (d := ⟨("gap_end", none), "gap_end", "gap_end", defArgs s_gap_end, defBody s_gap_end, defScope s_gap_end, [], []⟩) rfl
      exact ⟨_, fd, q, glo (d.fact 6 (f := .glo "gap_end") rfl)⟩
    d_word_token := by
      obtain ⟨fd, q⟩ := d.def_ 7 (d := ⟨("word_token", none), "word_token", "word_token", defArgs s_word_token, defBody s_word_token, defScope s_word_token, [], []⟩) rfl
      exact ⟨_, fd, q, glo (d.fact 7 (f := .glo "word_token") rfl)⟩
    d_number_token := by
      obtain ⟨fd, q⟩ := d.def_ 8 (d := ⟨("number_token", none), "number_token", "number_token", defArgs s_number_token, defBody s_number_token, defScope s_number_token, [], []⟩) rfl
      exact ⟨_, fd, q, glo (d.fact 8 (f := .glo "number_token") rfl)⟩
    d_quoted_token := by
      obtain ⟨fd, q⟩ := d.def_ 9 (d := ⟨("quoted_token", none), "quoted_token", "quoted_token", defArgs s_quoted_token, defBody s_quoted_token, defScope s_quoted_token, [], []⟩) rfl
      exact ⟨_, fd, q, glo (d.fact 9 (f := .glo "quoted_token") rfl)⟩
    d_token_at := by
      obtain ⟨fd, q⟩ := d.def_ 10 (d := ⟨("token_at", none), "token_at", "token_at", defArgs s_token_at, defBody s_token_at, defScope s_token_at, [], []⟩) rfl
      exact ⟨_, fd, q, glo (d.fact 10 (f := .glo "token_at") rfl)⟩
    d_tokenize := by
      obtain ⟨fd, q⟩ := d.def_ 11 (d := ⟨("tokenize", none), "tokenize", "tokenize", defArgs s_tokenize, defBody s_tokenize, defScope s_tokenize, [], []⟩) rfl
      exact ⟨_, fd, q, glo (d.fact 11 (f := .glo "tokenize") rfl)⟩
    d_kind_of := by
      obtain ⟨fd, q⟩ := d.def_ 12 (d := ⟨("kind_of", none), "kind_of", "kind_of", defArgs s_kind_of, defBody s_kind_of, defScope s_kind_of, [], []⟩) rfl
      exact ⟨_, fd, q, glo (d.fact 12 (f := .glo "kind_of") rfl)⟩
    d_in_range := by
      obtain ⟨fd, q⟩ := d.def_ 13 (d := ⟨("in_range", none), "in_range", "in_range", defArgs s_in_range, defBody s_in_range, defScope s_in_range, [], []⟩) rfl
      exact ⟨_, fd, q, glo (d.fact 13 (f := .glo "in_range") rfl)⟩
    d_rank := by
      obtain ⟨fd, q⟩ := d.def_ 14 (d := ⟨("rank", none), "rank", "rank", defArgs s_rank, defBody s_rank, defScope s_rank, [], []⟩) rfl
      exact ⟨_, fd, q, glo (d.fact 14 (f := .glo "rank") rfl)⟩
    d_row_rank := by
      obtain ⟨fd, q⟩ := d.def_ 15 (d := ⟨("row_rank", none), "row_rank", "row_rank", defArgs s_row_rank, defBody s_row_rank, defScope s_row_rank, [], []⟩) rfl
      exact ⟨_, fd, q, glo (d.fact 15 (f := .glo "row_rank") rfl)⟩
    d_same_kind := by
      obtain ⟨fd, q⟩ := d.def_ 16 (d := ⟨("same_kind", none), "same_kind", "same_kind", defArgs s_same_kind, defBody s_same_kind, defScope s_same_kind, [], []⟩) rfl
      exact ⟨_, fd, q, glo (d.fact 16 (f := .glo "same_kind") rfl)⟩
    d_compare := by
      obtain ⟨fd, q⟩ := d.def_ 17 (d := ⟨("compare", none), "compare", "compare", defArgs s_compare, defBody s_compare, defScope s_compare, [], []⟩) rfl
      exact ⟨_, fd, q, glo (d.fact 17 (f := .glo "compare") rfl)⟩
    d_arithmetic := by
      obtain ⟨fd, q⟩ := d.def_ 18 (d := ⟨("arithmetic", none), "arithmetic", "arithmetic", defArgs s_arithmetic, defBody s_arithmetic, defScope s_arithmetic, [], []⟩) rfl
      exact ⟨_, fd, q, glo (d.fact 18 (f := .glo "arithmetic") rfl)⟩
    d_concat := by
      obtain ⟨fd, q⟩ := d.def_ 19 (d := ⟨("concat", none), "concat", "concat", defArgs s_concat, defBody s_concat, defScope s_concat, [], []⟩) rfl
      exact ⟨_, fd, q, glo (d.fact 19 (f := .glo "concat") rfl)⟩
    d_both := by
      obtain ⟨fd, q⟩ := d.def_ 20 (d := ⟨("both", none), "both", "both", defArgs s_both, defBody s_both, defScope s_both, [], []⟩) rfl
      exact ⟨_, fd, q, glo (d.fact 20 (f := .glo "both") rfl)⟩
    d_either := by
      obtain ⟨fd, q⟩ := d.def_ 21 (d := ⟨("either", none), "either", "either", defArgs s_either, defBody s_either, defScope s_either, [], []⟩) rfl
      exact ⟨_, fd, q, glo (d.fact 21 (f := .glo "either") rfl)⟩
    d_negated := by
      obtain ⟨fd, q⟩ := d.def_ 22 (d := ⟨("negated", none), "negated", "negated", defArgs s_negated, defBody s_negated, defScope s_negated, [], []⟩) rfl
      exact ⟨_, fd, q, glo (d.fact 22 (f := .glo "negated") rfl)⟩
    d_like := by
      obtain ⟨fd, q⟩ := d.def_ 23 (d := ⟨("like", none), "like", "like", defArgs s_like, defBody s_like, defScope s_like, [], []⟩) rfl
      exact ⟨_, fd, q, glo (d.fact 23 (f := .glo "like") rfl)⟩
    d_closed := by
      obtain ⟨fd, q⟩ := d.def_ 24 (d := ⟨("closed", none), "closed", "closed", defArgs s_closed, defBody s_closed, defScope s_closed, [], []⟩) rfl
      exact ⟨_, fd, q, glo (d.fact 24 (f := .glo "closed") rfl)⟩
    d_stepped := by
      obtain ⟨fd, q⟩ := d.def_ 25 (d := ⟨("stepped", none), "stepped", "stepped", defArgs s_stepped, defBody s_stepped, defScope s_stepped, [], []⟩) rfl
      exact ⟨_, fd, q, glo (d.fact 25 (f := .glo "stepped") rfl)⟩
    d_value_text := by
      obtain ⟨fd, q⟩ := d.def_ 26 (d := ⟨("value_text", none), "value_text", "value_text", defArgs s_value_text, defBody s_value_text, defScope s_value_text, [], []⟩) rfl
      exact ⟨_, fd, q, glo (d.fact 26 (f := .glo "value_text") rfl)⟩
    d_quoted := by
      obtain ⟨fd, q⟩ := d.def_ 27 (d := ⟨("quoted", none), "quoted", "quoted", defArgs s_quoted, defBody s_quoted, defScope s_quoted, [], []⟩) rfl
      exact ⟨_, fd, q, glo (d.fact 27 (f := .glo "quoted") rfl)⟩
    d_sum_of := by
      obtain ⟨fd, q⟩ := d.def_ 28 (d := ⟨("sum_of", none), "sum_of", "sum_of", defArgs s_sum_of, defBody s_sum_of, defScope s_sum_of, [], []⟩) rfl
      exact ⟨_, fd, q, glo (d.fact 28 (f := .glo "sum_of") rfl)⟩
    d_least_of := by
      obtain ⟨fd, q⟩ := d.def_ 29 (d := ⟨("least_of", none), "least_of", "least_of", defArgs s_least_of, defBody s_least_of, defScope s_least_of, [], []⟩) rfl
      exact ⟨_, fd, q, glo (d.fact 29 (f := .glo "least_of") rfl)⟩
    d__law_rank := by
      obtain ⟨fd, q⟩ := d.def_ 30 (d := ⟨("_law_rank", none), "_law_rank", "_law_rank", defArgs s__law_rank, defBody s__law_rank, defScope s__law_rank, [], []⟩) rfl
      exact ⟨_, fd, q, glo (d.fact 30 (f := .glo "_law_rank") rfl)⟩
    d__law_and := by
      obtain ⟨fd, q⟩ := d.def_ 31 (d := ⟨("_law_and", none), "_law_and", "_law_and", defArgs s__law_and, defBody s__law_and, defScope s__law_and, [], []⟩) rfl
      exact ⟨_, fd, q, glo (d.fact 31 (f := .glo "_law_and") rfl)⟩
    d__law_not := by
      obtain ⟨fd, q⟩ := d.def_ 32 (d := ⟨("_law_not", none), "_law_not", "_law_not", defArgs s__law_not, defBody s__law_not, defScope s__law_not, [], []⟩) rfl
      exact ⟨_, fd, q, glo (d.fact 32 (f := .glo "_law_not") rfl)⟩
    d__law_number := by
      obtain ⟨fd, q⟩ := d.def_ 33 (d := ⟨("_law_number", none), "_law_number", "_law_number", defArgs s__law_number, defBody s__law_number, defScope s__law_number, [], []⟩) rfl
      exact ⟨_, fd, q, glo (d.fact 33 (f := .glo "_law_number") rfl)⟩
    d__law_cmp := by
      obtain ⟨fd, q⟩ := d.def_ 34 (d := ⟨("_law_cmp", none), "_law_cmp", "_law_cmp", defArgs s__law_cmp, defBody s__law_cmp, defScope s__law_cmp, [], []⟩) rfl
      exact ⟨_, fd, q, glo (d.fact 34 (f := .glo "_law_cmp") rfl)⟩
    d__law_like := by
      obtain ⟨fd, q⟩ := d.def_ 35 (d := ⟨("_law_like", none), "_law_like", "_law_like", defArgs s__law_like, defBody s__law_like, defScope s__law_like, [], []⟩) rfl
      exact ⟨_, fd, q, glo (d.fact 35 (f := .glo "_law_like") rfl)⟩
    d__law_value_drawn := by
      obtain ⟨fd, q⟩ := d.def_ 36 (d := ⟨("_law_value_drawn", none), "_law_value_drawn", "_law_value_drawn", defArgs s__law_value_drawn, defBody s__law_value_drawn, defScope s__law_value_drawn, [], []⟩) rfl
      exact ⟨_, fd, q, glo (d.fact 36 (f := .glo "_law_value_drawn") rfl)⟩
    d__law_sort := by
      obtain ⟨fd, q⟩ := d.def_ 37 (d := ⟨("_law_sort", none), "_law_sort", "_law_sort", defArgs s__law_sort, defBody s__law_sort, defScope s__law_sort, [], []⟩) rfl
      exact ⟨_, fd, q, glo (d.fact 37 (f := .glo "_law_sort") rfl)⟩
    d_closing_places := by
      obtain ⟨fd, q⟩ := d.def_ 38 (d := ⟨("closing_places", none), "closing_places", "closing_places", defArgs s_closing_places, defBody s_closing_places, defScope s_closing_places, [], []⟩) rfl
      exact ⟨_, fd, q, glo (d.fact 38 (f := .glo "closing_places") rfl)⟩
    d_wrapped_places := by
      obtain ⟨fd, q⟩ := d.def_ 39 (d := ⟨("wrapped_places", none), "wrapped_places", "wrapped_places", defArgs s_wrapped_places, defBody s_wrapped_places, defScope s_wrapped_places, [], []⟩) rfl
      exact ⟨_, fd, q, glo (d.fact 39 (f := .glo "wrapped_places") rfl)⟩
    d_parse_expression := by
      obtain ⟨fd, q⟩ := d.def_ 40 (d := ⟨("parse_expression", none), "parse_expression", "parse_expression", defArgs s_parse_expression, defBody s_parse_expression, defScope s_parse_expression, [], []⟩) rfl
      exact ⟨_, fd, q, glo (d.fact 40 (f := .glo "parse_expression") rfl)⟩
    d_checked := by
      obtain ⟨fd, q⟩ := d.def_ 41 (d := ⟨("checked", none), "checked", "checked", defArgs s_checked, defBody s_checked, defScope s_checked, [], []⟩) rfl
      exact ⟨_, fd, q, glo (d.fact 41 (f := .glo "checked") rfl)⟩
    d__law_told := by
      obtain ⟨fd, q⟩ := d.def_ 42 (d := ⟨("_law_told", none), "_law_told", "_law_told", defArgs s__law_told, defBody s__law_told, defScope s__law_told, [], []⟩) rfl
      exact ⟨_, fd, q, glo (d.fact 42 (f := .glo "_law_told") rfl)⟩
    e_TextError := ⟨xe1TextError, glo (d.fact 46 (f := .glo "TextError") rfl), xe2TextError, xe3TextError, xe4TextError⟩
    e_KindFault := ⟨xe1KindFault, glo (d.fact 47 (f := .glo "KindFault") rfl), xe2KindFault, xe3KindFault, xe4KindFault⟩
    c_ALPHABET := st (d.fact 69 (f := .str "ALPHABET" (S [10, 32, 33, 34, 35, 36, 38, 39, 40, 41, 42, 43, 44, 45, 46, 47, 48, 49, 50, 51, 52, 53, 54, 55, 56, 57, 58, 59, 60, 61, 62, 63, 64, 65, 66, 67, 68, 69, 70, 71, 72, 73, 74, 75, 76, 77, 78, 79, 80, 81, 82, 83, 84, 85, 86, 87, 88, 89, 90, 91, 92, 93, 94, 95, 96, 97, 98, 99, 100, 101, 102, 103, 104, 105, 106, 107, 108, 109, 110, 111, 112, 113, 114, 115, 116, 117, 118, 119, 120, 121, 122, 123, 124, 125, 126])) rfl)
    c_GAPS := st (d.fact 70 (f := .str "GAPS" (S [32, 10])) rfl)
    c_COMMENT := st (d.fact 71 (f := .str "COMMENT" (S [45, 45])) rfl)
    c_LETTERS := st (d.fact 72 (f := .str "LETTERS" (S [97, 98, 99, 100, 101, 102, 103, 104, 105, 106, 107, 108, 109, 110, 111, 112, 113, 114, 115, 116, 117, 118, 119, 120, 121, 122, 65, 66, 67, 68, 69, 70, 71, 72, 73, 74, 75, 76, 77, 78, 79, 80, 81, 82, 83, 84, 85, 86, 87, 88, 89, 90, 95])) rfl)
    c_DIGITS := st (d.fact 73 (f := .str "DIGITS" (S [48, 49, 50, 51, 52, 53, 54, 55, 56, 57])) rfl)
    c_QUOTE := st (d.fact 74 (f := .str "QUOTE" (S [39])) rfl)
    c_INT_KEYWORD := st (d.fact 75 (f := .str "INT_KEYWORD" (S [105, 110, 116])) rfl)
    c_INT_KIND := st (d.fact 76 (f := .str "INT_KIND" (S [107, 105, 110, 100, 32, 105, 110, 116])) rfl)
    c_END := st (d.fact 77 (f := .str "END" (S [101, 110, 100, 32, 111, 102, 32, 116, 101, 120, 116])) rfl)
    c_ANY_SIGN := st (d.fact 78 (f := .str "ANY_SIGN" (S [95])) rfl)
    c_ANY_TEXT := st (d.fact 79 (f := .str "ANY_TEXT" (S [42])) rfl)
    c_MOST_DIGITS := it (d.fact 80 (f := .int "MOST_DIGITS" 19) rfl)
    c_HIGHEST := it (d.fact 81 (f := .int "HIGHEST" 9223372036854775807) rfl)
    c_MOST_OPEN := it (d.fact 82 (f := .int "MOST_OPEN" 60) rfl)
    c_MOST_NESTED := it (d.fact 83 (f := .int "MOST_NESTED" 100) rfl)
    c_LOOSEST_ARITHMETIC := it (d.fact 84 (f := .int "LOOSEST_ARITHMETIC" 5) rfl)
    x_KK := He.exm_ok (d.fact 113 (f := .exm "KindFault" "KindFault" true) rfl)
    c_LONG_SIGNS := ⟨_, glo (d.facts (f := .glo "LONG_SIGNS") (by repeat (first | exact List.mem_cons_self | apply List.mem_cons_of_mem))), rfl⟩
    c_SHORT_SIGNS := ⟨_, glo (d.facts (f := .glo "SHORT_SIGNS") (by repeat (first | exact List.mem_cons_self | apply List.mem_cons_of_mem))), rfl⟩
    c_KEYWORDS := ⟨_, glo (d.facts (f := .glo "KEYWORDS") (by repeat (first | exact List.mem_cons_self | apply List.mem_cons_of_mem))), rfl⟩
    c_COMPARISONS := ⟨_, glo (d.facts (f := .glo "COMPARISONS") (by repeat (first | exact List.mem_cons_self | apply List.mem_cons_of_mem))), rfl⟩
    c_LOGIC := ⟨_, glo (d.facts (f := .glo "LOGIC") (by repeat (first | exact List.mem_cons_self | apply List.mem_cons_of_mem))), rfl⟩
    c_ARITHMETIC := ⟨_, glo (d.facts (f := .glo "ARITHMETIC") (by repeat (first | exact List.mem_cons_self | apply List.mem_cons_of_mem))), rfl⟩
    c_LITERALS := ⟨_, glo (d.facts (f := .glo "LITERALS") (by repeat (first | exact List.mem_cons_self | apply List.mem_cons_of_mem))), rfl⟩
    q_LONG_SIGNS := q_long hx0
    q_SHORT_SIGNS := q_short hx0
    q_KEYWORDS := q_kw hx0
    cm_t := q_cm hx0
    ne_TkQR := ne_ok hx2
    t_cl := He.cls_ok (d.facts (f := .cls "Token") (by repeat (first | exact List.mem_cons_self | apply List.mem_cons_of_mem)))
    t_w := He.noat_ok (d.facts (f := .noat "Token" "word") (by repeat (first | exact List.mem_cons_self | apply List.mem_cons_of_mem)))
    t_v := He.noat_ok (d.facts (f := .noat "Token" "value") (by repeat (first | exact List.mem_cons_self | apply List.mem_cons_of_mem)))
    t_p := He.noat_ok (d.facts (f := .noat "Token" "place") (by repeat (first | exact List.mem_cons_self | apply List.mem_cons_of_mem)))
    t_g := glo (d.facts (f := .glo "Token") (by repeat (first | exact List.mem_cons_self | apply List.mem_cons_of_mem)))
    t_i := by
      obtain ⟨fd, q⟩ := d.defs (d := ⟨("Token", some "__init__"), "__init__", "Token.__init__", defArgs s_Token___init__, defBody s_Token___init__, defScope s_Token___init__, [], []⟩) (by repeat (first | exact List.mem_cons_self | apply List.mem_cons_of_mem))
      exact ⟨_, fd, q, He.mkr_ok (d.facts (f := .mkr "Token") (by repeat (first | exact List.mem_cons_self | apply List.mem_cons_of_mem)))⟩
  }
end K04
end

section
-- part K04XK
set_option Elab.async false
set_option linter.all false
set_option maxRecDepth 100000
set_option maxHeartbeats 2000000
namespace K04
open PySem PySem.Spec PyProof.Rows L2 Fw LamX Dc Lx Gk M24 M5 M04
theorem law_at {w : World} {h : Heap} {K : PySem.W.Frag} {mg : Str → Option Value} {fa : Addr} (X : K.In h) (G : h.Ns mainGlobals mg) (hfa : mg ("law" : Str) = some (.ref fa)) (c : He.SaysX faD fnD [((fun K => He.ga K "LOGIC"), [("or" : Str) , ("and" : Str)]), ((fun K => He.ga K "ARITHMETIC"), [("+" : Str) , ("-" : Str) , ("||" : Str) , ("*" : Str) , ("/" : Str) , ("mod" : Str)]), ((fun K => He.ga K "LITERALS"), [("int" : Str) , ("quoted" : Str)])] tfD exD w h K) :
    LawAtS PySem.Challenge.rw_tablestack_k04_values_and_truths w K (L2.CX (PySem.Challenge.rw_tablestack_k04_values_and_truths).prog w) 12 63 "script" mg fa h := by
  have W := facts X G c
  have d := c.t.d
  obtain ⟨fd, F⟩ := d.defs (d := ⟨("law", none), "law", "law", defArgs s_law, defBody s_law, defScope s_law, [], []⟩) (by repeat (first | exact List.mem_cons_self | apply List.mem_cons_of_mem))
  have e := hfa.symm.trans (He.glo_ok X G (d.facts (f := .glo "law") (by repeat (first | exact List.mem_cons_self | apply List.mem_cons_of_mem))))
  cases e
  have b := FunD.bindsA (ps := ["script"]) F fun _ _ _ _ _ _ us hl => match us, hl with | [_], _ => rfl
  have hcode : fd.code = .ref (He.cT K ("law", none)).1 := by
    obtain ⟨oc, od, dV, kV, doc, pm, an, cdv, ct, osl, rfl, lk, hcd, _, _⟩ := F.ex
    obtain ⟨c', rfl⟩ := He.codeIn_ref hcd
    show Value.ref c' = _
    exact congrArg Value.ref (He.codeOf_eq lk rfl).symm
  refine ⟨fd, tfD.map (He.cT K), spLaw K (He.cT K ("law", none)).2 (He.cT K ("sum_of", none)).2, ?_, ?_, ?_, fun s v => b s [v] rfl, fun H a ns hl _ hH hS => ?_, fun base hK hm hT => ?_⟩
  · intro p hp
    obtain ⟨q, hq, rfl⟩ := List.mem_map.mp hp
    exact c.empty q hq
  · intro p hp
    obtain ⟨q, hq, rfl⟩ := List.mem_map.mp hp
    exact c.out q hq
  · intro p hp
    obtain ⟨q, hq, rfl⟩ := List.mem_map.mp hp
    exact PySem.W.codeHd_of_K X (c.hd q hq)
  · refine ⟨a, ns, rfl, hS, hl, fun q hq => ?_, fun _ => rfl⟩
    rcases List.mem_cons.mp hq with rfl | hq
    · exact TabS.nil (hH _ (List.mem_map_of_mem List.mem_cons_self))
    rw [List.mem_singleton.mp hq]
    exact TabS.nil (hH _ (List.mem_map_of_mem (List.mem_cons_of_mem _ List.mem_cons_self)))
  · have TB := hT _ (List.mem_map_of_mem List.mem_cons_self)
    have hx := c.more
    unfold exD at hx
    obtain ⟨hx0, hx⟩ := He.ba hx
    obtain ⟨hx1, hx⟩ := He.ba hx
    obtain ⟨hx2, hx⟩ := He.ba hx
    have hx3 := hx
    have TF1 : TabF K mg base (He.cT K ("sum_of", none)).2 := by
      obtain ⟨fd2, F2⟩ := d.def_ 28 (d := ⟨("sum_of", none), "sum_of", "sum_of", defArgs s_sum_of, defBody s_sum_of, defScope s_sum_of, [], []⟩) rfl
      refine ⟨_, (He.cT K ("sum_of", none)).1, fd2, F2, He.glo_ok X G (d.fact 28 (f := .glo "sum_of") rfl), ?_, hT _ (List.mem_map_of_mem (List.mem_cons_of_mem _ List.mem_cons_self))⟩
      obtain ⟨oc, od, dV, kV, doc, pm, an, cdv, ct, osl, rfl, lk, hcd, _, _⟩ := F2.ex
      obtain ⟨c', rfl⟩ := He.codeIn_ref hcd
      show Value.ref c' = _
      exact congrArg Value.ref (He.codeOf_eq lk rfl).symm
    have nT01 : (He.cT K ("law", none)).2 ≠ (He.cT K ("sum_of", none)).2 := of_decide_eq_true hx3
    have D : Wk K w (adK K) := wk_of (c.t.tab 0) (c.t.tab 1) (c.t.tab 2) hx1
    have Wr := W.toWr
    have Wv := Wr.toWv
    have Wt := Wv.toWt
    have Wx := Wt.toWx
    have Wl := Wx.toWl
    have roll := ok__law_roll (P := (PySem.Challenge.rw_tablestack_k04_values_and_truths).prog) (w := w) (base := base) Wl
    have dice := ok__law_dice (P := (PySem.Challenge.rw_tablestack_k04_values_and_truths).prog) (w := w) (base := base) Wl
    have rounds := ok__law_rounds Wl dice
    have sn := ok_sign_number (P := (PySem.Challenge.rw_tablestack_k04_values_and_truths).prog) (w := w) (base := base) Wx
    have ct := ok_check_text Wx sn
    have re := ok_run_end (P := (PySem.Challenge.rw_tablestack_k04_values_and_truths).prog) (w := w) (base := base) Wx
    have ge := ok_gap_end (P := (PySem.Challenge.rw_tablestack_k04_values_and_truths).prog) (w := w) (base := base) Wx
    have ti := ok_tok_init (P := (PySem.Challenge.rw_tablestack_k04_values_and_truths).prog) (w := w) (base := base) Wt
    have wt := ok_word_token Wt re ti
    have nt := ok_number_token Wt re ti
    have qt := ok_quoted_token Wt ct ti
    have ta := ok_token_at Wt wt nt qt ti
    have tz := ok_tokenize Wt ge ta ti
    have kof := ok_kind_of (P := (PySem.Challenge.rw_tablestack_k04_values_and_truths).prog) (w := w) (base := base) Wv
    have inr := ok_in_range (P := (PySem.Challenge.rw_tablestack_k04_values_and_truths).prog) (w := w) (base := base) Wv
    have rk := ok_rank (P := (PySem.Challenge.rw_tablestack_k04_values_and_truths).prog) (w := w) (base := base) Wv
    have sk := ok_same_kind Wv kof
    have cmp := ok_compare Wv sk
    have bo := ok_both (P := (PySem.Challenge.rw_tablestack_k04_values_and_truths).prog) (w := w) (base := base) Wv
    have ei := ok_either (P := (PySem.Challenge.rw_tablestack_k04_values_and_truths).prog) (w := w) (base := base) Wv
    have ng := ok_negated (P := (PySem.Challenge.rw_tablestack_k04_values_and_truths).prog) (w := w) (base := base) Wv
    have ari := ok_arithmetic Wv kof inr
    have cat := ok_concat Wv kof
    have clo := ok_closed (P := (PySem.Challenge.rw_tablestack_k04_values_and_truths).prog) (w := w) (base := base) Wv
    have stp := ok_stepped (P := (PySem.Challenge.rw_tablestack_k04_values_and_truths).prog) (w := w) (base := base) Wv
    have lik := ok_like Wv kof clo stp
    have rrk := ok_row_rank Wv rk
    have quo := ok_quoted (P := (PySem.Challenge.rw_tablestack_k04_values_and_truths).prog) (w := w) (base := base) Wv
    have vt := ok_value_text Wv quo
    have sm := ok_sum_of Wv TF1 nT01 inr
    have lo := ok_least_of (P := (PySem.Challenge.rw_tablestack_k04_values_and_truths).prog) (w := w) (base := base) Wv
    have wa := ok_word_at (P := (PySem.Challenge.rw_tablestack_k04_values_and_truths).prog) (w := w) (base := base) Wr
    have ah := ok_ahead Wr wa
    have tkn := ok_taken (P := (PySem.Challenge.rw_tablestack_k04_values_and_truths).prog) (w := w) (base := base) Wr
    have tk := ok_take Wr ah
    have fin := ok_finish Wr ah
    have en := ok_enter (P := (PySem.Challenge.rw_tablestack_k04_values_and_truths).prog) (w := w) (base := base) Wr
    have le := ok_leave (P := (PySem.Challenge.rw_tablestack_k04_values_and_truths).prog) (w := w) (base := base) Wr
    have lit := ok_literal Wr D ah tk tkn
    have mi := ok_minus Wr ah tkn
    have op := ok_operand Wr ah tk mi lit
    have am := ok_amount Wr D ah op
    have co := ok_comparison Wr ah tk am
    have cd := ok_condition Wr D ah tk co
    have ex := ok_expression Wr en le cd
    have cp := ok_closing (P := (PySem.Challenge.rw_tablestack_k04_values_and_truths).prog) (w := w) (base := base) Wr
    have wp := ok_wrapped (P := (PySem.Challenge.rw_tablestack_k04_values_and_truths).prog) (w := w) (base := base) Wr
    have rd := ok_reader Wr tz cp wp
    have ck := ok_checked (P := (PySem.Challenge.rw_tablestack_k04_values_and_truths).prog) (w := w) (base := base) Wr
    have pe := ok_parse lex_ok okS_of Wr rd ex fin ck
    have lrk := ok__law_rank (P := (PySem.Challenge.rw_tablestack_k04_values_and_truths).prog) (w := w) (base := base) Wv
    have lan := ok__law_and (P := (PySem.Challenge.rw_tablestack_k04_values_and_truths).prog) (w := w) (base := base) Wv
    have lno := ok__law_not (P := (PySem.Challenge.rw_tablestack_k04_values_and_truths).prog) (w := w) (base := base) Wv
    have lso := ok__law_sort (P := (PySem.Challenge.rw_tablestack_k04_values_and_truths).prog) (w := w) (base := base) Wv
    have lnu := ok__law_number (P := (PySem.Challenge.rw_tablestack_k04_values_and_truths).prog) (w := w) (base := base) Wv
    have lcm := ok__law_cmp (P := (PySem.Challenge.rw_tablestack_k04_values_and_truths).prog) (w := w) (base := base) Wv
    have lli := ok__law_like (P := (PySem.Challenge.rw_tablestack_k04_values_and_truths).prog) (w := w) (base := base) Wv 6
    have lvd := ok__law_value_drawn Wv roll
    exact ok_law W F hcode TB nT01 roll rounds lvd lso cmp lcm ari lnu cat lik lli sk kof rk lrk rrk bo lan ng lno ei sm lo pe vt quo inr clo stp
end K04
open PySem PySem.W PySem.Calls PyProof.Rows
theorem PySem.Challenge.cw_tablestack_k04_values_and_truths_holds : PySem.Challenge.rw_tablestack_k04_values_and_truths.Holds := by
  w_on; o_law
  refine HandSHeadRun.head_any (r := OpenLaw.row PySem.Challenge.rw_tablestack_k04_values_and_truths) (q := view (OpenLaw.row PySem.Challenge.rw_tablestack_k04_values_and_truths).prog [84]) (H := K04.hk0) (ob := K04.ob0) (M := 8000) (loose := K04.loose0) (d := HandSHeadRun.topDef (OpenLaw.row PySem.Challenge.rw_tablestack_k04_values_and_truths).prog 84) (kwd := []) K04.ob0_eq
    (by kernel_rfl) (fun s => by kernel_rfl) K04.run0 (by kernel_rfl) (by kernel_rfl) (by kernel_rfl) (by rfl) (by first | assumption | decide +kernel) (by decide +kernel) ⟨rfl, rfl, rfl, rfl, rfl, by decide +kernel⟩ ?hw ?hc
  case hw => w_witness2
  case hc =>
    refine LamX.walk_ofTsE (l := PySem.Challenge.rw_tablestack_k04_values_and_truths) (n := 63) (k := 12) (x := "script") (CX := fun w => L2.CX (PySem.Challenge.rw_tablestack_k04_values_and_truths).prog w) rfl (by decide) (by kernel_rfl) ⟨rfl, by decide, by decide⟩ ?F (fun _ _ _ _ _ z => by
      obtain ⟨_, _, _, _, _, _, _, _, _, _, _, _, z⟩ := z
      exact z)
    intro w mg fa h Y G hmg0
    obtain ⟨K, KX, c⟩ := Y
    have hmg : mg ("law" : PySem.Str) = some (.ref fa) := by
      have e : (HandSHeadRun.topDef (OpenLaw.row PySem.Challenge.rw_tablestack_k04_values_and_truths).prog 84).name = ("law" : PySem.Str) := by kernel_rfl
      rw [← e]
      exact hmg0
    exact ⟨K, KX, K04.law_at KX G hmg c⟩
end
