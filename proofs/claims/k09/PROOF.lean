import PyProof.Rows.All
import Wide.All
import OpenK.AllK
import Wide.FinOn
import PyProof.EqAt
import PyProof.EqKinds
import PyProof.TupleCall
import KE.KLam
import HandS.ForMost
import HandS.Wide
import HandS.StrMore
import HandS.Replace
import HandS.FStr
import HandS.Exc
import HandS.ExcOwn
import HandS.TryMany
import HandS.WordsExc
import HandS.Small
import HandS.RaiseMore
import HandS.Deep
import HandS.DeepEq
import HandS.CallRecv
import HandS.Lambda
import HandS.EndBits
import HandS.EndTab
import HandS.HeadWalk
import HandS.Defaults
import HandS.Head0
import HandS.Head1
import HandS.Head2
import HandS.HeadHook1
import HandS.HeadHook2
import HandS.HeadHook3
import HandS.HeadHook4
import HandS.ReplaceLit
import HandS.Star
import HandS.Style
import HandS.IsInst
import HandS.TupAny
import HandS.TupMul
import PyProof.AutoSeq1
import KE.GoesMore
import KE.GoesEnum
import HandS.Zip
import PyProof.ListRange
import HandS.More
import HandS.RaiseFrom
import HandS.MapSum
import PyProof.CallType
import PyProof.RangeIter
import HandS.AnyAll
import HandS.Nested
import HandS.DictComp
import HandS.Walk
import HandS.Steps
import PySem.Challenge.RW_tablestack_k09_disks_and_what_a_crash_le
section
-- part Fw
set_option Elab.async false
set_option linter.all false
set_option maxRecDepth 100000
set_option maxHeartbeats 2000000
/-! Fw: words of our own over the hand layer: a def that may be called by its name, what is kept of a heap, dice. -/
namespace Fw
open PySem PySem.Spec PyProof.Rows L2

/-- a def of the module that may be called by its name x; it may raise -/
structure Cl (P : Program) (w : World) (K : PySem.W.Frag) (mg : Str → Option Value) (base : Heap) (k : Nat) (x : Str) (sp : Sp) : Prop where
  ex : ∃ (f : Addr) (fd : FuncData) (ps : List Str), FnOk P w K mg base (L2.CX P w) k f fd ps sp ∧ mg x = some (.ref f) ∧ PySem.W.keepIn K (.ref f) = true ∧ Binds K fd ps []
abbrev FnP (K : PySem.W.Frag) (mg : Str → Option Value) (x : Str) (st : Stmt) : Prop := ∃ (f : Addr) (fd : FuncData), FunD K x x (defArgs st) (defBody st) (defScope st) [] [] f fd ∧ mg x = some (.ref f)
section
variable {P : Program} {w : World} {K : PySem.W.Frag} {mg : Str → Option Value} {base : Heap} {x : Str} {st : Stmt}
theorem cl_mk {N ps : List Str} {k : Nat} {sp : Sp} (F : FnP K mg x st) (S : FnScope N ps (defScope st))
    (b : ∀ (kV doc pm : Value) (an : Option Addr) (cdv ct : Value) (us : List Value), us.length = ps.length → bindArgs (PySem.W.fnOf x x (defArgs st) (defBody st) (defScope st) .none kV doc pm an cdv ct) ⟨us, []⟩ = pure (ps.zip us))
    (len : ∀ vs H Q E, sp vs H Q E → vs.length = ps.length)
    (hbody : ∀ (f : Addr) (cdv : Value) (A : Around) (outer : List Env) (s : Shared) (H : Hp) (vs : List V) (Q : VK) (E : XK), Room k (A.deeper (envOfC x (defScope st) s.heap.objs.size f cdv)) → sp vs H Q E →
      ∃ t, PSs (cxOf (L2.CX P w) P w K mg base N x (defScope st) f cdv A outer s H E) (defBody st) t ∧ t { nx := fun _ H' => Q .non H', rt := Q } (start N vs) H) : Cl P w K mg base (k + 1) x sp := by
  obtain ⟨f, fd, F, m⟩ := F
  exact ⟨f, fd, ps, F.ok S len (hbody f), m, F.kp, F.bindsN b⟩
theorem Cl.mono {j k : Nat} {sp : Sp} (c : Cl P w K mg base j x sp) (h : j ≤ k) : Cl P w K mg base k x sp := by
  obtain ⟨f, fd, ps, F, m, kp, b⟩ := c.ex
  exact ⟨f, fd, ps, F.mono h, m, kp, b⟩
/-- a promise that says more -/
theorem Cl.imp {k : Nat} {sp sp' : Sp} (c : Cl P w K mg base k x sp) (h : ∀ vs H Q E, sp' vs H Q E → sp vs H Q E) : Cl P w K mg base k x sp' := by
  obtain ⟨f, fd, ps, F, m, kp, b⟩ := c.ex
  exact ⟨f, fd, ps, ⟨fun vs H Q E q => F.len vs H Q E (h _ _ _ _ q), fun A outer s H args us vs Q E hr e0 hb r q => F.run A outer s H args us vs Q E hr e0 hb r (h _ _ _ _ q)⟩, m, kp, b⟩
end
def tCl (sp : Sp) (E : XK) (t : TA) : TE := fun σ H Q => t σ H fun vs H1 => sp vs H1 Q E
section
variable {X : Cx} {k j : Nat} {C : Addr} {x m : Str} {sp : Sp} {E : XK} {p pos apos : Pos} {e o : Expr} {es : List Expr} {ta : TE} {t : TA}
theorem pe_cl (c : Cl X.prog X.w X.K X.mg X.base k x sp) (hr : Room j X.A) (hk : k ≤ j) (hg : Gl X x) (hx : Passes (L2.CX X.prog X.w) X E) (ha : PA X (e :: es) t)
    (hdb : (x == ("__debug__" : Str)) = false := by decide) (he : starEach (e :: es) X.env = (false, eval e X.env) :: starEach es X.env := by rfl) (hpl : (backTo pos (starEach es X.env)).any (·.1) = false := by rfl) :
    PE X (.Call (.Name x p) (e :: es) [] pos) (tCl sp E t) := by
  obtain ⟨f, fd, ps, F, hm, kp, b⟩ := c.ex
  refine ⟨fun pins s σ H Q I h => ?_⟩
  refine (pe_call F (hr.mono hk) hg hm kp b .nil hx ha hdb he hpl).run pins s σ H Q I ?_
  have q : t σ H fun vs H1 => sp vs H1 Q E := h
  show t σ H fun vs H1 => sp (vs ++ []) H1 Q E
  have e0 : (fun (vs : List V) (H1 : Hp) => sp (vs ++ []) H1 Q E) = fun vs H1 => sp vs H1 Q E := by
    funext vs H1
    rw [List.append_nil]
  rw [e0]
  exact q
/-- what leaves a def's own body -/
theorem passD {P : Program} {w : World} {K : PySem.W.Frag} {mg : Str → Option Value} {base : Heap} {N : List Str} {x : Str} {sc : Scope} {f : Addr} {cdv : Value} {A : Around} {outer : List Env} {s : Shared} {H : Hp} {E : XK} :
    Passes (L2.CX P w) (cxOf (L2.CX P w) P w K mg base N x sc f cdv A outer s H E) E := passes_call (takes_of rfl rfl rfl rfl) fun _ _ _ _ h => h
end

/-! ### texts as lists of signs -/
abbrev T (l : List Nat) : V := .str ⟨l.toArray⟩
theorem tl_mk (l : List Nat) : ((⟨l.toArray⟩ : Str).cps.toList) = l := by simp
theorem len_mk (l : List Nat) : (⟨l.toArray⟩ : Str).length = l.length := by simp [Str.length]

/-! ### heaps: all but one object is kept -/
def Kp (d : Addr) (H H' : Hp) : Prop := ∀ b o, b ≠ d → H b = some o → H' b = some o
theorem Kp.refl (d : Addr) (H : Hp) : Kp d H H := fun _ _ _ h => h
theorem Kp.trans {d : Addr} {H H1 H2 : Hp} (a : Kp d H H1) (b : Kp d H1 H2) : Kp d H H2 := fun c o n h => b c o n (a c o n h)
theorem Kp.at_ {d : Addr} {H : Hp} {o : HO} : Kp d H (upd H d o) := fun b u n h => by rw [upd_ne n]; exact h
theorem Kp.of {d : Addr} {H H' : Hp} (h : Same H H') : Kp d H H' := fun b o _ e => h b o e
theorem same_new {H : Hp} {p : Addr} (h : H p = none) (o : HO) : Same H (upd H p o) := fun b u q => by rw [upd_ne (ne_of_none q h)]; exact q
theorem Kp.new {d : Addr} {H : Hp} {p : Addr} {o : HO} (h : H p = none) : Kp d H (upd H p o) := Kp.of (same_new h o)
/-- three ints at d -/
def Dice (H : Hp) (d : Addr) : Prop := ∃ a b c : Int, H d = some (.lst [.int a, .int b, .int c])
theorem Dice.new {H : Hp} {d p : Addr} {o : HO} (h : Dice H d) (hp : H p = none) : Dice (upd H p o) d := by
  obtain ⟨a, b, c, e⟩ := h
  exact ⟨a, b, c, by rw [upd_ne (ne_of_none e hp)]; exact e⟩
/-! ### classes -/
/-- a class that may be made by its name x -/
structure Mc (P : Program) (w : World) (K : PySem.W.Frag) (mg : Str → Option Value) (base : Heap) (k : Nat) (x : Str) (C : Addr) (sp : Sp) : Prop where
  ex : ∃ (f : Addr) (fd : FuncData) (ps : List Str), Mk K C f ∧ FnOk P w K mg base (L2.CX P w) k f fd ps sp ∧ mg x = some (.ref C) ∧ Binds K fd ps []
/-- a method m of the class at C -/
structure Me (P : Program) (w : World) (K : PySem.W.Frag) (mg : Str → Option Value) (base : Heap) (k : Nat) (C : Addr) (m : Str) (sp : Sp) : Prop where
  ex : ∃ (f : Addr) (fd : FuncData) (ps : List Str), Cls K C ∧ Meth K C m f ∧ FnOk P w K mg base (L2.CX P w) k f fd ps sp ∧ Binds K fd ps []
/-- a method's text as it stands -/
abbrev FnM (K : PySem.W.Frag) (C : Addr) (m qual : Str) (st : Stmt) : Prop := ∃ (f : Addr) (fd : FuncData), FunD K m qual (defArgs st) (defBody st) (defScope st) [] [] f fd ∧ Meth K C m f
section
variable {P : Program} {w : World} {K : PySem.W.Frag} {mg : Str → Option Value} {base : Heap} {x m qual : Str} {st : Stmt} {C : Addr}
theorem fn_m {N ps : List Str} {k : Nat} {sp : Sp} {f : Addr} {fd : FuncData} (F : FunD K m qual (defArgs st) (defBody st) (defScope st) [] [] f fd) (S : FnScope N ps (defScope st))
    (len : ∀ vs H Q E, sp vs H Q E → vs.length = ps.length)
    (hbody : ∀ (f : Addr) (cdv : Value) (A : Around) (outer : List Env) (s : Shared) (H : Hp) (vs : List V) (Q : VK) (E : XK), Room k (A.deeper (envOfC qual (defScope st) s.heap.objs.size f cdv)) → sp vs H Q E →
      ∃ t, PSs (cxOf (L2.CX P w) P w K mg base N qual (defScope st) f cdv A outer s H E) (defBody st) t ∧ t { nx := fun _ H' => Q .non H', rt := Q } (start N vs) H) : FnOk P w K mg base (L2.CX P w) (k + 1) f fd ps sp := F.ok S len (hbody f)
theorem mc_mk {N ps : List Str} {k : Nat} {sp : Sp} (F : ∃ (f : Addr) (fd : FuncData), FunD K "__init__" qual (defArgs st) (defBody st) (defScope st) [] [] f fd ∧ Mk K C f) (hm : mg x = some (.ref C)) (S : FnScope N ps (defScope st))
    (b : ∀ (kV doc pm : Value) (an : Option Addr) (cdv ct : Value) (us : List Value), us.length = ps.length → bindArgs (PySem.W.fnOf "__init__" qual (defArgs st) (defBody st) (defScope st) .none kV doc pm an cdv ct) ⟨us, []⟩ = pure (ps.zip us))
    (len : ∀ vs H Q E, sp vs H Q E → vs.length = ps.length)
    (hbody : ∀ (f : Addr) (cdv : Value) (A : Around) (outer : List Env) (s : Shared) (H : Hp) (vs : List V) (Q : VK) (E : XK), Room k (A.deeper (envOfC qual (defScope st) s.heap.objs.size f cdv)) → sp vs H Q E →
      ∃ t, PSs (cxOf (L2.CX P w) P w K mg base N qual (defScope st) f cdv A outer s H E) (defBody st) t ∧ t { nx := fun _ H' => Q .non H', rt := Q } (start N vs) H) : Mc P w K mg base (k + 1) x C sp := by
  obtain ⟨f, fd, F, M⟩ := F
  exact ⟨f, fd, ps, M, fn_m F S len hbody, hm, F.bindsN b⟩
theorem me_mk {N ps : List Str} {k : Nat} {sp : Sp} (F : FnM K C m qual st) (c : Cls K C) (S : FnScope N ps (defScope st))
    (b : ∀ (kV doc pm : Value) (an : Option Addr) (cdv ct : Value) (us : List Value), us.length = ps.length → bindArgs (PySem.W.fnOf m qual (defArgs st) (defBody st) (defScope st) .none kV doc pm an cdv ct) ⟨us, []⟩ = pure (ps.zip us))
    (len : ∀ vs H Q E, sp vs H Q E → vs.length = ps.length)
    (hbody : ∀ (f : Addr) (cdv : Value) (A : Around) (outer : List Env) (s : Shared) (H : Hp) (vs : List V) (Q : VK) (E : XK), Room k (A.deeper (envOfC qual (defScope st) s.heap.objs.size f cdv)) → sp vs H Q E →
      ∃ t, PSs (cxOf (L2.CX P w) P w K mg base N qual (defScope st) f cdv A outer s H E) (defBody st) t ∧ t { nx := fun _ H' => Q .non H', rt := Q } (start N vs) H) : Me P w K mg base (k + 1) C m sp := by
  obtain ⟨f, fd, F, M⟩ := F
  exact ⟨f, fd, ps, c, M, fn_m F S len hbody, F.bindsN b⟩
end
def tMk (C : Addr) (sp : Sp) (E : XK) (t : TA) : TE := fun σ H Q => t σ H fun vs H1 => ∀ x dx, H1 x = none → H1 dx = none → dx ≠ x → sp (.ref x :: vs) (upd (upd H1 dx (.own x)) x (.ins C dx [])) (fun v H2 => v = .non ∧ Q (.ref x) H2) E
def tMe (C : Addr) (m : Str) (sp : Sp) (E : XK) (ta : TE) (t : TA) : TE := fun σ H Q => ta σ H fun x H1 => ∃ a dx fs, x = .ref a ∧ H1 a = some (.ins C dx fs) ∧ fs.lookup m = none ∧ t σ H1 fun vs H2 => sp (x :: vs) H2 Q E
section
variable {X : Cx} {k j : Nat} {C : Addr} {x m : Str} {sp : Sp} {E : XK} {p pos apos : Pos} {e o : Expr} {es : List Expr} {ta : TE} {t : TA}
theorem pe_mc (c : Mc X.prog X.w X.K X.mg X.base k x C sp) (hr : Room j X.A) (hk : k + 1 ≤ j) (hg : Gl X x) (hx : Passes (L2.CX X.prog X.w) X E) (ha : PA X (e :: es) t)
    (hdb : (x == ("__debug__" : Str)) = false := by decide) (he : starEach (e :: es) X.env = (false, eval e X.env) :: starEach es X.env := by rfl) (hpl : (backTo pos (starEach es X.env)).any (·.1) = false := by rfl) :
    PE X (.Call (.Name x p) (e :: es) [] pos) (tMk C sp E t) := by
  obtain ⟨f, fd, ps, M, F, hm, b⟩ := c.ex
  refine ⟨fun pins s σ H Q I h => ?_⟩
  refine (pe_make M F (hr.mono hk) hg hm b .nil hx ha hdb he hpl).run pins s σ H Q I ?_
  have q : t σ H fun vs H1 => ∀ x dx, H1 x = none → H1 dx = none → dx ≠ x → sp (.ref x :: vs) (upd (upd H1 dx (.own x)) x (.ins C dx [])) (fun v H2 => v = .non ∧ Q (.ref x) H2) E := h
  have e0 : (fun (vs : List V) (H1 : Hp) => ∀ x dx, H1 x = none → H1 dx = none → dx ≠ x → sp (.ref x :: (vs ++ [])) (upd (upd H1 dx (.own x)) x (.ins C dx [])) (fun v H2 => v = .non ∧ Q (.ref x) H2) E) =
      fun vs H1 => ∀ x dx, H1 x = none → H1 dx = none → dx ≠ x → sp (.ref x :: vs) (upd (upd H1 dx (.own x)) x (.ins C dx [])) (fun v H2 => v = .non ∧ Q (.ref x) H2) E := by
    funext vs H1
    rw [List.append_nil]
  show t σ H fun vs H1 => ∀ x dx, H1 x = none → H1 dx = none → dx ≠ x → sp (.ref x :: (vs ++ [])) (upd (upd H1 dx (.own x)) x (.ins C dx [])) (fun v H2 => v = .non ∧ Q (.ref x) H2) E
  rw [e0]
  exact q
theorem pe_me {pl : Sem Bool} (c : Me X.prog X.w X.K X.mg X.base k C m sp) (hr : Room j X.A) (hk : k ≤ j) (hx : Passes (L2.CX X.prog X.w) X E) (he : PE X o ta) (ha : PA X (e :: es) t)
    (hst : starEach (e :: es) X.env = (false, eval e X.env) :: starEach es X.env := by rfl) (hpl : (backTo pos (starEach es X.env)).any (·.1) = false := by rfl)
    (ht : eval (.Call (.Attribute o m apos) (e :: es) [] pos) X.env = (do
      let ov ← eval o X.env
      standAt apos.atName
      let (f, first) ← holding [ov] (getMethod ov m pl)
      callWith pos f first (backTo pos (starEach (e :: es) X.env)) (backToKw pos (keywordEach [] X.env))) := by rfl) :
    PE X (.Call (.Attribute o m apos) (e :: es) [] pos) (tMe C m sp E ta t) := by
  obtain ⟨f, fd, ps, hc, hm, F, b⟩ := c.ex
  refine ⟨fun pins s σ H Q I h => ?_⟩
  refine (pe_meth (pl := pl) he hc hm F (hr.mono hk) b .nil hx ha hst hpl ht).run pins s σ H Q I ?_
  have e0 : (fun (x : V) (H1 : Hp) => ∃ a dx fs, x = .ref a ∧ H1 a = some (.ins C dx fs) ∧ fs.lookup m = none ∧ t σ H1 fun vs H2 => sp (x :: (vs ++ [])) H2 Q E) =
      fun x H1 => ∃ a dx fs, x = .ref a ∧ H1 a = some (.ins C dx fs) ∧ fs.lookup m = none ∧ t σ H1 fun vs H2 => sp (x :: vs) H2 Q E := by
    funext x H1
    simp only [List.append_nil]
  show ta σ H fun x H1 => ∃ a dx fs, x = .ref a ∧ H1 a = some (.ins C dx fs) ∧ fs.lookup m = none ∧ t σ H1 fun vs H2 => sp (x :: (vs ++ [])) H2 Q E
  rw [e0]
  exact h
theorem pe_me0 {pl : Sem Bool} (c : Me X.prog X.w X.K X.mg X.base k C m sp) (hr : Room j X.A) (hk : k ≤ j) (hx : Passes (L2.CX X.prog X.w) X E) (he : PE X o ta)
    (ht : eval (.Call (.Attribute o m apos) [] [] pos) X.env = (do
      let ov ← eval o X.env
      standAt apos.atName
      let (f, first) ← holding [ov] (getMethod ov m pl)
      callWith pos f first (backTo pos (starEach [] X.env)) (backToKw pos (keywordEach [] X.env))) := by rfl) :
    PE X (.Call (.Attribute o m apos) [] [] pos) (tMe C m sp E ta tNil) := by
  obtain ⟨f, fd, ps, hc, hm, F, b⟩ := c.ex
  exact pe_meth0 (pl := pl) he hc hm F (hr.mono hk) b .nil hx ht
end
end Fw
end

section
-- part Fs
set_option Elab.async false
set_option linter.all false
set_option maxRecDepth 100000
set_option maxHeartbeats 2000000
/-! Fs: readings, step by step -/
namespace Fw
open PySem PySem.Spec PyProof.Rows L2
section
variable {K : PySem.W.Frag} {σ : L2.St} {H : Hp} {Q : VK} {ta tb te tc : TE} {t u : TS} {D : Ends} {v x y : V} {i : Nat} {r : R2} {tt tu : TT} {QT : Bool → Hp → Prop} {tr : TA} {QA : List V → Hp → Prop} {E : XK} {sp : Sp}
theorem w_seq (h : t { D with nx := u D } σ H) : tSeq t u D σ H := h
theorem w_asg {g : TG} (h : te σ H fun x H1 => g x σ H1 D.nx) : tAsg te g D σ H := h
theorem w_ret (h : te σ H D.rt) : tRet te D σ H := h
theorem w_drop (h : te σ H fun _ H1 => D.nx σ H1) : tDrop te D σ H := h
theorem w_next (h : D.nx σ H) : tNext D σ H := h
theorem w_ifs (h : tt σ H fun b H1 => if b = true then t D σ H1 else u D σ H1) : tIfS tt t u D σ H := h
theorem w_var (h : σ[i]? = some (some v)) (q : Q v H) : tVar i σ H Q := ⟨v, h, q⟩
theorem w_c (q : Q v H) : tC v σ H Q := q
theorem w_op (h : ta σ H fun x H1 => tb σ H1 fun y H2 => r x y H2 Q) : tOp r ta tb σ H Q := h
theorem w_un {r : V → Hp → VK → Prop} (h : ta σ H fun x H1 => r x H1 Q) : tUn r ta σ H Q := h
theorem w_cons (h : ta σ H fun x H1 => tr σ H1 fun xs H2 => QA (x :: xs) H2) : tCons ta tr σ H QA := h
theorem w_nil (q : QA [] H) : tNil σ H QA := q
theorem w_cl (h : tr σ H fun vs H1 => sp vs H1 Q E) : tCl sp E tr σ H Q := h
theorem w_cb {r : List V → Hp → VK → Prop} (h : tr σ H fun vs H1 => r vs H1 Q) : tCB r tr σ H Q := h
theorem w_gname {Q : L2.St → Hp → Prop} (h : Q (σ.set i (some v)) H) : gName i v σ H Q := h
theorem w_gsub {Q : L2.St → Hp → Prop} {s : TSet} (h : ta σ H fun o H1 => tb σ H1 fun i H2 => s o i v H2 fun H3 => Q σ H3) : gSub ta tb s v σ H Q := h
theorem w_test (h : te σ H fun x H1 => ∃ k, x = .bl k ∧ QT k H1) : tTest te σ H QT := h
theorem w_B (h : te σ H fun x H1 => ∃ k, x = .bl k ∧ QT k H1) : tB te σ H QT := h
theorem w_bl {b : Bool} {P : Bool → Prop} (h : P b) : ∃ k, V.bl b = V.bl k ∧ P k := ⟨b, rfl, h⟩
theorem w_and (h : tt σ H fun b H1 => if b = true then tu σ H1 QT else QT false H1) : tAnd tt tu σ H QT := h
theorem w_or (h : tt σ H fun b H1 => if b = true then QT true H1 else tu σ H1 QT) : tOr tt tu σ H QT := h
theorem w_not (h : tt σ H fun b H1 => QT (!b) H1) : tNot tt σ H QT := h
theorem w_if (h : tt σ H fun b H1 => if b = true then ta σ H1 Q else tb σ H1 Q) : tIf tt ta tb σ H Q := h
theorem w_I0 {g : Int → Int → V} {i j : Int} (q : Q (g i j) H) : rI0 g (.int i) (.int j) H Q := ⟨i, j, rfl, rfl, q⟩
theorem w_I {C : Int → Int → Prop} {g : Int → Int → V} {i j : Int} (c : C i j) (q : Q (g i j) H) : rI C g (.int i) (.int j) H Q := ⟨i, j, rfl, rfl, c, q⟩
theorem w_eq (s : scal x y = true) (q : Q (.bl (decide (x = y))) H) : rEq x y H Q := ⟨s, q⟩
theorem w_ne (s : scal x y = true) (q : Q (.bl (!decide (x = y))) H) : rNe x y H Q := ⟨s, q⟩
theorem w_ixL {p : Addr} {xs : List V} {i : Int} (h : H p = some (.lst xs)) (a : atI xs i = some v) (q : Q v H) : rIxL K (.ref p) (.int i) H Q := ⟨p, xs, i, v, rfl, rfl, .inl (.inl h), a, q⟩
theorem w_setL {p : Addr} {xs : List V} {k : Int} {j : Nat} {Q : Hp → Prop} (h : H p = some (.lst xs)) (a : ixN xs.length k = some j) (q : Q (upd H p (.lst (xs.set j v)))) : rSetL (.ref p) (.int k) v H Q := ⟨p, xs, k, j, rfl, rfl, h, a, q⟩
theorem w_lst (h : tr σ H fun xs H1 => xs.length ≤ sizeLine ∧ ∀ p, H1 p = none → Q (.ref p) (upd H1 p (.lst xs))) : tLst tr σ H Q := h
theorem w_tup (h : tr σ H fun xs H1 => xs.length ≤ sizeLine ∧ ∀ p, H1 p = none → Q (.ref p) (upd H1 p (.tup xs))) : tTup tr σ H Q := h
theorem w_iteD {p : Prop} [Decidable p] {A B : Prop} (h1 : p → A) (h2 : ¬ p → B) : if decide p = true then A else B := by
  by_cases c : p
  · rw [if_pos (decide_eq_true c)]
    exact h1 c
  · rw [if_neg (by simp [c])]
    exact h2 c
theorem w_ite {b : Bool} {A B : Prop} (h1 : b = true → A) (h2 : b = false → B) : if b = true then A else B := by
  cases b with
  | true => rw [if_pos rfl]; exact h1 rfl
  | false => rw [if_neg Bool.false_ne_true]; exact h2 rfl
theorem w_iteT {A B : Prop} (h : A) : if true = true then A else B := by rw [if_pos rfl]; exact h
theorem w_iteF {A B : Prop} (h : B) : if false = true then A else B := by rw [if_neg Bool.false_ne_true]; exact h
theorem w_fld {f : Str} (h : ta σ H fun x H1 => ∃ a C dx fs v, x = .ref a ∧ H1 a = some (.ins C dx fs) ∧ Cls K C ∧ NoAttr K C f ∧ fs.lookup f = some v ∧ Q v H1) : tFld K ta f σ H Q := h
theorem w_mk {C : Addr} (h : tr σ H fun vs H1 => ∀ x dx, H1 x = none → H1 dx = none → dx ≠ x → sp (.ref x :: vs) (upd (upd H1 dx (.own x)) x (.ins C dx [])) (fun v H2 => v = .non ∧ Q (.ref x) H2) E) : tMk C sp E tr σ H Q := h
theorem w_me {C : Addr} {m : Str} (h : ta σ H fun x H1 => ∃ a dx fs, x = .ref a ∧ H1 a = some (.ins C dx fs) ∧ fs.lookup m = none ∧ tr σ H1 fun vs H2 => sp (x :: vs) H2 Q E) : tMe C m sp E ta tr σ H Q := h
theorem w_sfld {tv : TE} {f : Str} (h : tv σ H fun y H1 => ta σ H1 fun x H2 => ∃ a C dx fs, x = .ref a ∧ H2 a = some (.ins C dx fs) ∧ Cls K C ∧ NoAttr K C f ∧ fs.length < 1000 ∧ D.nx σ (upd H2 a (.ins C dx (putF f y fs)))) : sFld K ta tv f D σ H := h
theorem w_bm {T : String} {r : V → List V → Hp → VK → Prop} (h : ta σ H fun x H1 => tyV K T x H1 ∧ tr σ H1 fun xs H2 => r x xs H2 Q) : tBM K T r ta tr σ H Q := h
theorem w_bm0 {T : String} {r : V → List V → Hp → VK → Prop} (h : ta σ H fun x H1 => tyV K T x H1 ∧ r x [] H1 Q) : tBM0 K T r ta σ H Q := h
theorem w_sl {r : V → Option Int → Option Int → Hp → VK → Prop} {tl th : TO} (h : te σ H fun x H1 => tl σ H1 fun l H2 => th σ H2 fun u H3 => r x l u H3 Q) : tSl r te tl th σ H Q := h
theorem w_part {Q : Option Int → Hp → Prop} (h : te σ H fun x H1 => ∃ i, x = .int i ∧ Q (some i) H1) : tPart te σ H Q := h
theorem w_nopart {Q : Option Int → Hp → Prop} (h : Q none H) : tNoPart σ H Q := h
theorem w_partI {n : Int} {P : Int → Prop} (h : P n) : ∃ i, V.int n = V.int i ∧ P i := ⟨n, rfl, h⟩
theorem w_aug {ti : TIp} (h : σ[i]? = some (some x)) (q : te σ H fun y H1 => ti x y H1 fun z H2 => D.nx (σ.set i (some z)) H2) : tAug i te ti D σ H := ⟨x, h, q⟩
theorem w_ipI {f : Int → Int → Int} {i j : Int} (q : Q (.int (f i j)) H) : ipI f (.int i) (.int j) H Q := ⟨i, j, rfl, rfl, q⟩
end
theorem hu64 {k : Nat} {A : Around} (r : Room k A) : A.units + 64 < cLine := by have := r.un; omega
theorem hu1 {k : Nat} {A : Around} (r : Room k A) : A.units < cLine := by have := r.un; omega
section
variable {K : PySem.W.Frag} {σ : L2.St} {H : Hp} {Q : VK} {ta tb tc : TE} {r r' : R2} {v x y : V}
theorem w_chain (h : ta σ H fun x H1 => tb σ H1 fun y H2 => r x y H2 fun z H3 => ∃ k, z = .bl k ∧ (if k = true then tc σ H3 fun w' H4 => r' y w' H4 Q else Q (.bl false) H3)) : tChain r r' ta tb tc σ H Q := h
theorem w_x1i {c : Int} {P : Int → Prop} (h : P c) : ∃ i, [V.int c] = [V.int i] ∧ P i := ⟨c, rfl, h⟩
theorem w_x1b {c : Bool} {P : Bool → Prop} (h : P c) : ∃ i, [V.bl c] = [V.bl i] ∧ P i := ⟨c, rfl, h⟩
theorem w_x1s {c : Str} {P : Str → Prop} (h : P c) : ∃ i, [V.str c] = [V.str i] ∧ P i := ⟨c, rfl, h⟩
theorem w_int1i {c : Int} {P : Int → Prop} {R : Prop} (h : P c) : (∃ i, [V.int c] = [V.int i] ∧ P i) ∨ R := .inl ⟨c, rfl, h⟩
theorem w_int1b {c : Bool} {P : Bool → Prop} {R : Prop} (h : P c) : R ∨ ∃ i, [V.bl c] = [V.bl i] ∧ P i := .inr ⟨c, rfl, h⟩
theorem w_mod {i j : Int} (c : 0 < j) (q : Q (.int (i % j)) H) : rI (fun _ j => 0 < j) (fun i j => V.int (i % j)) (.int i) (.int j) H Q := ⟨i, j, rfl, rfl, c, q⟩
theorem w_mul {i j : Int} (c : CMul i j) (q : Q (.int (i * j)) H) : rI CMul (fun i j => V.int (i * j)) (.int i) (.int j) H Q := ⟨i, j, rfl, rfl, c, q⟩
theorem w_fdivW {i j : Int} (c : 0 < j) (c2 : j < 2 ^ 60) (q : Q (.int (i / j)) H) : rI CDivW (fun i j => V.int (i / j)) (.int i) (.int j) H Q :=
  ⟨i, j, rfl, rfl, wide_div (b := 60) c (by omega) (by decide) (by decide), q⟩
theorem w_pow {i j : Int} (c : CPow i j) (q : Q (.int (i ^ j.toNat)) H) : rI CPow (fun i j => V.int (i ^ j.toNat)) (.int i) (.int j) H Q := ⟨i, j, rfl, rfl, c, q⟩
end
section
variable {K : PySem.W.Frag} {σ : L2.St} {H : Hp} {Q : VK} {v x y : V}
theorem w_setLu {p : Addr} {xs : List V} {k : Int} {j : Nat} {Q : Hp → Prop} (a : ixN xs.length k = some j) (q : Q (upd H p (.lst (xs.set j v)))) : rSetL (.ref p) (.int k) v (upd H p (.lst xs)) Q := ⟨p, xs, k, j, rfl, rfl, upd_same, a, by rw [upd_upd]; exact q⟩
theorem w_new {n : Nat} {B : Prop} (hz : Nat.ble n 1000 = true) (h : B) : n ≤ sizeLine ∧ B := ⟨Nat.le_trans (Nat.le_of_ble_eq_true hz) (by decide), h⟩
theorem mod_b {a m : Int} (h : 0 < m) : 0 ≤ a % m ∧ a % m < m := ⟨Int.emod_nonneg a (by omega), Int.emod_lt_of_pos a h⟩
end
section
variable {K : PySem.W.Frag} {σ : L2.St} {H : Hp} {Q : VK} {tl te : TE} {ta : TA} {j : Nat} {vs : List Nat} {tt : TT} {g : TG} {wi : TI}
theorem w_lc (h : wi σ H fun J H1 => ∀ D, H1 D = none → ∃ W : Nat → Nat → Hp → Prop, (∃ m, W 0 m (upd H1 D (.lst []))) ∧ ∀ i m H, W i m H →
  (J.stop i H ∧ Q (.ref D) H) ∨ (J.go i H ∧ ∃ Nx : Hp → Prop, (∀ H', Nx H' → ∃ m', m' < m ∧ W (i + 1) m' H') ∧ ∀ x H', J.yld i H x H' → g x (wipe σ vs) H' fun σ2 H2 => wipe σ2 vs = wipe σ vs ∧ tt σ2 H2 fun b H3 =>
    if b = true then te σ2 H3 fun y H4 => ∃ acc, H4 D = some (.lst acc) ∧ acc.length < sizeLine ∧ Nx (upd H4 D (.lst (acc ++ [y]))) else Nx H3)) : tLc wi g tt te vs σ H Q := h
theorem w_iL {R : It → Hp → Prop} (h : tl σ H fun x H1 => ∃ a, x = .ref a ∧ (∃ xs, SqL K H1 a xs) ∧ R (Itl K a) H1) : iList K tl σ H R := h
theorem w_iT {R : It → Hp → Prop} (h : tl σ H fun x H1 => ∃ a, x = .ref a ∧ (∃ xs, SqT K H1 a xs) ∧ R (Itt K a) H1) : iTup K tl σ H R := h
theorem w_iR1 {R : It → Hp → Prop} (h : ta σ H fun vs H1 => ∃ j : Int, vs = [.int j] ∧ -(2 ^ 62) ≤ j ∧ j < 2 ^ 62 ∧ R (Itr 0 j.toNat) H1) : iRng1 ta σ H R := h
theorem w_iR2 {R : It → Hp → Prop} (h : ta σ H fun vs H1 => ∃ i j : Int, vs = [.int i, .int j] ∧ (-(2 ^ 62) ≤ i ∧ i < 2 ^ 62 ∧ -(2 ^ 62) ≤ j ∧ j < 2 ^ 62) ∧ R (Itr i (j - i).toNat) H1) : iRng2 ta σ H R := h
theorem w_yes {Q : Bool → Hp → Prop} (h : Q true H) : tYes σ H Q := h
/-- a comprehension over a list: the turn's word Pv -/
theorem w_lcL {p : Addr} {xs : List V} (hS : SqL K H p xs) (h : ∀ D, H D = none → ∃ Pv : Nat → Hp → Prop, Pv 0 (upd H D (.lst [])) ∧ (∀ i H2, i ≤ xs.length → Pv i H2 → SqL K H2 p xs) ∧
      (∀ i x H2, xs[i]? = some x → Pv i H2 → g x (wipe σ vs) H2 fun σ2 H2 => wipe σ2 vs = wipe σ vs ∧ tt σ2 H2 fun b H3 =>
        if b = true then te σ2 H3 fun y H4 => ∃ acc, H4 D = some (.lst acc) ∧ acc.length < sizeLine ∧ Pv (i + 1) (upd H4 D (.lst (acc ++ [y]))) else Pv (i + 1) H3) ∧ (∀ H2, Pv xs.length H2 → Q (.ref D) H2)) :
    ∃ a, V.ref p = .ref a ∧ (∃ xs, SqL K H a xs) ∧ ∀ D, H D = none → ∃ W : Nat → Nat → Hp → Prop, (∃ m, W 0 m (upd H D (.lst []))) ∧ ∀ i m H, W i m H →
      ((Itl K a).stop i H ∧ Q (.ref D) H) ∨ ((Itl K a).go i H ∧ ∃ Nx : Hp → Prop, (∀ H', Nx H' → ∃ m', m' < m ∧ W (i + 1) m' H') ∧ ∀ x H', (Itl K a).yld i H x H' → g x (wipe σ vs) H' fun σ2 H2 => wipe σ2 vs = wipe σ vs ∧ tt σ2 H2 fun b H3 =>
        if b = true then te σ2 H3 fun y H4 => ∃ acc, H4 D = some (.lst acc) ∧ acc.length < sizeLine ∧ Nx (upd H4 D (.lst (acc ++ [y]))) else Nx H3) :=
  ⟨p, rfl, ⟨xs, hS⟩, fun D hD => by
    obtain ⟨Pv, h0, hl, hs, hd⟩ := h D hD
    exact lc_list Pv h0 hl hs hd⟩
/-- .. over range(n) -/
theorem w_lcR {n : Int} (hn : 0 ≤ n ∧ n < 2 ^ 62) (h : ∀ D, H D = none → ∃ Pv : Nat → Hp → Prop, Pv 0 (upd H D (.lst [])) ∧
      (∀ (i : Nat) H2, (i : Int) < n → Pv i H2 → g (.int (0 + (i : Int))) (wipe σ vs) H2 fun σ2 H2 => wipe σ2 vs = wipe σ vs ∧ tt σ2 H2 fun b H3 =>
        if b = true then te σ2 H3 fun y H4 => ∃ acc, H4 D = some (.lst acc) ∧ acc.length < sizeLine ∧ Pv (i + 1) (upd H4 D (.lst (acc ++ [y]))) else Pv (i + 1) H3) ∧ (∀ H2, Pv n.toNat H2 → Q (.ref D) H2)) :
    ∃ j : Int, [V.int n] = [.int j] ∧ -(2 ^ 62) ≤ j ∧ j < 2 ^ 62 ∧ ∀ D, H D = none → ∃ W : Nat → Nat → Hp → Prop, (∃ m, W 0 m (upd H D (.lst []))) ∧ ∀ i m H, W i m H →
      ((Itr 0 j.toNat).stop i H ∧ Q (.ref D) H) ∨ ((Itr 0 j.toNat).go i H ∧ ∃ Nx : Hp → Prop, (∀ H', Nx H' → ∃ m', m' < m ∧ W (i + 1) m' H') ∧ ∀ x H', (Itr 0 j.toNat).yld i H x H' → g x (wipe σ vs) H' fun σ2 H2 => wipe σ2 vs = wipe σ vs ∧ tt σ2 H2 fun b H3 =>
        if b = true then te σ2 H3 fun y H4 => ∃ acc, H4 D = some (.lst acc) ∧ acc.length < sizeLine ∧ Nx (upd H4 D (.lst (acc ++ [y]))) else Nx H3) :=
  ⟨n, rfl, by omega, hn.2, fun D hD => by
    obtain ⟨Pv, h0, hs, hd⟩ := h D hD
    exact lc_range Pv h0 (fun i H hi p => hs i H (by omega) p) hd⟩
theorem w_for {wi : TI} {g : TG} {tb : TS} {D : Ends} (h : wi σ H fun J H1 => ∃ W : Nat → Nat → L2.St → Hp → Prop, (∃ m, W 0 m σ H1) ∧ ∀ i m σ H, W i m σ H →
  (J.stop i H ∧ D.nx σ H) ∨ (J.go i H ∧ ∃ N : L2.St → Hp → Prop, (∀ σ' H', N σ' H' → ∃ m', m' < m ∧ W (i + 1) m' σ' H') ∧ ∀ x H', J.yld i H x H' → g x σ H' fun σ2 H2 => tb { D with nx := N, ct := N, bk := D.nx } σ2 H2)) : tFor wi g tb D σ H := h
theorem w_forL {g : TG} {tb : TS} {D : Ends} {p : Addr} {xs : List V} (hS : SqL K H p xs) (Pv : Nat → L2.St → Hp → Prop) (h0 : Pv 0 σ H) (hl : ∀ i σ H, i ≤ xs.length → Pv i σ H → SqL K H p xs)
    (hs : ∀ i x σ H, xs[i]? = some x → Pv i σ H → g x σ H fun σ2 H2 => tb { D with nx := Pv (i + 1), ct := Pv (i + 1), bk := D.nx } σ2 H2) (hd : ∀ σ H, Pv xs.length σ H → D.nx σ H) :
    ∃ a, V.ref p = .ref a ∧ (∃ xs, SqL K H a xs) ∧ ∃ W : Nat → Nat → L2.St → Hp → Prop, (∃ m, W 0 m σ H) ∧ ∀ i m σ H, W i m σ H →
      ((Itl K a).stop i H ∧ D.nx σ H) ∨ ((Itl K a).go i H ∧ ∃ N : L2.St → Hp → Prop, (∀ σ' H', N σ' H' → ∃ m', m' < m ∧ W (i + 1) m' σ' H') ∧ ∀ x H', (Itl K a).yld i H x H' → g x σ H' fun σ2 H2 => tb { D with nx := N, ct := N, bk := D.nx } σ2 H2) :=
  ⟨p, rfl, ⟨xs, hS⟩, for_list Pv h0 hl hs hd⟩
theorem w_forT {g : TG} {tb : TS} {D : Ends} {p : Addr} {xs : List V} (hS : SqT K H p xs) (Pv : Nat → L2.St → Hp → Prop) (h0 : Pv 0 σ H) (hl : ∀ i σ H, i ≤ xs.length → Pv i σ H → SqT K H p xs)
    (hs : ∀ i x σ H, xs[i]? = some x → Pv i σ H → g x σ H fun σ2 H2 => tb { D with nx := Pv (i + 1), ct := Pv (i + 1), bk := D.nx } σ2 H2) (hd : ∀ σ H, Pv xs.length σ H → D.nx σ H) :
    ∃ a, V.ref p = .ref a ∧ (∃ xs, SqT K H a xs) ∧ ∃ W : Nat → Nat → L2.St → Hp → Prop, (∃ m, W 0 m σ H) ∧ ∀ i m σ H, W i m σ H →
      ((Itt K a).stop i H ∧ D.nx σ H) ∨ ((Itt K a).go i H ∧ ∃ N : L2.St → Hp → Prop, (∀ σ' H', N σ' H' → ∃ m', m' < m ∧ W (i + 1) m' σ' H') ∧ ∀ x H', (Itt K a).yld i H x H' → g x σ H' fun σ2 H2 => tb { D with nx := N, ct := N, bk := D.nx } σ2 H2) :=
  ⟨p, rfl, ⟨xs, hS⟩, for_tup Pv h0 hl hs hd⟩
theorem w_forR {g : TG} {tb : TS} {D : Ends} {n : Int} (hn : 0 ≤ n ∧ n < 2 ^ 62) (Pv : Nat → L2.St → Hp → Prop) (h0 : Pv 0 σ H)
    (hs : ∀ (i : Nat) σ H, (i : Int) < n → Pv i σ H → g (.int (0 + (i : Int))) σ H fun σ2 H2 => tb { D with nx := Pv (i + 1), ct := Pv (i + 1), bk := D.nx } σ2 H2) (hd : ∀ σ H, Pv n.toNat σ H → D.nx σ H) :
    ∃ j : Int, [V.int n] = [.int j] ∧ -(2 ^ 62) ≤ j ∧ j < 2 ^ 62 ∧ ∃ W : Nat → Nat → L2.St → Hp → Prop, (∃ m, W 0 m σ H) ∧ ∀ i m σ H, W i m σ H →
      ((Itr 0 j.toNat).stop i H ∧ D.nx σ H) ∨ ((Itr 0 j.toNat).go i H ∧ ∃ N : L2.St → Hp → Prop, (∀ σ' H', N σ' H' → ∃ m', m' < m ∧ W (i + 1) m' σ' H') ∧ ∀ x H', (Itr 0 j.toNat).yld i H x H' → g x σ H' fun σ2 H2 => tb { D with nx := N, ct := N, bk := D.nx } σ2 H2) :=
  ⟨n, rfl, by omega, hn.2, for_range Pv h0 (fun i σ H hi p => hs i σ H (by omega) p) hd⟩
/-- while: a word with a measure; the test is read in the word -/
theorem w_while {c : TT} {tb : TS} {D : Ends} (W : Nat → L2.St → Hp → Prop) (m : Nat) (h0 : W m σ H)
    (hs : ∀ m σ H, W m σ H → c σ H fun b H1 => if b = true then ∃ N : L2.St → Hp → Prop, (∀ σ' H', N σ' H' → ∃ m', m' < m ∧ W m' σ' H') ∧ tb { D with nx := N, ct := N, bk := D.nx } σ H1 else D.nx σ H1) : tWhile c tb D σ H :=
  ⟨W, ⟨m, h0⟩, hs⟩
theorem w_gtup {n : Nat} {t : TGs} {a : Addr} {xs : List V} {Q : L2.St → Hp → Prop} (h : H a = some (.tup xs)) (hn : xs.length = n) (q : t xs σ H Q) : gTup K n t (.ref a) σ H Q := ⟨a, xs, rfl, SqT.of h, hn, q⟩
theorem w_gcons {t : TG} {u : TGs} {v : V} {r : List V} {Q : L2.St → Hp → Prop} (h : t v σ H fun σ' H' => u r σ' H' Q) : gCons t u (v :: r) σ H Q := ⟨v, r, rfl, h⟩
theorem w_gnil {Q : L2.St → Hp → Prop} (h : Q σ H) : gNil [] σ H Q := ⟨rfl, h⟩
theorem w_app {l : Addr} {xs : List V} {y : V} {Q : VK} (h : H l = some (.lst xs)) (hz : xs.length < sizeLine) (q : Q .non (upd H l (.lst (xs ++ [y])))) : rAppend (.ref l) [y] H Q := ⟨l, xs, y, rfl, rfl, h, hz, q⟩
end
end Fw
end

section
-- part Fd
set_option Elab.async false
set_option linter.all false
set_option maxRecDepth 100000
set_option maxHeartbeats 2000000
/-! Fd: data -/
namespace Fw
open PySem PySem.Spec PyProof.Rows L2
section
variable {K : PySem.W.Frag} {H H' : Hp}
theorem dp_ints : ∀ ns : List Int, DpAll K H (ns.map V.int) (ns.map PyData.int)
  | [] => .nil
  | n :: r => .cons (.int n) (dp_ints r)
theorem lay_ints : ∀ ns : List Int, PyData.canLayAll0 (ns.map PyData.int) = true
  | [] => rfl
  | _ :: r => lay_ints r
theorem dep_ints (ns : List Int) : PyData.depth (.list (ns.map PyData.int)) ≤ 64 := by
  have h : ∀ ns : List Int, PyData.depthAll (ns.map PyData.int) ≤ 1 := by
    intro ns
    induction ns with
    | nil => simp [PyData.depthAll]
    | cons n r ih => simp only [List.map_cons, PyData.depthAll, PyData.depth]; omega
  have := h ns
  simp only [PyData.depth]
  omega
theorem shaped_ints (ns : List Int) : SeqAt.shaped (.list (ns.map PyData.int)) = true := by
  unfold SeqAt.shaped
  rw [Bool.and_eq_true]
  exact ⟨lay_ints ns, decide_eq_true (dep_ints ns)⟩
theorem eqv_nil (ns : List Int) : PyData.eqv (.list (ns.map PyData.int)) (.list []) = decide (ns = []) := by
  cases ns <;> rfl
theorem cut_ints (ns : List Int) (lo hi : Option Int) : ∃ ms : List Int, cutV (ns.map V.int) lo hi = ms.map V.int ∧ ms.length ≤ ns.length := by
  refine ⟨(ns.drop (HT.sIx (ns.map V.int).length 0 lo)).take (HT.sIx (ns.map V.int).length (ns.map V.int).length hi - HT.sIx (ns.map V.int).length 0 lo), ?_, ?_⟩
  · unfold cutV
    rw [List.map_take, List.map_drop]
  · rw [List.length_take, List.length_drop]
    omega
end
end Fw
end

section
-- part Fx
set_option Elab.async false
set_option linter.all false
set_option maxRecDepth 100000
set_option maxHeartbeats 2000000
/-! Fx: texts as lists of signs -/
namespace Fw
open PySem PySem.Spec PyProof.Rows L2 SX
open Builtin.Str PySem.StrLaws
abbrev S (l : List Nat) : Str := SX.S l
theorem fromIx {n p : Nat} : fromIndex n (p : Int) = p := by
  unfold fromIndex
  rw [if_neg (by omega)]
  omega
theorem at_pre (l b : List Nat) (i : Nat) : At (S l) (S b) (S l).length i ↔ (i + b.length ≤ l.length ∧ (l.drop i).take b.length = b) := by
  unfold At
  rw [S_len, S_len, subAt_eq, S_len]
  simp [SX.S]
theorem starts3 (l b : List Nat) (p : Nat) : Txt.startswith3 (S l) (S b) (p : Int) = decide ((l.drop p).take b.length = b ∧ p + b.length ≤ l.length) := by
  unfold Txt.startswith3
  rw [fromIx, S_len, S_len, subAt_eq, S_len]
  have e : (S l).cps.toList = l := by simp [SX.S]
  have e2 : (S b).cps.toList = b := by simp [SX.S]
  rw [e, e2]
  by_cases h : p + b.length ≤ l.length
  · by_cases h2 : (l.drop p).take b.length = b
    · simp [h, h2]
    · simp [h, h2]
  · simp [h]
/-- the place of the first c from p on -/
theorem find3_one (l : List Nat) (c p : Nat) : Txt.find3 (S l) (S [c]) (p : Int) = (match (l.drop p).findIdx? (· == c) with | some k => ((p + k : Nat) : Int) | none => -1) := by
  unfold Txt.find3
  rw [fromIx]
  have one : ∀ i, At (S l) (S [c]) (S l).length i ↔ l[i]? = some c := by
    intro i
    rw [at_pre]
    constructor
    · rintro ⟨h1, h2⟩
      simp only [List.length_singleton] at h1 h2
      have hi : i < l.length := by omega
      rw [List.getElem?_eq_getElem hi]
      have e3 : List.take 1 (List.drop i l) = [l[i]] := by rw [List.drop_eq_getElem_cons hi]; rfl
      rw [e3] at h2
      exact congrArg some (List.cons.inj h2).1
    · intro h
      obtain ⟨hi, e⟩ := List.getElem?_eq_some_iff.mp h
      refine ⟨by simp; omega, ?_⟩
      rw [List.drop_eq_getElem_cons hi]
      simp [e]
  rcases occ_head_from (S l) (S [c]) p 1 (by decide) with ⟨h0, hn⟩ | ⟨i, r, h0, hi, ha, hn⟩
  · rw [h0]
    have : (l.drop p).findIdx? (· == c) = none := by
      rw [List.findIdx?_eq_none_iff]
      intro x hx
      obtain ⟨k, hk, e⟩ := List.getElem_of_mem hx
      rw [List.getElem_drop] at e
      cases q : x == c with
      | false => rfl
      | true =>
        have hl : p + k < l.length := by rw [List.length_drop] at hk; omega
        exact absurd ((one (p + k)).mpr (by rw [List.getElem?_eq_getElem hl, e, eq_of_beq q])) (hn (p + k) (by omega))
    rw [this]
  · rw [h0]
    have hk : (l.drop p).findIdx? (· == c) = some (i - p) := by
      rw [List.findIdx?_eq_some_iff_getElem]
      obtain ⟨hl, e⟩ := List.getElem?_eq_some_iff.mp ((one i).mp ha)
      have e2 : (l.drop p)[i - p]? = some c := by
        rw [List.getElem?_drop]
        have : p + (i - p) = i := by omega
        rw [this]
        exact (one i).mp ha
      obtain ⟨h3, e3⟩ := List.getElem?_eq_some_iff.mp e2
      refine ⟨h3, by simp [e3], fun j hj => ?_⟩
      have hj2 : p + j < i := by omega
      have := hn (p + j) (by omega) hj2
      rw [one] at this
      rw [List.getElem_drop]
      intro q
      apply this
      rw [List.getElem?_eq_getElem (by omega)]
      simp at q
      rw [q]
    rw [hk]
    show ((i : Nat) : Int) = ((p + (i - p) : Nat) : Int)
    have : p + (i - p) = i := by omega
    rw [this]
theorem cutS_nat (l : List Nat) {i j : Nat} (hi : i ≤ l.length) (hj : j ≤ l.length) : cutS (S l) (some (i : Int)) (some (j : Int)) = S ((l.drop i).take (j - i)) := by
  unfold cutS
  rw [HT.sIx_nat, HT.sIx_nat, S_len, Nat.min_eq_left hi, Nat.min_eq_left hj]
theorem cutS_any (l : List Nat) {i j : Nat} (hi : i ≤ l.length) : cutS (S l) (some (i : Int)) (some (j : Int)) = S ((l.drop i).take (j - i)) := by
  unfold cutS
  rw [HT.sIx_nat, HT.sIx_nat, S_len, Nat.min_eq_left hi]
  have : ((l.drop i).take (min j l.length - i)) = (l.drop i).take (j - i) := by
    by_cases h : j ≤ l.length
    · rw [Nat.min_eq_left h]
    · rw [Nat.min_eq_right (by omega), List.take_of_length_le (by rw [List.length_drop]; omega), List.take_of_length_le (by rw [List.length_drop]; omega)]
  show (⟨_⟩ : Str) = SX.S _
  rw [show (S l).cps.toList = l by simp [SX.S], this]
theorem cutS_from (l : List Nat) {i : Nat} (hi : i ≤ l.length) : cutS (S l) (some (i : Int)) none = S (l.drop i) := by
  unfold cutS
  rw [HT.sIx_nat, HT.sIx_none, S_len, Nat.min_eq_left hi]
  show (⟨_⟩ : Str) = SX.S _
  rw [show (S l).cps.toList = l by simp [SX.S], List.take_of_length_le (by rw [List.length_drop]; omega)]
theorem atI_nat2 {α : Type} {l : List α} {i : Nat} {c : α} (h : l[i]? = some c) : atI l (i : Int) = some c := atI_nat h
section
variable {H : Hp} {Q : VK} {K : PySem.W.Frag}
theorem w_ixS {l : List Nat} {i c : Nat} (hz : l.length ≤ sizeLine) (h : l[i]? = some c) (q : Q (.str (S [c])) H) : rIxS (.str (S l)) (.int (i : Int)) H Q :=
  ⟨S l, (i : Int), c, rfl, rfl, by rw [S_len]; exact hz, by rw [show (S l).cps.toList = l by simp [SX.S]]; exact atI_nat h, q⟩
theorem S_list (l : List Nat) : (S l).cps.toList = l := by simp [SX.S]
theorem w_inS {l : List Nat} {c : Nat} {P : Nat → Str → Prop} (q : P c (S l)) : ∃ (d : Nat) (z : Str), V.str (S [c]) = .str ⟨#[d]⟩ ∧ V.str (S l) = .str z ∧ P d z := ⟨c, S l, rfl, rfl, q⟩
theorem w_lenS {l : List Nat} {P : Str → Prop} (hz : l.length ≤ sizeLine) (q : P (S l)) : ∃ z, [V.str (S l)] = [V.str z] ∧ z.length ≤ sizeLine ∧ P z := ⟨S l, rfl, by rw [S_len]; exact hz, q⟩
theorem w_find3 {a b : Str} {p : Int} {P : Str → Str → Int → Prop} (q : P a b p) : ∃ (x y : Str) (i : Int), V.str a = .str x ∧ [V.str b, V.int p] = [.str y, .int i] ∧ P x y i := ⟨a, b, p, rfl, rfl, q⟩
theorem w_2s {a b : Str} {P : Str → Str → Prop} (q : P a b) : ∃ (x y : Str), V.str a = .str x ∧ [V.str b] = [.str y] ∧ P x y := ⟨a, b, rfl, rfl, q⟩
theorem w_slS {l : List Nat} {i j : Nat} (hz : l.length ≤ sizeLine) (hi : i ≤ l.length) (q : Q (.str (S ((l.drop i).take (j - i)))) H) : rSlS (.str (S l)) (some (i : Int)) (some (j : Int)) H Q :=
  ⟨S l, rfl, by rw [S_len]; exact hz, by rw [cutS_any l hi]; exact q⟩
theorem w_slS1 {l : List Nat} {i : Nat} (hz : l.length ≤ sizeLine) (hi : i ≤ l.length) (q : Q (.str (S (l.drop i))) H) : rSlS (.str (S l)) (some (i : Int)) none H Q :=
  ⟨S l, rfl, by rw [S_len]; exact hz, by rw [cutS_from l hi]; exact q⟩
theorem w_addS {a b : List Nat} {P : Str → Str → Prop} (hz : a.length + b.length ≤ sizeLine) (q : P (S a) (S b)) : ∃ i j, V.str (S a) = .str i ∧ V.str (S b) = .str j ∧ i.length + j.length ≤ sizeLine ∧ P i j :=
  ⟨S a, S b, rfl, rfl, by rw [S_len, S_len]; exact hz, q⟩
theorem tyS {z : Str} : tyV K "str" (.str z) H := rfl
theorem tyL {p : Addr} {xs : List V} (h : H p = some (.lst xs)) : tyV K "list" (.ref p) H := Or.inl ⟨rfl, xs, SqL.of h⟩
end
section
variable {K : PySem.W.Frag} {σ : L2.St} {H : Hp} {Q : VK} {tl te : TE}
theorem w_iStr {R : It → Hp → Prop} (h : te σ H fun v H1 => ∃ x, v = .str x ∧ R (Its x) H1) : iStr te σ H R := h
theorem for_str {x : Str} {g : TG} {tb : TS} {D : Ends} (Pv : Nat → L2.St → Hp → Prop) (h0 : Pv 0 σ H)
    (hs : ∀ i c σ H, x.cps.toList[i]? = some c → Pv i σ H → g (.str (S [c])) σ H fun σ2 H2 => tb { D with nx := Pv (i + 1), ct := Pv (i + 1), bk := D.nx } σ2 H2) (hd : ∀ σ H, Pv x.cps.toList.length σ H → D.nx σ H) :
    ∃ W : Nat → Nat → L2.St → Hp → Prop, (∃ m, W 0 m σ H) ∧ ∀ i m σ H, W i m σ H →
      ((Its x).stop i H ∧ D.nx σ H) ∨ ((Its x).go i H ∧ ∃ N : L2.St → Hp → Prop, (∀ σ' H', N σ' H' → ∃ m', m' < m ∧ W (i + 1) m' σ' H') ∧ ∀ v H', (Its x).yld i H v H' → g v σ H' fun σ2 H2 => tb { D with nx := N, ct := N, bk := D.nx } σ2 H2) := by
  have el : x.cps.toList.length = x.cps.size := by simp
  refine ⟨fun i m σ H => m = x.cps.size - i ∧ i ≤ x.cps.size ∧ Pv i σ H, ⟨_, rfl, Nat.zero_le _, h0⟩, ?_⟩
  rintro i m σ H ⟨rfl, hi, p⟩
  by_cases hlt : i < x.cps.size
  · refine .inr ⟨hlt, Pv (i + 1), fun σ' H' p' => ⟨x.cps.size - (i + 1), by omega, rfl, hlt, p'⟩, fun v H' y => ?_⟩
    obtain ⟨e, c, hc, rfl⟩ := y
    subst e
    exact hs i c σ _ (by simpa using hc) p
  · have e : i = x.cps.size := by omega
    subst e
    exact .inl ⟨Nat.le_refl _, hd σ H (by rw [el]; exact p)⟩
theorem w_forS {l : List Nat} {g : TG} {tb : TS} {D : Ends} (Pv : Nat → L2.St → Hp → Prop) (h0 : Pv 0 σ H)
    (hs : ∀ i c σ H, l[i]? = some c → Pv i σ H → g (.str (S [c])) σ H fun σ2 H2 => tb { D with nx := Pv (i + 1), ct := Pv (i + 1), bk := D.nx } σ2 H2) (hd : ∀ σ H, Pv l.length σ H → D.nx σ H) :
    ∃ x, V.str (S l) = .str x ∧ ∃ W : Nat → Nat → L2.St → Hp → Prop, (∃ m, W 0 m σ H) ∧ ∀ i m σ H, W i m σ H →
      ((Its x).stop i H ∧ D.nx σ H) ∨ ((Its x).go i H ∧ ∃ N : L2.St → Hp → Prop, (∀ σ' H', N σ' H' → ∃ m', m' < m ∧ W (i + 1) m' σ' H') ∧ ∀ v H', (Its x).yld i H v H' → g v σ H' fun σ2 H2 => tb { D with nx := N, ct := N, bk := D.nx } σ2 H2) :=
  ⟨S l, rfl, for_str Pv h0 (fun i c σ H hi p => hs i c σ H (by simpa [SX.S] using hi) p) (fun σ H p => hd σ H (by simpa [SX.S] using p))⟩
theorem find_one (l : List Nat) (c : Nat) : Txt.find (S l) (S [c]) = (match l.findIdx? (· == c) with | some k => (k : Int) | none => -1) := by
  have h := find3_one l c 0
  have e : Txt.find3 (S l) (S [c]) ((0 : Nat) : Int) = Txt.find (S l) (S [c]) := by
    unfold Txt.find3 Txt.find
    rw [fromIx]
    rfl
  rw [← e, h, List.drop_zero]
  cases l.findIdx? (· == c) with
  | none => rfl
  | some k =>
    show ((0 + k : Nat) : Int) = (k : Int)
    rw [Nat.zero_add]
theorem w_1s {a : Str} {P : Str → Prop} (q : P a) : ∃ (x : Str), V.str a = .str x ∧ ([] : List V) = [] ∧ P x := ⟨a, rfl, rfl, q⟩
end
section
variable {K : PySem.W.Frag} {σ : L2.St} {H : Hp} {Q : VK} {i : Nat}
theorem str_len_app (a b : Str) : (a ++ b).length = a.length + b.length := by
  rw [TL.len_tl, TL.len_tl, TL.len_tl, TL.tl_append, List.length_append]
theorem num_short {n : Nat} (h : n < 10 ^ 7) : (Str.ofString (toString ((n : Nat) : Int))).length ≤ 7 := by
  rw [TL.len_tl, TL.tl_num]
  exact TL.numL_len (by decide) h
theorem w_fmt {n : Nat} {Q : VK} (h : n < 10 ^ 7) (hv : σ[i]? = some (some (.int (n : Int)))) (q : Q (.str (toString ((n : Nat) : Int))) H) : tFmt (tVar i) σ H Q := by
  refine ⟨_, hv, .inr ⟨_, rfl, ?_, q⟩⟩
  by_cases h0 : n = 0
  · subst h0
    decide
  · rw [Int.natAbs_natCast]
    have := (Nat.log2_lt h0 (k := 24)).mpr (Nat.lt_of_lt_of_le h (by decide))
    omega
/-- f'a{n}' and f'a{n}b' -/
theorem w_msg2 {a : Str} {n : Nat} {R : Str → Hp → Prop} (ha : a.length ≤ 1000) (h : n < 10 ^ 7) (hv : σ[i]? = some (some (.int (n : Int)))) (q : ∀ z, R z H) : tJs [tC (.str a), tFmt (tVar i)] Str.empty σ H R := by
  have e0 : (Str.empty ++ a).length = a.length := by rw [str_len_app]; exact Nat.zero_add _
  have l := num_short h
  refine ⟨a, rfl, by rw [e0]; exact Nat.le_trans ha (by decide), w_fmt h hv ⟨_, rfl, ?_, q _⟩⟩
  rw [str_len_app, e0]
  exact Nat.le_trans (Nat.add_le_add ha l) (by decide)
theorem w_msg3 {a b : Str} {n : Nat} {R : Str → Hp → Prop} (ha : a.length ≤ 1000) (hb : b.length ≤ 1000) (h : n < 10 ^ 7) (hv : σ[i]? = some (some (.int (n : Int)))) (q : ∀ z, R z H) : tJs [tC (.str a), tFmt (tVar i), tC (.str b)] Str.empty σ H R := by
  have e0 : (Str.empty ++ a).length = a.length := by rw [str_len_app]; exact Nat.zero_add _
  have l := num_short h
  refine ⟨a, rfl, by rw [e0]; exact Nat.le_trans ha (by decide), w_fmt h hv ⟨_, rfl, ?_, ⟨b, rfl, ?_, q _⟩⟩⟩
  · rw [str_len_app, e0]
    exact Nat.le_trans (Nat.add_le_add ha l) (by decide)
  · rw [str_len_app, str_len_app, e0]
    exact Nat.le_trans (Nat.add_le_add (Nat.add_le_add ha l) hb) (by decide)
/-- in a tuple of texts -/
theorem inV_txt (a : List Nat) : ∀ ls : List (List Nat), inV (.str (S a)) (ls.map fun l => V.str (S l)) = decide (a ∈ ls)
  | [] => by simp [inV]
  | l :: r => by
    have ih := inV_txt a r
    unfold inV at ih ⊢
    rw [List.map_cons, List.any_cons, ih]
    show ((S l == S a) || decide (a ∈ r)) = _
    rw [SX.S_beq]
    by_cases h : l = a
    · subst h; simp
    · have : (l == a) = false := by simp [h]
      rw [this, Bool.false_or]
      have h' : ¬ a = l := fun e => h e.symm
      simp [h']
theorem flat_txt : ∀ ls : List (List Nat), (ls.map fun l => V.str (S l)).all flatV = true
  | [] => rfl
  | _ :: r => flat_txt r
theorem w_inT {a : List Nat} {p : Addr} {ls : List (List Nat)} (h : SqT K H p (ls.map fun l => V.str (S l))) (q : Q (.bl (decide (a ∈ ls))) H) : rIn K false (.str (S a)) (.ref p) H Q :=
  ⟨p, _, rfl, .inr h, rfl, flat_txt ls, by rw [inV_txt]; exact q⟩
theorem str_eq {a b : List Nat} : (decide (V.str (S a) = V.str (S b))) = decide (a = b) := by
  by_cases h : a = b
  · subst h; simp
  · rw [decide_eq_false h, decide_eq_false]
    intro e
    exact h (SX.S_inj (V.str.inj e))
theorem w_eqS {a b : List Nat} (q : Q (.bl (decide (a = b))) H) : rEq (.str (S a)) (.str (S b)) H Q := ⟨rfl, by rw [str_eq]; exact q⟩
theorem w_neS {a b : List Nat} (q : Q (.bl (!decide (a = b))) H) : rNe (.str (S a)) (.str (S b)) H Q := ⟨rfl, by rw [str_eq]; exact q⟩
theorem int_eq {a b : Int} : (decide (V.int a = V.int b)) = decide (a = b) := by simp
theorem w_eqI {a b : Int} (q : Q (.bl (decide (a = b))) H) : rEq (.int a) (.int b) H Q := ⟨rfl, by rw [int_eq]; exact q⟩
theorem w_iteN {p A B : Prop} [Decidable p] (h1 : ¬ p → A) (h2 : p → B) : if (!decide p) = true then A else B := by
  by_cases c : p
  · rw [decide_eq_true c]; exact h2 c
  · rw [decide_eq_false c]; exact h1 c
end
section
variable {X : Cx}
/-- a text times a number -/
theorem op_mulS : OpR X (binaryOp .Mult) (fun x y H Q => ∃ (a : Str) (n : Int), x = .str a ∧ y = .int n ∧ a.length ≤ 4096 ∧ n ≤ 4096 ∧ -(2 ^ 63 : Int) ≤ n ∧ Q (.str (Txt.mul a n)) H) := by
  intro pins s σ H x y v u Q I rx ry h
  obtain ⟨a, n, rfl, rfl, h1, h2, h3, q⟩ := h
  obtain ⟨t, rfl⟩ := rx
  obtain ⟨t', rfl⟩ := ry
  exact PySem.SB.mul (PyProof.Rows.mulOk_of 4096 4096 h1 (by omega) h3 (by decide) (by decide)) fun t'' k => ⟨.str (Txt.mul a n), H, I.tok k, ⟨t'', rfl⟩, q⟩
/-- 'c' op e, where e wants a token that is out -/
theorem pe_opStr {op : Operator} {r : R2} {x : Str} {j : Nat} {p pos : Pos} {f : Expr} {tf : TE} (ho : OpR X (binaryOp op) r) (hb : PET X f tf) : PE X (.BinOp (.Constant (.str x) j p) op f pos) (tOp r (tC (.str x)) tf) := by
  refine ⟨fun pins s σ H Q I h => ?_⟩
  refine wpAny_BinOp (Calls.Constant_str ?_)
  exact thn (hb pins { s with toks := s.toks + 1 } σ H _ (by show 1 ≤ s.toks + 1; omega) (I.tok _) h) fun u s2 ⟨y, H2, I2, r2, q2⟩ => ho pins s2 σ H2 (.str x) y _ u Q I2 ⟨_, rfl⟩ r2 q2
theorem w_repl {σ : L2.St} {H : Hp} {Q : VK} {to : TE} {y z : Str} (h : to σ H fun v H1 => ∃ x, v = .str x ∧ x.length + (x.length + 1) * z.length ≤ 16777216 ∧ Q (.str (Txt.replace x y z)) H1) : CwR.tReplC to y z σ H Q := h
end
theorem vS_cat (a b : List Nat) : V.str (SX.S a ++ SX.S b) = V.str (SX.S (a ++ b)) := congrArg V.str (SX.S_cat a b)
/-- ' doubled -/
theorem repl_dbl (l : List Nat) : Txt.replace (S l) (S [39]) (S [39, 39]) = S (StrLaws.dbl 39 l) := by
  rw [PyProof.Rows.replace_dbl (S l) (S [39]) (S [39, 39]) 39 rfl rfl, S_list]
theorem dbl_len (c : Nat) : ∀ l : List Nat, (StrLaws.dbl c l).length ≤ 2 * l.length
  | [] => by simp [StrLaws.dbl]
  | k :: r => by
    have := dbl_len c r
    rw [StrLaws.dbl]
    split
    · simp only [List.length_cons]; omega
    · simp only [List.length_cons]; omega
end Fw
end

section
-- part Dc
set_option Elab.async false
set_option linter.all false
set_option maxRecDepth 100000
set_option maxHeartbeats 800000
/-! Dc: what the dice of a law promise -/
namespace Dc
open PySem PySem.Spec PyProof.Rows L2 Fw
def spDice : Sp := fun vs H Q _ => ∃ c : Int, vs = [.int c] ∧ ∀ p a b e, H p = none → Q (.ref p) (upd H p (.lst [.int a, .int b, .int e]))
/-- the drawn number is anything below m -/
def spRoll : Sp := fun vs H Q _ => ∃ (d : Addr) (m a b c : Int), vs = [.ref d, .int m] ∧ H d = some (.lst [.int a, .int b, .int c]) ∧ 0 < m ∧ m < 2 ^ 60 ∧
  ∀ r a' b' c' : Int, 0 ≤ r → r < m → Q (.int r) (upd H d (.lst [.int a', .int b', .int c']))
/-- a list of new dice -/
def spRounds (K : PySem.W.Frag) : Sp := fun vs H Q _ => ∃ (a : Addr) (ns : List Int) (m : Int), vs = [.ref a, .int m] ∧ SqL K H a (ns.map V.int) ∧ ns.length ≤ 63 ∧
  ∀ (p : Addr) (H' : Hp) (ds : List Addr), Same H H' → H p = none → H' p = some (.lst (ds.map V.ref)) → (∀ d ∈ ds, Dice H' d ∧ H d = none) → ds.length ≤ 63 → Q (.ref p) H'
end Dc
end

section
-- part FsD
set_option Elab.async false
set_option linter.all false
set_option maxRecDepth 100000
set_option maxHeartbeats 2000000
namespace Fw
open PySem PySem.Spec PyProof.Rows L2
section
variable {K : PySem.W.Frag} {σ : L2.St} {H : Hp} {Q : VK} {tl te : TE} {ta : TA} {j : Nat} {vs : List Nat} {tt : TT} {g : TG} {wi : TI}
theorem w_lcRp {n : Int} {R : Addr → Hp → Prop} (hn : 0 ≤ n ∧ n < 2 ^ 62) (h : ∀ D, H D = none → ∃ Pv : Nat → Hp → Prop, Pv 0 (upd H D (.lst [])) ∧
      (∀ (i : Nat) H2, (i : Int) < n → Pv i H2 → g (.int (0 + (i : Int))) (wipe σ vs) H2 fun σ2 H2 => wipe σ2 vs = wipe σ vs ∧ tt σ2 H2 fun b H3 =>
        if b = true then te σ2 H3 fun y H4 => ∃ acc, H4 D = some (.lst acc) ∧ acc.length < sizeLine ∧ Pv (i + 1) (upd H4 D (.lst (acc ++ [y]))) else Pv (i + 1) H3) ∧ (∀ H2, Pv n.toNat H2 → R D H2)) :
    -(2 ^ 62) ≤ n ∧ n < 2 ^ 62 ∧ ∀ D, H D = none → ∃ W : Nat → Nat → Hp → Prop, (∃ m, W 0 m (upd H D (.lst []))) ∧ ∀ i m H, W i m H →
      ((Itr 0 n.toNat).stop i H ∧ R D H) ∨ ((Itr 0 n.toNat).go i H ∧ ∃ Nx : Hp → Prop, (∀ H', Nx H' → ∃ m', m' < m ∧ W (i + 1) m' H') ∧ ∀ x H', (Itr 0 n.toNat).yld i H x H' → g x (wipe σ vs) H' fun σ2 H2 => wipe σ2 vs = wipe σ vs ∧ tt σ2 H2 fun b H3 =>
        if b = true then te σ2 H3 fun y H4 => ∃ acc, H4 D = some (.lst acc) ∧ acc.length < sizeLine ∧ Nx (upd H4 D (.lst (acc ++ [y]))) else Nx H3) := by
  obtain ⟨j, e, a, b, r⟩ := w_lcR (Q := fun v H => ∀ D, v = .ref D → R D H) hn fun D hD => by
    obtain ⟨Pv, x, y, z⟩ := h D hD
    exact ⟨Pv, x, y, fun H2 p D' e => by cases e; exact z H2 p⟩
  cases e
  refine ⟨a, b, fun D hD => ?_⟩
  obtain ⟨W, w1, w2⟩ := r D hD
  refine ⟨W, w1, fun i m H hw => ?_⟩
  rcases w2 i m H hw with ⟨x, y⟩ | x
  · exact .inl ⟨x, y D rfl⟩
  · exact .inr x
theorem w_forRp {g : TG} {tb : TS} {D : Ends} {n : Int} (hn : 0 ≤ n ∧ n < 2 ^ 62) (Pv : Nat → L2.St → Hp → Prop) (h0 : Pv 0 σ H)
    (hs : ∀ (i : Nat) σ H, (i : Int) < n → Pv i σ H → g (.int (0 + (i : Int))) σ H fun σ2 H2 => tb { D with nx := Pv (i + 1), ct := Pv (i + 1), bk := D.nx } σ2 H2) (hd : ∀ σ H, Pv n.toNat σ H → D.nx σ H) :
    -(2 ^ 62) ≤ n ∧ n < 2 ^ 62 ∧ ∃ W : Nat → Nat → L2.St → Hp → Prop, (∃ m, W 0 m σ H) ∧ ∀ i m σ H, W i m σ H →
      ((Itr 0 n.toNat).stop i H ∧ D.nx σ H) ∨ ((Itr 0 n.toNat).go i H ∧ ∃ N : L2.St → Hp → Prop, (∀ σ' H', N σ' H' → ∃ m', m' < m ∧ W (i + 1) m' σ' H') ∧ ∀ x H', (Itr 0 n.toNat).yld i H x H' → g x σ H' fun σ2 H2 => tb { D with nx := N, ct := N, bk := D.nx } σ2 H2) := by
  obtain ⟨j, e, r⟩ := w_forR hn Pv h0 hs hd
  cases e
  exact r
theorem newl {d p : Addr} {H0 Hc H' : Hp} {o : HO} (k : Kp d H0 Hc) (hd : Dice Hc d) (hp : Hc p = none) (hX : upd Hc p o = H') : Kp d H0 H' ∧ Kp d Hc H' ∧ Dice H' d ∧ p ≠ d ∧ H0 p = none ∧ H' p = some o := by
  subst hX
  have hd' := hd
  obtain ⟨a, b, c, hd'⟩ := hd'
  have n : p ≠ d := (ne_of_none hd' hp).symm
  refine ⟨k.trans (Kp.new hp), Kp.new hp, hd.new hp, n, ?_, upd_same⟩
  cases e : H0 p with
  | none => rfl
  | some u => rw [k _ _ n e] at hp; cases hp
theorem w_roll {d : Addr} {m : Int} {H0 Hc : Hp} {Q : VK} {E : XK} (h0 : 0 < m) (h1 : m < 2 ^ 60) (k : Kp d H0 Hc) (hd : Dice Hc d) (h : ∀ (r : Int) (H' : Hp), 0 ≤ r → r < m → Kp d H0 H' → Kp d Hc H' → Dice H' d → Q (.int r) H') : Dc.spRoll [.ref d, .int m] Hc Q E := by
  obtain ⟨a, b, c, hd⟩ := hd
  exact ⟨d, m, a, b, c, rfl, hd, h0, h1, fun r a' b' c' e0 e1 => h r _ e0 e1 (k.trans Kp.at_) Kp.at_ ⟨a', b', c', upd_same⟩⟩
/-- a list of signs drawn from cs -/
theorem w_draws {d : Addr} {H0 : Hp} {cs : List Nat} {k : Nat} {m n : Int} {x : Str} {R : Addr → Hp → Prop} (hx : x = S cs) (hm : m = cs.length) (h0 : 0 < m) (h1 : m ≤ 1000) (hn : 0 ≤ n ∧ n ≤ 1000) (kp : Kp d H0 H) (dd : Dice H d)
    (hσ : ∀ v, ((wipe σ vs).set k (some v))[0]? = some (some (.ref d))) (hw : ∀ v, wipe ((wipe σ vs).set k (some v)) vs = wipe σ vs)
    (h : ∀ (D : Addr) (H2 : Hp) (l : List Nat), Kp d H0 H2 → Kp d H H2 → Dice H2 d → H2 D = some (.lst (l.map fun c => V.str (S [c]))) → (∀ c ∈ l, c ∈ cs) → l.length = n.toNat → R D H2) :
    -(2 ^ 62) ≤ n ∧ n < 2 ^ 62 ∧ ∀ D, H D = none → ∃ W : Nat → Nat → Hp → Prop, (∃ m, W 0 m (upd H D (.lst []))) ∧ ∀ i m' H, W i m' H →
      ((Itr 0 n.toNat).stop i H ∧ R D H) ∨ ((Itr 0 n.toNat).go i H ∧ ∃ Nx : Hp → Prop, (∀ H', Nx H' → ∃ m'', m'' < m' ∧ W (i + 1) m'' H') ∧ ∀ z H', (Itr 0 n.toNat).yld i H z H' → gName k z (wipe σ vs) H' fun σ2 H2 => wipe σ2 vs = wipe σ vs ∧ tYes σ2 H2 fun b H3 =>
        if b = true then tOp rIxS (tC (.str x)) (tCl Dc.spRoll C8.E0 (tCons (tVar 0) (tCons (tC (.int m)) tNil))) σ2 H3 fun y H4 => ∃ acc, H4 D = some (.lst acc) ∧ acc.length < sizeLine ∧ Nx (upd H4 D (.lst (acc ++ [y]))) else Nx H3) := by
  subst hx
  refine w_lcRp ⟨hn.1, Int.lt_of_le_of_lt hn.2 (by decide)⟩ fun D hD => ?_
  obtain ⟨kp1, kp2, dd1, nD, fD, eD⟩ := newl (o := .lst []) kp dd hD rfl
  refine ⟨fun i H2 => ∃ l : List Nat, l.length = i ∧ (∀ c ∈ l, c ∈ cs) ∧ H2 D = some (.lst (l.map fun c => V.str (S [c]))) ∧ Kp d H0 H2 ∧ Kp d H H2 ∧ Dice H2 d, ⟨[], rfl, fun c hc => absurd hc List.not_mem_nil, eD, kp1, kp2, dd1⟩, ?_, ?_⟩
  · rintro i H2 hi ⟨l, rfl, hl, e2, k2, k3, d2⟩
    refine w_gname ⟨hw _, w_yes ?_⟩
    rw [if_pos rfl]
    refine w_op (w_c (w_cl (w_cons (w_var (hσ _) (w_cons (w_c (w_nil (w_roll h0 (Int.lt_of_le_of_lt h1 (by decide)) k2 d2 fun r H3 r0 r1 k4 k5 d4 => ?_))))))))
    obtain ⟨q, rfl⟩ := Int.eq_ofNat_of_zero_le r0
    have hq : q < cs.length := by omega
    refine w_ixS (Nat.le_trans (by omega : cs.length ≤ 1000) (by decide)) (List.getElem?_eq_getElem hq) ?_
    have e3 := k5 _ _ nD e2
    have hf : H D = none := hD
    have fin : ∀ {Hs : Hp}, Kp d Hs H3 → Hs D = none → Kp d Hs (upd H3 D (.lst ((l.map fun c => V.str (S [c])) ++ [V.str (S [cs[q]])]))) := fun {Hs} a f b o nb e => by
      rw [upd_ne (ne_of_none e f)]
      exact a b o nb e
    refine ⟨_, e3, by rw [List.length_map]; exact Nat.lt_of_lt_of_le (by omega : l.length < 1001) (by decide), l ++ [cs[q]], by simp, ?_, by rw [upd_same, List.map_append]; rfl, fin k4 fD, fin (k3.trans k5) hD, ?_⟩
    · intro c hc
      rcases List.mem_append.mp hc with hc | hc
      · exact hl c hc
      · rw [List.mem_singleton.mp hc]; exact List.getElem_mem hq
    · obtain ⟨a, b, c, e⟩ := d4
      exact ⟨a, b, c, by rw [upd_ne nD.symm]; exact e⟩
  · rintro H2 ⟨l, hl, hc, e, k1, k2, d2⟩
    exact h D H2 l k1 k2 d2 e hc hl
theorem joinL_one : ∀ l : List Nat, TL.joinL [] (l.map fun c => [c]) = l
  | [] => rfl
  | [c] => rfl
  | c :: d :: r => by
    have ih := joinL_one (d :: r)
    show [c] ++ ([] ++ TL.joinL [] ([d] :: r.map fun c => [c])) = c :: d :: r
    rw [List.nil_append]
    rw [List.map_cons] at ih
    rw [ih]
    rfl
theorem join1 {K : PySem.W.Frag} {H : Hp} {D : Addr} {l : List Nat} (hl : l.length ≤ 1000) (e : H D = some (.lst (l.map fun c => V.str (S [c])))) :
    SqL K H D (List.map V.str (l.map fun c => S [c])) ∧ (List.map (fun x : Str => x.length) (l.map fun c => S [c])).sum + (l.map fun c => S [c]).length * (S []).length ≤ 16777216 ∧ Txt.join (S []) (l.map fun c => S [c]) = S l := by
  have e1 : (l.map fun c => V.str (S [c])) = (l.map fun c => S [c]).map V.str := by rw [List.map_map]; rfl
  have e2 : (l.map fun c => S [c]) = (l.map fun c => [c]).map SX.S := by rw [List.map_map]; rfl
  have e3 : ∀ l : List Nat, (List.map (fun x : Str => x.length) (l.map fun c => S [c])).sum = l.length := fun l => by
    induction l with
    | nil => rfl
    | cons c r ih => simp only [List.map_cons, List.sum_cons, ih, List.length_cons, SX.S_len, List.length_nil]; omega
  refine ⟨by rw [← e1]; exact SqL.of e, ?_, ?_⟩
  · rw [e3, show (S []).length = 0 from rfl, Nat.mul_zero]
    omega
  · rw [e2, show S [] = SX.S [] from rfl, SX.join_S, joinL_one]
end
end Fw
end

section
-- part FyD
set_option Elab.async false
set_option linter.all false
set_option maxRecDepth 100000
set_option maxHeartbeats 2000000
/-! Fy5: more rules -/
namespace Fw
open PySem PySem.Spec PyProof.Rows L2 SX
section
variable {K : PySem.W.Frag} {σ : L2.St} {H : Hp} {Q : VK} {te : TE} {t : TA} {QA : List V → Hp → Prop}
theorem isi_str : PySem.W.kitOne K (.type "str") (.type "str") = some true := by rfl
theorem isi_int : PySem.W.kitOne K (.type "int") (.type "str") = some false := by rfl
theorem isi_non : PySem.W.kitOne K (.type "NoneType") (.type "str") = some false := by rfl
theorem w_isiS {x : Str} (q : Q (.bl true) H) : L2.rIsi K [.str x, .ty "str"] H Q := ⟨_, _, _, _, _, rfl, .ty _, .base (.str x), isi_str, q⟩
theorem w_isiI {i : Int} (q : Q (.bl false) H) : L2.rIsi K [.int i, .ty "str"] H Q := ⟨_, _, _, _, _, rfl, .ty _, .base (.int i), isi_int, q⟩
theorem w_isiN (q : Q (.bl false) H) : L2.rIsi K [.non, .ty "str"] H Q := ⟨_, _, _, _, _, rfl, .ty _, .base .non, isi_non, q⟩
theorem w_star (h : te σ H fun x H1 => ∃ p xs, x = V.ref p ∧ (SqT K H1 p xs ∨ SqL K H1 p xs) ∧ t σ H1 fun ys H2 => QA (xs ++ ys) H2) : StX.tStar K te t σ H QA := h
theorem w_revL (h : te σ H fun x H1 => ∃ a xs, x = .ref a ∧ SqL K H1 a xs ∧ ∀ p, H1 p = none → Q (.ref p) (upd H1 p (.lst xs.reverse))) : tRevL K te σ H Q := h
theorem w_isN0 (q : Q (.bl true) H) : (fun x y H Q => y = V.non ∧ Q (.bl (decide (x = V.non))) H) V.non V.non H Q := ⟨rfl, by rw [decide_eq_true rfl]; exact q⟩
end
section
open PySem.AutoSeq1
theorem ext_tup (l : Addr) (us : Array Value) (n : Nat) (b : Addr) (ws : Array Value) (n2 : Nat) (dd : Option Addr) (sl : Array (Option Value)) (h0 : ¬(!us.isEmpty && Builtin.List.listTooLong (us.size + ws.size)) = true) (h1 : us.size ≤ sizeLine) (h2 : us.size + ws.size ≤ sizeLine + 1) :
    Meets (Builtin.«list.extend» ⟨[.ref l, .ref b], []⟩) (fun _ R s => s.heap.get? l = some { cls := .type "list", dict := none, data := .seq us n, slots := #[] } ∧ s.heap.get? b = some { cls := .type "tuple", dict := dd, data := .seq ws n2, slots := sl } ∧
      R (.ok (.ret Value.none)) { s with heap := s.heap.update l (Obj.mapSeq fun x => x ++ ws), toks := s.toks }) :=
  .of_wp fun prog w A R s h => by
    obtain ⟨hp, g, d, tk, os⟩ := s
    obtain ⟨hl, hb, h⟩ := h
    have f1 := AutoSeq1.idx_int
    have f2 := AutoSeq1.sub_tuple_tuple
    have f3 := AutoSeq1.sub_list_list
    have f4 := AutoSeq1.sub_tuple_list
    have f5 := AutoSeq1.sub_list_tuple
    have hz' : (us ++ ws).size ≤ sizeLine + 1 := by rw [Array.size_append]; exact h2
    wp_walk using (wpAny_updateSeq hl rfl (hz := h1) (_hz' := hz')), wpAny_loadPart' hl, wpAny_loadPart' hb; exact ⟨_, rfl, h⟩
end
section
variable {X : Cx}
/-- l.extend(t): t a list that is tracked, or a tuple -/
def rExtT (K : PySem.W.Frag) : V → List V → Hp → VK → Prop := fun x vs H Q => ∃ l b xs zs, x = .ref l ∧ vs = [.ref b] ∧ H l = some (.lst xs) ∧ SqT K H b zs ∧ xs.length + zs.length ≤ sizeLine ∧ Q .non (upd H l (.lst (xs ++ zs)))
theorem mt_extT : MtM X "list.extend" (rExtT X.K) := by
  intro pins s σ H x vs v us Q I rx rv h
  obtain ⟨l, b, xs, zs, rfl, rfl, hH, hB, hz, q⟩ := h
  cases rx
  obtain ⟨u, rfl, ru⟩ := rv.one
  cases ru
  obtain ⟨z, its, n, r, hl, e⟩ := I.lstM hH
  obtain ⟨its2, r2, ⟨⟨cls, dd, data, sl⟩, e2, hc, n2, hd⟩, hs⟩ := I.tuple hB
  simp only at hc hd
  subst hc hd
  have hl2 := r2.length
  have hsz : its.toArray.size + its2.toArray.size ≤ sizeLine := by rw [List.size_toArray, List.size_toArray]; omega
  have hlong : ¬ (!its.toArray.isEmpty && Builtin.List.listTooLong (its.toArray.size + its2.toArray.size)) = true := by
    rw [notLongL hsz, Bool.and_false]
    exact Bool.false_ne_true
  refine call_meets F.slot_list_extend ⟨_, e, rfl⟩ F.entry_list_extend (F.args_list_extend_2 _ _)
    (ext_tup l its.toArray n b its2.toArray n2 dd sl hlong (by rw [List.size_toArray]; omega) (by omega)) ⟨e, e2, ?_⟩
  refine ⟨.non, _, I.lset (its' := its ++ its2) hH e (by simp) (r.append r2) ?_, rfl, q⟩
  rw [List.length_append]
  omega
theorem w_extT {K : PySem.W.Frag} {l b : Addr} {xs zs : List V} {H : Hp} {Q : VK} (h : H l = some (.lst xs)) (t : SqT K H b zs) (hz : xs.length + zs.length ≤ sizeLine) (q : Q .non (upd H l (.lst (xs ++ zs)))) : rExtT K (.ref l) [.ref b] H Q := ⟨l, b, xs, zs, rfl, rfl, h, t, hz, q⟩
end
section
variable {K : PySem.W.Frag} {σ : L2.St} {H : Hp} {te : TE} {vs : List Nat} {tt : TT} {g : TG}
/-- [.. for sign in text] -/
theorem w_lcS {l : List Nat} {R : Addr → Hp → Prop} (h : ∀ D, H D = none → ∃ Pv : Nat → Hp → Prop, Pv 0 (upd H D (.lst [])) ∧
      (∀ i c H2, l[i]? = some c → Pv i H2 → g (.str (S [c])) (wipe σ vs) H2 fun σ2 H2 => wipe σ2 vs = wipe σ vs ∧ tt σ2 H2 fun b H3 =>
        if b = true then te σ2 H3 fun y H4 => ∃ acc, H4 D = some (.lst acc) ∧ acc.length < sizeLine ∧ Pv (i + 1) (upd H4 D (.lst (acc ++ [y]))) else Pv (i + 1) H3) ∧ (∀ H2, Pv l.length H2 → R D H2)) :
    ∃ x, V.str (S l) = .str x ∧ ∀ D, H D = none → ∃ W : Nat → Nat → Hp → Prop, (∃ m, W 0 m (upd H D (.lst []))) ∧ ∀ i m H, W i m H →
      ((Its x).stop i H ∧ R D H) ∨ ((Its x).go i H ∧ ∃ Nx : Hp → Prop, (∀ H', Nx H' → ∃ m', m' < m ∧ W (i + 1) m' H') ∧ ∀ y H', (Its x).yld i H y H' → g y (wipe σ vs) H' fun σ2 H2 => wipe σ2 vs = wipe σ vs ∧ tt σ2 H2 fun b H3 =>
        if b = true then te σ2 H3 fun y H4 => ∃ acc, H4 D = some (.lst acc) ∧ acc.length < sizeLine ∧ Nx (upd H4 D (.lst (acc ++ [y]))) else Nx H3) := by
  refine ⟨S l, rfl, fun D hD => ?_⟩
  obtain ⟨Pv, h0, hs, hd⟩ := h D hD
  have el : (S l).cps.size = l.length := by rw [← S_list l]; simp
  have el2 : (S l).cps.toList = l := S_list l
  refine ⟨fun i m H => m = (S l).cps.size - i ∧ i ≤ (S l).cps.size ∧ Pv i H, ⟨_, rfl, Nat.zero_le _, h0⟩, ?_⟩
  rintro i m H ⟨rfl, hi, p⟩
  by_cases hlt : i < (S l).cps.size
  · refine .inr ⟨hlt, Pv (i + 1), fun H' p' => ⟨(S l).cps.size - (i + 1), by omega, rfl, hlt, p'⟩, fun v H' y => ?_⟩
    obtain ⟨e, c, hc, rfl⟩ := y
    subst e
    have hc2 : l[i]? = some c := by
      rw [← el2]
      simpa using hc
    exact hs i c _ hc2 p
  · have e : i = (S l).cps.size := by omega
    subst e
    rw [el] at p
    exact .inl ⟨Nat.le_refl _, hd H p⟩
/-- over a tuple -/
theorem w_lcTn {p : Addr} {xs : List V} {R : Addr → Hp → Prop} (hS : SqT K H p xs) (h : ∀ D, H D = none → ∃ Pv : Nat → Hp → Prop, Pv 0 (upd H D (.lst [])) ∧ (∀ i H2, i ≤ xs.length → Pv i H2 → SqT K H2 p xs) ∧
      (∀ i x H2, xs[i]? = some x → Pv i H2 → g x (wipe σ vs) H2 fun σ2 H2 => wipe σ2 vs = wipe σ vs ∧ tt σ2 H2 fun b H3 =>
        if b = true then te σ2 H3 fun y H4 => ∃ acc, H4 D = some (.lst acc) ∧ acc.length < sizeLine ∧ Pv (i + 1) (upd H4 D (.lst (acc ++ [y]))) else Pv (i + 1) H3) ∧ (∀ H2, Pv xs.length H2 → R D H2)) :
    ∃ a, V.ref p = .ref a ∧ (∃ xs, SqT K H a xs) ∧ ∀ D, H D = none → ∃ W : Nat → Nat → Hp → Prop, (∃ m, W 0 m (upd H D (.lst []))) ∧ ∀ i m H, W i m H →
      ((Itt K a).stop i H ∧ R D H) ∨ ((Itt K a).go i H ∧ ∃ Nx : Hp → Prop, (∀ H', Nx H' → ∃ m', m' < m ∧ W (i + 1) m' H') ∧ ∀ x H', (Itt K a).yld i H x H' → g x (wipe σ vs) H' fun σ2 H2 => wipe σ2 vs = wipe σ vs ∧ tt σ2 H2 fun b H3 =>
        if b = true then te σ2 H3 fun y H4 => ∃ acc, H4 D = some (.lst acc) ∧ acc.length < sizeLine ∧ Nx (upd H4 D (.lst (acc ++ [y]))) else Nx H3) := by
  refine ⟨p, rfl, ⟨xs, hS⟩, fun D hD => ?_⟩
  obtain ⟨Pv, h0, hl, hs, hd⟩ := h D hD
  exact lc_tup (Qd := fun H => R D H) Pv h0 hl hs hd
end
end Fw
end

section
-- part Fr
set_option Elab.async false
set_option linter.all false
set_option maxRecDepth 100000
set_option maxHeartbeats 4000000
/-! Fr: a list comprehension whose element may raise -/
namespace Fw
open PySem PySem.Spec PyProof.Rows L2
section
variable {M : Model} {A : Around} {E : Value → Shared → Prop} {s : Shared} {env : Env}
/-- the end of a block whose own env is ce -/
def endOf (M : Model) (A : Around) (E : Value → Shared → Prop) (use : Option (Value → Sem Unit)) (Q : Value → Shared → Prop) (acc : Value) (ce : Env) : Result → Shared → Prop
  | .ok _, t => match use with
    | none => ∃ m, t.heap.Ns ce.locals m ∧ ∀ g, Heap.SameBut ce.locals t.heap g → Q acc { t with heap := g }
    | some u => wpAny M A (u acc) (fun _ t' => ∃ m, t'.heap.Ns ce.locals m ∧ ∀ g, Heap.SameBut ce.locals t'.heap g → Q .none { t' with heap := g }) E t
  | .error x, t => ∃ m, t.heap.Ns ce.locals m ∧ ∀ g, Heap.SameBut ce.locals t.heap g → wpAny M A (passOn "comprehension.variables-let-go" x ce : Sem Value) (fun _ _ => False) E { t with heap := g }
theorem comp_run {e : Expr} {scope : Scope} {pos : Pos} {mk first : Sem Value} {c : Comprehension} {cs : List Comprehension} {cl : List (Str × Addr)} {use : Option (Value → Sem Unit)} {Q : Value → Shared → Prop}
    (h1 : clausesOf e = c :: cs) (h2 : ∀ x, foldedSetIterable c.iter env x = pure x) (h3 : closureFor scope env = pure cl) (hk : scope.kind = .function) (hn : ∀ x ∈ scope.names, x.2 = .local → scope.names.lookup x.1 = some .local)
    (h : wpAny M A first (fun x t1 => wpAny M A (pyIter x) (fun it t2 => wpAny M A mk (fun acc t3 => wpAny M A (newFunctionEnv scope env.globals cl [] env.qual none .none (some env)) (fun ce t4 =>
      codeAny M A (.compStart e 0 it acc { ce with scope := relabel scope env }) (endOf M A E use Q acc { ce with scope := relabel scope env }) t4) E t3) E t2) E t1) E s) :
    wpAny M A (comprehension e scope env pos mk false first use) Q E s := by
  unfold comprehension
  rw [h3, h1]
  refine wpAny_bind (wpAny_mono h (fun x t1 q1 => ?_) fun _ _ z => z)
  refine wpAny_bind (wpAny_standAt (wpAny_bind (wpAny_of_eq (h2 x) (wpAny_bind (wpAny_holding (wpAny_mono q1 (fun it t2 q2 => ?_) fun _ _ z => z))))))
  refine wpAny_standIf (wpAny_bind (wpAny_mono q2 (fun acc t3 q3 => ?_) fun _ _ z => z))
  refine wpAny_bind (wpAny_pure (wpAny_bind (wpAny_mono q3 (fun ce t4 q4 => ?_) fun _ _ z => z)))
  dsimp only
  have lk : ∀ {y}, y ∈ (scope.names.filter fun x => (x.2 == .local || x.2 == .cell) && x.1 != (".0" : Str)).reverse → y.2 = .local → Env.kindOf { ce with scope := relabel scope env } y.1 = some .local := fun {y} hy hl =>
    lookup_relabel_local (hn y (List.mem_filter.mp (List.mem_reverse.mp hy)).1 hl)
  have lk2 : ∀ y ∈ (scope.names.filter fun x => (x.2 == .local || x.2 == .cell) && x.1 != (".0" : Str)).reverse.drop 1 ++ (scope.names.filter fun x => (x.2 == .local || x.2 == .cell) && x.1 != (".0" : Str)).reverse.take 1,
      y.2 = .local → Env.kindOf { ce with scope := relabel scope env } y.1 = some .local := fun y hy hl => (List.mem_append.mp hy).elim (fun z => lk (List.mem_of_mem_drop z) hl) fun z => lk (List.mem_of_mem_take z) hl
  refine wpAny_holding (wpAny_bind (wpAny_attempt (wpAny_holding (wpAny_run (codeAny_mono q4 fun r t qr => ?_)))))
  cases r with
  | error x =>
    obtain ⟨m, hm, qr⟩ := qr
    exact wpAny_bind (wpAny_holding (wpAny_comp_letGo (cenv := { ce with scope := relabel scope env }) hk _ t m (fun y hy hl => lk hy hl) hm fun g _ _ sb => wpAny_mono (qr g sb) (fun _ _ z => z.elim) fun _ _ z => z))
  | ok f =>
    cases use with
    | none =>
      obtain ⟨m, hm, qr⟩ := qr
      exact wpAny_bind (wpAny_holding (wpAny_comp_letGo (cenv := { ce with scope := relabel scope env }) hk _ t m (fun y hy hl => lk hy hl) hm fun g _ _ sb => wpAny_pure (qr g sb)))
    | some u =>
      refine wpAny_bind (wpAny_rule (wpAny_bind (wpAny_holding (wpAny_mono qr (fun _ t' qr' => ?_) fun _ _ z => z))))
      obtain ⟨m, hm, qr'⟩ := qr'
      exact wpAny_bind (wpAny_comp_letGo (cenv := { ce with scope := relabel scope env }) hk _ t' m lk2 hm fun g _ _ sb => wpAny_pure (qr' g sb))
end
theorem frames_but {h h' B : Heap} {C : Addr} (k : ∀ b o, b ≠ C → h.get? b = some o → h'.get? b = some o) : ∀ {l : List Env}, h.FunFrames B l → C ∉ frs l → h'.FunFrames B l
  | [], _, _ => trivial
  | env :: l, x, n => by
    obtain ⟨x1, ⟨L, o, hf, hb, ho, hd⟩, x2⟩ := x
    have mL : L ∈ frs (env :: l) := List.mem_filterMap.mpr ⟨env, List.mem_cons_self, hf⟩
    refine ⟨x1, ⟨L, o, hf, hb, k L o (fun z => n (z ▸ mL)) ho, hd⟩, frames_but k x2 fun m => n ?_⟩
    obtain ⟨e, he, q⟩ := List.mem_filterMap.mp m
    exact List.mem_filterMap.mpr ⟨e, List.mem_cons_of_mem _ he, q⟩
theorem frames_base {h B B' : Heap} : ∀ {l : List Env}, h.FunFrames B l → (∀ b, B.get? b = none → B'.get? b = none) → h.FunFrames B' l
  | [], _, _ => trivial
  | env :: l, x, n => by
    obtain ⟨x1, ⟨L, o, hf, hb, ho, hd⟩, x2⟩ := x
    exact ⟨x1, ⟨L, o, hf, n L hb, ho, hd⟩, frames_base x2 n⟩
section
variable {X : Cx}
/-- what leaves a block by a call in it -/
def fromBlock (B : Cx) (X : Cx) (E : XK) : Value → Shared → Prop := fun u t => ∃ pins σ H s, Inv B pins σ H s ∧ L2.CX X.prog X.w X.stack H s E u t
theorem passes_block {B : Cx} {E : XK} (hs : B.stack = X.stack) : Passes (L2.CX X.prog X.w) (B.wish (fromBlock B X E)) E := by
  intro pins σ H s e t I c
  refine ⟨pins, σ, H, s, I.unwish, ?_⟩
  rw [← hs]
  exact c
theorem note_same {ce env : Env} (h : ce.frame = env.frame) (x : Value) : noteFrame x ce = noteFrame x env := by
  unfold noteFrame PySem.frameOf
  rw [h]
theorem block_raise {pins : List (Addr × Obj)} {σ : L2.St} {H3 : Hp} {s3 : Shared} {scope : Scope} {ce : Env} {fp : List Addr} {E : XK} {use : Option (Value → Sem Unit)} {Qf : Value → Shared → Prop} {acc u : Value} {t : Shared}
    (hs : X.stack = X.env :: X.outer) (hf : X.env.frame = some X.env.locals) (tk : Takes X (fun cls d _ H => E cls d H)) (I3 : Inv X pins σ H3 s3) (hcf : ce.frame = X.env.frame) (hcl : ce.locals = s3.heap.objs.size) (f3 : ∀ b ∈ fp, FpOk X pins H3 b)
    (r : fromBlock (X.blk s3 H3 scope ce fp) X E u t) : notedBy (model X.prog X.w) X.A ce (fun e t => endOf (model X.prog X.w) X.A X.xe use Qf acc ce (.error e) t) u t := by
  obtain ⟨pB, σB, HB, sB, IB, a, Bg, H', cls, d, rfl, fl, hok, ub, na, os, ag, hE⟩ := r
  have I7 : Inv X pins σ HB sB := I3.call' (ch := fp) IB.os IB.base IB.hok IB.bare fun b hb => ⟨(f3 b hb).2.2.2.1, (f3 b hb).2.1, (f3 b hb).2.2.2.2.1, (f3 b hb).2.2.2.2.2⟩
  have nC : HB ce.locals = none := IB.free
  obtain ⟨m, hn, _⟩ := IB.loc
  have hn : sB.heap.Ns ce.locals m := hn
  have fC : FpOk X pins HB s3.heap.objs.size := I3.fpOk (Nat.le_refl _) (by rw [← hcl]; exact nC)
  rw [← hcl] at fC
  generalize hC : ce.locals = C at nC hn fC
  have Cf : C ∉ frs X.stack := fun hm => by
    rcases List.mem_cons.mp (I3.stkSub C hm) with z | z
    · exact fC.2.1 z
    · exact fC.2.2.1 z
  obtain ⟨oC, _, _, eC, _⟩ := id hn
  have hn' : t.heap.Ns C m := hn.at' fun o e => fl.1 _ _ (ub.keep C o e nC Cf)
  have nC' : H' C = none := ub.free C oC eC nC
  -- the ground without C
  obtain ⟨B', b1, b2⟩ := restrict Bg fun b => decide (b ≠ C)
  have b3 : ∀ b o, B'.get? b = some o → Bg.get? b = some o ∧ b ≠ C := fun b o e => by
    by_cases z : b = C
    · rw [b2 b (by simp [z])] at e
      cases e
    · exact ⟨by rw [← b1 b (by simp [z])]; exact e, z⟩
  have b4 : ∀ b o, b ≠ C → Bg.get? b = some o → B'.get? b = some o := fun b o z e => by rw [b1 b (by simp [z])]; exact e
  have b5 : ∀ b, Bg.get? b = none → B'.get? b = none := fun b e => by
    cases q : B'.get? b with
    | none => rfl
    | some o => rw [(b3 b o q).1] at e; cases e
  have hfr : X.A.frames = some (X.env :: X.outer) := by rw [I3.ok.frames, hs]
  rw [hs] at fl
  unfold notedBy
  rw [note_same hcf]
  refine HandSPX.looks_onZ Zc.steady hfr hf fl fun h1 held up1 => ?_
  obtain ⟨k1, k2, k3, oe, vs, T, oT, ts, he, hz, hd, q1, nT, Ta, hT, hdT, q3⟩ := held
  refine ⟨m, ?_, fun g sb => ?_⟩
  · rw [hC]
    exact hn.at' fun o e => k1 _ _ (ub.keep C o e nC Cf)
  have bC := ub.keep C oC eC nC Cf
  have aC : a ≠ C := fun z => by rw [z, bC] at k2; cases k2
  have TC : T ≠ C := fun z => by rw [z, bC] at nT; cases nT
  have same : ∀ b, b ≠ C → g.get? b = h1.get? b := fun b hb => sb.2 b (by rw [hC]; exact hb)
  have held2 : HandSPX.HeldZ B' (X.env :: X.outer) a (Zc cls d) X.env.locals g := by
    refine ⟨fun b o e => ?_, b5 a k2, frames_base (frames_but (fun b o hb e => (same b hb).trans e) k3 (by rw [← hs]; exact Cf)) b5, oe, vs, T, oT, ts, (same a aC).trans he, hz, hd, q1, b5 T nT, Ta, (same T TC).trans hT, hdT, q3⟩
    obtain ⟨e1, e2⟩ := b3 b o e
    exact (same b e2).trans (k1 _ _ e1)
  unfold PySem.passOn
  refine wpAny_bind (wpAny_field ((same a aC).trans he) hd q1 ?_)
  rw [if_neg (show ¬ ((Value.ref T == Value.none) = true) from by simp)]
  have fin : wpAny (model X.prog X.w) X.A (setFlight (.ref a) ce.frame) (fun _ t4 => wpAny (model X.prog X.w) X.A (throw (.ref a) : Sem Value) (fun _ _ => False) X.xe t4) X.xe { t with heap := g } := by
    rw [hcf, hf]
    refine HandSPX.setFlight_onZ held2 fun h2 held3 up3 => wpAny_throw (tk _ _ ?_)
    obtain ⟨G, g1, g2⟩ := restrict t.heap fun b => (B'.get? b).isSome || decide (b ∈ frs X.stack)
    have og : ∀ b o, G.get? b = some o → t.heap.get? b = some o ∧ ((B'.get? b).isSome = true ∨ b ∈ frs X.stack) := fun b o e => by
      cases q : ((B'.get? b).isSome || decide (b ∈ frs X.stack)) with
      | true =>
        rw [g1 b q] at e
        exact ⟨e, by simpa [Bool.or_eq_true] using q⟩
      | false => rw [g2 b q] at e; cases e
    have gB : ∀ b o, B'.get? b = some o → G.get? b = some o := fun b o e => by
      rw [g1 b (by simp [e])]
      exact fl.1 b o (b3 b o e).1
    have gF : ∀ b, b ∈ frs X.stack → G.get? b = t.heap.get? b := fun b hb => g1 b (by simp [hb])
    have GC : ∀ b o, G.get? b = some o → b ≠ C := fun b o e z => by
      rcases (og b o e).2 with q | q
      · obtain ⟨o', q⟩ := Option.isSome_iff_exists.mp q
        exact (b3 b o' q).2 z
      · exact Cf (z ▸ q)
    refine ⟨a, B', { sB with heap := G, gens := t.gens, drawn := t.drawn, toks := t.toks }, pins, σ, H', cls, d, rfl, ?_, fun b o e hb => ?_, fun b o e hnf => ?_, .inr (.inr (by rw [hs]; exact held3)), na, os, ag, hE⟩
    · have slotF : ∀ b o, sB.heap.get? b = some o → b ∈ frs X.stack → ∃ sl, G.get? b = some { o with slots := sl } := fun b o e hb => by
        obtain ⟨sl, q⟩ := ub.slot b o e hb
        exact ⟨sl, by rw [gF b hb]; exact q⟩
      refine I7.call (ch := [C]) ⟨fun b o e n hb hc => gB b o (b4 b o (fun z => hc (by simp [z])) (ub.keep b o e n hb)), fun b o e n hb hc => slotF b o e hb, fun b o e n _ => ub.free b o e n, fun b o e hc => ?_, ub.tups, ub.frzs, ub.tbls⟩ (fun b o q => ?_) ag fun b hb => ?_
      · by_cases hb : b ∈ frs X.stack
        · obtain ⟨sl, q⟩ := slotF b o e hb
          exact ⟨_, q⟩
        · obtain ⟨o', q⟩ := ub.there b o e hb
          exact ⟨o', gB b o' (b4 b o' (fun z => hc (by simp [z])) q)⟩
      · refine (hok b o q).stay (fun c v hc e => gB c v (b4 c v (fun z => ?_) e)) (fun _ z => z) fun _ _ z => z
        rcases hc with hc | hc
        · rw [← hc, z, nC'] at q; cases q
        · rw [z, nC'] at hc; cases hc
      · rw [List.mem_singleton.mp hb]
        exact ⟨fC.2.2.2.1, fC.2.1, fC.2.2.2.2.1, fC.2.2.2.2.2⟩
    · obtain ⟨e', q⟩ := og b o e
      rcases q with q | q
      · obtain ⟨o', q⟩ := Option.isSome_iff_exists.mp q
        have z := fl.1 b o' (b3 b o' q).1
        rw [e'] at z
        cases z
        exact q
      · exact absurd q hb
    · obtain ⟨e', _⟩ := og b o e
      obtain ⟨sl, z1⟩ := up1 b o e' hnf
      have z2 := (same b (GC b o e)).trans z1
      obtain ⟨sl2, z3⟩ := up3 b _ z2 hnf
      exact ⟨sl2, z3⟩
  first
    | exact wpAny_bind (wpAny_pure (wpAny_bind fin))
    | exact wpAny_bind fin
/-- the comprehension's rule, its element one that may raise E -/
theorem lc_raise {pins : List (Addr × Obj)} {s : Shared} {σ : L2.St} {H : Hp} {Q : VK} {elt tg iter : Expr} {ifs : List Expr} {scope : Scope} {own : List (Str × Nat)} {pos pos' : Pos} {wi : TI} {g : TG} {tt : TT} {te : TE} {use : Option (Value → Sem Unit)} {Qf : Value → Shared → Prop} {E : XK}
    (hs : X.stack = X.env :: X.outer) (hf : X.env.frame = some X.env.locals) (tk : Takes X (fun cls d _ H => E cls d H)) (calm : X.calm = true) (hN : X.N.Nodup) (I : Inv X pins σ H s) (hi : PI X tg iter wi) (ok : BlkOk X.N X.env.scope scope own)
    (hg : ∀ (s : Shared) (H : Hp) (C : Addr) (cl : List (Str × Addr)) (fp : List Addr), PG (X.blk s H scope (compEnvC scope cl C X.env) fp) tg g)
    (ht : ∀ (s : Shared) (H : Hp) (C : Addr) (cl : List (Str × Addr)) (fp : List Addr), PTs (X.blk s H scope (compEnvC scope cl C X.env) fp) ifs tt)
    (he : ∀ (s : Shared) (H : Hp) (C : Addr) (cl : List (Str × Addr)) (fp : List Addr), PE ((X.blk s H scope (compEnvC scope cl C X.env) fp).wish (fromBlock (X.blk s H scope (compEnvC scope cl C X.env) fp) X E)) elt te)
    (hfs : ∀ x, foldedSetIterable iter X.env x = pure x) (h : tLc wi g tt te (own.map (·.2)) σ H Q)
    (hend : ∀ D ce t m H', ce.frame = X.env.frame → Inv X pins σ H' t → Q (.ref D) H' → t.heap.Ns ce.locals m → FpOk X pins H' ce.locals → endOf (model X.prog X.w) X.A X.xe use Qf (.ref D) ce (.ok .next) t) :
    wpAny (model X.prog X.w) X.A (comprehension (.ListComp elt [⟨tg, iter, ifs, 0⟩] scope pos) scope X.env pos' (newList []) false (eval iter X.env) use) Qf X.xe s := by
  have free : ∀ z ∈ scope.names, z.2 = .free → ∃ c, X.env.cells.lookup z.1 = some c := fun z hz e => (ok.free z hz e).elim (fun k => I.ok.has _ (.inl k)) fun k => I.ok.has _ (.inr k)
  refine comp_run rfl hfs (closure_ok free) ok.kind (fun z hz e => by rw [ok.uniq z hz, e]) (thn (hi.run pins s σ H _ I h) fun xv s1 hx => thn hx fun itv s2 ⟨it, fp, tn, J, H2, e, I2, T, st2, f2, q⟩ => ?_)
  subst e
  refine wpAny_newObj_type (newEnv_comp ?_) (show 0 ≤ sizeLine by decide)
  generalize hD : s2.heap.objs.size = D
  have hDn : H2 D = none := I2.hok.fresh (Nat.le_of_eq hD)
  obtain ⟨W, ⟨m0, w0⟩, turn⟩ := q D hDn
  generalize hs3 : ({ s2 with heap := s2.heap.push { cls := .type "list", data := .seq ([] : List Value).toArray } } : Shared) = s3
  have h3 : s3.heap = s2.heap.push { cls := .type "list", data := .seq ([] : List Value).toArray } := by rw [← hs3]
  have I3 : Inv X pins σ (upd H2 D (.lst [])) s3 := by
    rw [← hs3]
    exact I2.laid (t' := s2.toks) (fun b o e => Heap.get?_push_of_some _ e) (Nat.le_of_eq hD) ⟨Nat.zero_le _, [], 0, .nil, by rw [← hD]; exact Heap.get?_push_size _ rfl⟩
  have f3 : ∀ b ∈ fp, FpOk X pins (upd H2 D (.lst [])) b ∧ b < s3.heap.objs.size := fun b hb => by
    obtain ⟨o, e, _⟩ := T.obj _ _ st2 b hb
    have lt := Heap.lt_size e
    exact ⟨⟨by rw [upd_ne (by rw [← hD]; exact Nat.ne_of_lt lt)]; exact (f2 b hb).1, (f2 b hb).2⟩, by rw [h3, Heap.size_push]; exact Nat.lt_succ_of_lt lt⟩
  have st3 : tn 0 s3.heap := T.keep _ _ _ st2 fun b _ o e => by rw [h3]; exact Heap.get?_push_of_some _ e
  have I4 := block_start I3 ok hN f3
  have pg := hg s3 (upd H2 D (.lst [])) s3.heap.objs.size (cellsFrom (s3.heap.objs.size + 1) scope.names (cloFrom X.env.cells scope.names [])) fp
  have pt := ht s3 (upd H2 D (.lst [])) s3.heap.objs.size (cellsFrom (s3.heap.objs.size + 1) scope.names (cloFrom X.env.cells scope.names [])) fp
  have pe := he s3 (upd H2 D (.lst [])) s3.heap.objs.size (cellsFrom (s3.heap.objs.size + 1) scope.names (cloFrom X.env.cells scope.names [])) fp
  show codeAny _ _ (.compStart (.ListComp elt [⟨tg, iter, ifs, 0⟩] scope pos) 0 (.ref it) (.ref D) (compEnvC scope (cellsFrom (s3.heap.objs.size + 1) scope.names (cloFrom X.env.cells scope.names [])) s3.heap.objs.size X.env))
    (endOf (model X.prog X.w) X.A X.xe use Qf (.ref D) (compEnvC scope (cellsFrom (s3.heap.objs.size + 1) scope.names (cloFrom X.env.cells scope.names [])) s3.heap.objs.size X.env)) { s3 with heap := pushCells (s3.heap.push { cls := .type "dict", data := .dict #[] }) scope.names }
  have nfp : ∀ b ∈ fp, (upd H2 D (.lst [])) b = none := fun b hb => (f3 b hb).1.1
  generalize hce : compEnvC scope (cellsFrom (s3.heap.objs.size + 1) scope.names (cloFrom X.env.cells scope.names [])) s3.heap.objs.size X.env = ce at I4 pg pt pe ⊢
  have cL : ce.locals = s3.heap.objs.size := by subst hce; rfl
  have cF : ce.frame = X.env.frame := by subst hce; rfl
  generalize hH3 : upd H2 D (.lst []) = H3 at I3 I4 pg pt pe w0 nfp f3
  generalize hs4 : ({ s3 with heap := pushCells (s3.heap.push { cls := .type "dict", data := .dict #[] }) scope.names } : Shared) = s4 at I4 ⊢
  have st4 : tn 0 s4.heap := T.keep _ _ _ st3 fun b _ o e => by rw [← hs4]; exact pushCells_keeps _ _ _ _ (Heap.get?_push_of_some _ e)
  have stat : ∀ {σ' : L2.St} {H' : Hp} {t : Shared}, Inv (X.blk s3 H3 scope ce fp) [] σ' H' t → (∀ b ∈ fp, H' b = none) → ∀ b ∈ fp, FpOk (X.blk s3 H3 scope ce fp) [] H' b := fun {σ' H' t} J hn b hb =>
    ⟨hn b hb, (J.ok.exf b hb).1, J.ok.exfs b hb, .inl hb, fun x c e => (J.ok.exf b hb).2 x c e, fun p hp => absurd (show p ∈ ([] : List (Addr × Obj)) ++ [] from hp) (by simp)⟩
  have back : ∀ {pB : List (Addr × Obj)} {σB : L2.St} {H' : Hp} {t : Shared}, Inv (X.blk s3 H3 scope ce fp) pB σB H' t → Inv X pins σ H' t := fun {pB σB H' t} J =>
    I3.call' (ch := fp) J.os J.base J.hok J.bare fun b hb => ⟨(f3 b hb).1.2.2.2.1, (f3 b hb).1.2.1, (f3 b hb).1.2.2.2.2.1, (f3 b hb).1.2.2.2.2.2⟩
  have loop : codeAny (model X.prog X.w) X.A (.compLoop (.ListComp elt [⟨tg, iter, ifs, 0⟩] scope pos) 0 (.ref it) (.ref D) ce) (endOf (model X.prog X.w) X.A X.xe use Qf (.ref D) ce) s4 := by
    refine compLoop_any (fun n t => ∃ i H', Inv (X.blk s3 H3 scope ce fp) [] (wipe σ (own.map (·.2))) H' t ∧ tn i t.heap ∧ (∀ b ∈ fp, H' b = none) ∧ W i n H') ?_ m0 ⟨0, H3, I4, st4, nfp, w0⟩
    rintro n s5 ⟨i, H5, I5, st5, n5, w5⟩
    rcases turn i n H5 w5 with ⟨stop, qq⟩ | ⟨go, Nx, hNx, step⟩
    · refine thnF (T.done (X.blk s3 H3 scope ce fp) rfl rfl rfl calm i [] s5 _ H5 (fun _ _ => False) I5 (stat I5 n5) st5 stop) fun r s6 ⟨hr, I6⟩ => ?_
      subst hr
      have z : H5 ce.locals = none := I6.free
      obtain ⟨m, hn, _⟩ := I6.loc
      exact hend D ce s6 m H5 cF (back I6) qq hn (by rw [cL] at z ⊢; exact I3.fpOk (Nat.le_refl _) z)
    · refine thnF (T.item (X.blk s3 H3 scope ce fp) rfl rfl rfl calm i [] s5 _ H5 (fun _ _ => False) I5 (stat I5 n5) st5 go) fun r s6 ⟨u, hr, h6⟩ => ?_
      subst hr
      refine thnF h6 fun _ s7 ⟨x, H7, I7, r7, y7, st7, n7⟩ => ?_
      refine thnF (pg.run _ s7 _ H7 x u _ (I7.pinned (stat I7 n7) (T.obj _ _ st7)) r7 (step x H7 y7)) fun _ s8 ⟨σ8, H8, I8, hw8, q8⟩ => ?_
      refine thnF (pt.run _ s8 σ8 H8 _ I8 q8) fun b s9 ⟨H9, I9, q9⟩ => ?_
      have fin : ∀ {t : Shared} {H' : Hp}, Inv (X.blk s3 H3 scope ce fp) ([] ++ pinsAt fp s7.heap) σ8 H' t → Nx H' → ∃ m, m < n ∧ ∃ i H', Inv (X.blk s3 H3 scope ce fp) [] (wipe σ (own.map (·.2))) H' t ∧ tn i t.heap ∧ (∀ b ∈ fp, H' b = none) ∧ W i m H' := fun {t H'} J nx => by
        obtain ⟨m', hm, w'⟩ := hNx H' nx
        have pin : ∀ b ∈ fp, ∀ o, s7.heap.get? b = some o → t.heap.get? b = some o ∧ H' b = none := fun b hb o e =>
          have z := J.pin (b, o) (List.mem_append_right _ (List.mem_append_right _ (mem_pinsAt hb e)))
          ⟨z.1, z.2.1⟩
        refine ⟨m', hm, i + 1, H', (J.unpinned (pins := [])).weak (by rw [← hw8, wipe_length]) (fun j v e => by rw [← hw8] at e; exact (wipe_some e).1), T.keep _ _ _ st7 fun b hb o e => (pin b hb o e).1, fun b hb => ?_, w'⟩
        obtain ⟨o, e, _⟩ := T.obj _ _ st7 b hb
        exact (pin b hb o e).2
      cases b with
      | true =>
        simp only [if_true] at q9 ⊢
        refine wpAny_mono (pe.run _ s9 σ8 H9 _ (I9.wish _) q9) (fun z s10 ⟨yv, H10, I10, r10, acc, hD10, hz10, nx⟩ => ?_) fun u t r => block_raise hs hf tk I3 cF cL (fun b hb => (f3 b hb).1) r
        exact app_ok (X := X.blk s3 H3 scope ce fp) I10.unwish hD10 hz10 r10 fun s11 I11 => fin I11 nx
      | false =>
        simp only [Bool.false_eq_true, if_false] at q9 ⊢
        exact fin I9 q9
  exact codeAny_compStart_list loop (T.self X.A 0 _ _ _ st4 loop)
theorem pe_lcR {elt tg iter : Expr} {ifs : List Expr} {scope : Scope} {own : List (Str × Nat)} {pos : Pos} {wi : TI} {g : TG} {tt : TT} {te : TE} {E : XK} (hs : X.stack = X.env :: X.outer) (hf : X.env.frame = some X.env.locals) (tk : Takes X (fun cls d _ H => E cls d H)) (calm : X.calm = true) (hN : X.N.Nodup)
    (hi : PI X tg iter wi) (ok : BlkOk X.N X.env.scope scope own) (hg : ∀ (s : Shared) (H : Hp) (C : Addr) (cl : List (Str × Addr)) (fp : List Addr), PG (X.blk s H scope (compEnvC scope cl C X.env) fp) tg g)
    (ht : ∀ (s : Shared) (H : Hp) (C : Addr) (cl : List (Str × Addr)) (fp : List Addr), PTs (X.blk s H scope (compEnvC scope cl C X.env) fp) ifs tt)
    (he : ∀ (s : Shared) (H : Hp) (C : Addr) (cl : List (Str × Addr)) (fp : List Addr), PE ((X.blk s H scope (compEnvC scope cl C X.env) fp).wish (fromBlock (X.blk s H scope (compEnvC scope cl C X.env) fp) X E)) elt te)
    (hfs : ∀ x, foldedSetIterable iter X.env x = pure x := by intro _; rfl) : PE X (.ListComp elt [⟨tg, iter, ifs, 0⟩] scope pos) (tLc wi g tt te (own.map (·.2))) := by
  refine ⟨fun pins s σ H Q I h => ?_⟩
  rw [eval_ListComp]
  refine lc_raise hs hf tk calm hN I hi ok hg ht he hfs h fun D ce t m H' _ J q hn f => ⟨m, hn, fun g sb => ?_⟩
  exact ⟨.ref D, H', J.turned (t' := t.toks) (fun b o hb e => (sb.2 b hb).trans e) f.1 f.2.1 f.2.2.2.1 f.2.2.2.2.1 f.2.2.2.2.2, rfl, q⟩
/-- name = [..], the name a local -/
theorem ps_setLcR {i : Nat} {y : Str} {py : Pos} {elt tg iter : Expr} {ifs : List Expr} {scope : Scope} {own : List (Str × Nat)} {pos spos : Pos} {wi : TI} {g : TG} {tt : TT} {te : TE} {E : XK} (hs : X.stack = X.env :: X.outer) (hf : X.env.frame = some X.env.locals) (tk : Takes X (fun cls d _ H => E cls d H)) (calm : X.calm = true) (hN : X.N.Nodup)
    (hy : X.N[i]? = some y) (hyl : X.env.scope.names.lookup y = some .local) (hsw : swapsWith (.ListComp elt [⟨tg, iter, ifs, 0⟩] scope pos) (some (.Name y py)) spos.line X.env = pure true)
    (hi : PI X tg iter wi) (ok : BlkOk X.N X.env.scope scope own) (hg : ∀ (s : Shared) (H : Hp) (C : Addr) (cl : List (Str × Addr)) (fp : List Addr), PG (X.blk s H scope (compEnvC scope cl C X.env) fp) tg g)
    (ht : ∀ (s : Shared) (H : Hp) (C : Addr) (cl : List (Str × Addr)) (fp : List Addr), PTs (X.blk s H scope (compEnvC scope cl C X.env) fp) ifs tt)
    (he : ∀ (s : Shared) (H : Hp) (C : Addr) (cl : List (Str × Addr)) (fp : List Addr), PE ((X.blk s H scope (compEnvC scope cl C X.env) fp).wish (fromBlock (X.blk s H scope (compEnvC scope cl C X.env) fp) X E)) elt te)
    (hfs : ∀ x, foldedSetIterable iter X.env x = pure x := by intro _; rfl) : PS X (.Assign [.Name y py] (.ListComp elt [⟨tg, iter, ifs, 0⟩] scope pos) spos) (tAsg (tLc wi g tt te (own.map (·.2))) (gName i)) := by
  refine ⟨fun pins s σ H D I h => ?_⟩
  rw [exec_Assign_Name_used _ _ _ _ hsw]
  refine wpAny_bind (wpAny_standAt (wpAny_bind ?_))
  have h : tLc wi g tt te (own.map (·.2)) σ H (fun x H1 => gName i x σ H1 D.nx) := h
  show wpAny _ X.A (do
    let _ ← comprehension (.ListComp elt [⟨tg, iter, ifs, 0⟩] scope pos) scope X.env (firstIterPos [⟨tg, iter, ifs, 0⟩] pos) (newList []) false (eval iter X.env) (some (assign (.Name y py) X.env))) _ _ s
  refine wpAny_bind (thn (lc_raise (Qf := fun _ t => SP X pins D .next t) hs hf tk calm hN I hi ok hg ht he hfs h fun L ce t m H' _ J q hn f => ?_) fun _ t hq => wpAny_pure (wpAny_pure hq))
  show wpAny _ _ (assign (.Name y py) X.env (.ref L)) _ _ _
  refine wpAny_assign_Name (store_ok2 (v := V.ref L) J hN hy (.inl hyl) rfl (fun s2 I2 ⟨a, sb, ha⟩ => ?_) (.inr hyl))
  have haC : ce.locals ≠ a := ha.elim (fun z => by rw [z]; exact f.2.1) fun z e => f.2.2.2.2.1 y a z e.symm
  exact ⟨m, hn.sameBut sb haC, fun h3 sb3 => ⟨_, H', I2.turned (t' := s2.toks) (fun b o hb e => (sb3.2 b hb).trans e) f.1 f.2.1 f.2.2.2.1 f.2.2.2.2.1 f.2.2.2.2.2, q⟩⟩
end
end Fw
end

section
-- part Ft
set_option Elab.async false
set_option linter.all false
set_option maxRecDepth 100000
set_option maxHeartbeats 2000000
/-! Ft: a def that tells which of two own errors came -/
namespace Fw
open PySem PySem.Spec PyProof.Rows L2 LamX
section
variable {X : Cx}
theorem told2_gives {Ng : List Str} {x a e e2 q ret ret2 : Str} {sg : Scope} {g CS CS2 : Addr} {cdg : Value} {j j2 : Nat} {p1 p2 p3 p4 p5 p6 p7 p8 q4 q5 q6 q7 : Pos} (hge : sg.names.lookup e = some .globalImplicit) (hme : X.mg e = some (.ref CS)) (hde : (e == ("__debug__" : Str)) = false)
    (hge2 : sg.names.lookup e2 = some .globalImplicit) (hme2 : X.mg e2 = some (.ref CS2)) (hde2 : (e2 == ("__debug__" : Str)) = false) (h0 : ∀ f : Addr, (L2.start Ng [V.ref f])[0]? = some (some (V.ref f))) :
    GivesTo X Ng x sg g cdg [.Try [.Return (some (.Call (.Name a p1) [] [] p2)) p3]
      [.ExceptHandler (some (.Name e p4)) none [.Return (some (.Constant (.str ret) j p5)) p6] p7, .ExceptHandler (some (.Name e2 q4)) none [.Return (some (.Constant (.str ret2) j2 q5)) q6] q7] [] [] p8] a q (TTold X.K CS ret) := by
  intro f c' s H Q tl act hc h
  have hgl : Gl (cxOf C8.CX0 X.prog X.w X.K X.mg X.base Ng x sg g cdg X.A X.stack s H C8.E0).nox e := hge
  have hgl2 : Gl (cxOf C8.CX0 X.prog X.w X.K X.mg X.base Ng x sg g cdg X.A X.stack s H C8.E0).nox e2 := hge2
  refine ⟨_, pss_one (ps_try_many (X := (cxOf C8.CX0 X.prog X.w X.K X.mg X.base Ng x sg g cdg X.A X.stack s H C8.E0).nox)
      (tb := fun W D σ H => ∃ Ech : XK, (∀ cls d σ' H', Ech cls d H' → W cls d σ' H') ∧ σ[0]? = some (some (.ref f)) ∧ H c' = some (CodeO c' q) ∧ tl Ech H D.rt)
      rfl rfl LamX.takes0 (fun W pn xe tk _ => ?_)
      (.cons (c := .ref CS) ⟨hgl, hde, .inl hme⟩ (fun a oe cls d pn _ _ => pss_one (ps_ret pe_str)) (.cons (c := .ref CS2) ⟨hgl2, hde2, .inl hme2⟩ (fun a oe cls d pn _ _ => pss_one (ps_ret pe_str)) .nil))), ?_⟩
  · refine ⟨fun pins s' σ H' D I h' => ?_⟩
    obtain ⟨Ech, hW, h1, h2, h3⟩ := h'
    have hp := act W pn xe Ech p1 p2 tk hW
    have hq := pss_one (ps_ret (pos := p3) hp)
    exact hq.run pins s' σ H' D I ⟨h1, h2, h3⟩
  · exact ⟨fun cls _ H' => ∃ b, PySem.W.exmOne X.K cls (.ref CS) = some b ∧ (b = true → Q (.str ret) H') ∧ (b = false → False), fun cls d σ' H' ⟨b, e1, e2, e3⟩ => ⟨b, e1, fun hb a _ => e2 hb, fun hb => (e3 hb).elim⟩, h0 f, hc, h⟩
theorem pe_fldK (K : PySem.W.Frag) {e : Expr} {f : Str} {pos : Pos} {ta : TE} (he : PE X e ta) (hb : attributeBase e f X.env (eval e X.env) = eval e X.env) (hK : X.K = K) : PE X (.Attribute e f pos) (tFld K ta f) := by
  subst hK
  exact pe_fld he hb
end
section
variable {σ : L2.St} {H : Hp} {Q : VK} {ta tb : TE}
theorem w_andV (h : ta σ H fun x H1 => ∃ c, x = .bl c ∧ if c = true then tb σ H1 Q else Q (.bl false) H1) : tAndV ta tb σ H Q := h
theorem w_orV (h : ta σ H fun x H1 => ∃ c, x = .bl c ∧ if c = true then Q (.bl true) H1 else tb σ H1 Q) : tOrV ta tb σ H Q := h
theorem w_notV (h : ta σ H fun x H1 => ∃ c, x = .bl c ∧ Q (.bl (!c)) H1) : tNotV ta σ H Q := h
end
end Fw
end

section
-- part Fz3
set_option Elab.async false
set_option linter.all false
set_option maxRecDepth 100000
set_option maxHeartbeats 2000000
/-! Fz3: zip of two tuples and a list; len(range(a, b, c)) -/
namespace Fw
open PySem PySem.Spec PyProof.Rows L2
/-- two tuples and a list as they stand at each turn, the items in new tuples -/
def Itz3 (K : PySem.W.Frag) (a b c : Addr) : It :=
  ⟨fun i H => ∃ (xs ys zs : List V) (x y z : V), SqT K H a xs ∧ SqT K H b ys ∧ SqL K H c zs ∧ xs[i]? = some x ∧ ys[i]? = some y ∧ zs[i]? = some z,
    fun i H v H' => ∃ T x y z, v = .ref T ∧ H T = none ∧ H' = upd H T (.tup [x, y, z]) ∧ (∀ xs, SqT K H a xs → xs[i]? = some x) ∧ (∀ ys, SqT K H b ys → ys[i]? = some y) ∧ ∀ zs, SqL K H c zs → zs[i]? = some z,
    fun i H => ∃ xs ys zs : List V, SqT K H a xs ∧ SqT K H b ys ∧ SqL K H c zs ∧ i = xs.length ∧ xs.length = ys.length ∧ ys.length = zs.length⟩
theorem sub6 {z TI TO i1 i2 i3 d : Addr} (h : d ∉ [z, TI, TO, i1, i2, i3]) : d ∉ [z, TO, i1, i2, i3] := fun q => h (by
  simp only [List.mem_cons, List.not_mem_nil, or_false] at q ⊢
  rcases q with q | q | q | q | q <;> simp [q])
theorem turn_zip3 {P : Program} {w : World} {K : PySem.W.Frag} {elts : List Expr} {kk : Nat} {tpos : Pos} {a b c z TI TO i1 i2 i3 : Addr} (S : ZipSep3 z TI TO i1 i2 i3 [i1, a] [i2, b] [i3, c]) (na : a ≠ i1) (nb : b ≠ i2) (nc : c ≠ i3) :
    Turn P w K (.Tuple elts kk tpos) (Itz3 K a b c) [z, TI, TO, i1, i2, i3] z (fun i h => IsZip h z TI TO .none ∧ IsTupOf3 h TI (.ref i1) (.ref i2) (.ref i3) ∧ (∃ x y u, IsTupOf3 h TO x y u) ∧ h.IsTupleIter i1 a i ∧ h.IsTupleIter i2 b i ∧ h.IsListIter i3 c i) where
  mem := by simp
  obj := fun i h st d hd => by
    obtain ⟨hz, hTI, ⟨x, y, u, hTO⟩, ⟨o1, e1, _, d1⟩, ⟨o2, e2, _, d2⟩, ⟨o3, e3, _, d3⟩⟩ := st
    have e' : d = z ∨ d = TI ∨ d = TO ∨ d = i1 ∨ d = i2 ∨ d = i3 := by simpa using hd
    rcases e' with q | q | q | q | q | q
    · rw [q]; exact ⟨_, hz, fun v q => nomatch q⟩
    · rw [q]; exact ⟨_, hTI, fun v q => nomatch q⟩
    · rw [q]; exact ⟨_, hTO, fun v q => nomatch q⟩
    · rw [q]; exact ⟨o1, e1, fun v q => by rw [d1] at q; cases q⟩
    · rw [q]; exact ⟨o2, e2, fun v q => by rw [d2] at q; cases q⟩
    · rw [q]; exact ⟨o3, e3, fun v q => by rw [d3] at q; cases q⟩
  keep := fun i h h' st k => by
    obtain ⟨hz, hTI, ⟨x, y, u, hTO⟩, h1, h2, h3⟩ := st
    exact ⟨k z (by simp) _ hz, k TI (by simp) _ hTI, ⟨x, y, u, k TO (by simp) _ hTO⟩, h1.at fun o q => k i1 (by simp) o q, h2.at fun o q => k i2 (by simp) o q, h3.at fun o q => k i3 (by simp) o q⟩
  item := by
    intro X hP hw hK hc i pins s σ H E I hf st hg
    subst hP hw hK
    obtain ⟨hz, hTI, hTO, h1, h2, h3⟩ := st
    obtain ⟨xs, ys, zs, x, y, v, hqx, hqy, hqz, hx, hy, hv⟩ := hg
    obtain ⟨its, rv, p, _⟩ := I.tuple hqx
    obtain ⟨its2, rv2, p2, _⟩ := I.tuple hqy
    obtain ⟨its3, rv3, p3, _⟩ := I.list hqz
    obtain ⟨u, hu, ru⟩ := rv.get hx
    obtain ⟨u2, hu2, ru2⟩ := rv2.get hy
    obtain ⟨u3, hu3, ru3⟩ := rv3.get hv
    have hh : X.A.in1.handled = none := I.ok.hd hc
    have W := WalksT.zipD3 (prog := X.prog) (w := X.w) (A := X.A) S (Draws.tuple hh i1 a na its.toArray) (Draws.tuple hh i2 b nb its2.toArray) (Draws.list hh i3 c nc its3.toArray)
    have l1 : i < its.length := (List.getElem?_eq_some_iff.mp hu).1
    have l2 : i < its2.length := (List.getElem?_eq_some_iff.mp hu2).1
    have l3 : i < its3.length := (List.getElem?_eq_some_iff.mp hu3).1
    refine W.item i s _ _ (by simp only [List.size_toArray]; omega) ⟨hz, hTI, hTO, ⟨h1, p⟩, ⟨h2, p2⟩, ⟨h3, p3.isList⟩⟩ fun T vals h' tk hP hsz hT hmid hk => ?_
    refine ⟨_, rfl, W.go _ _ _ i T { s with heap := h', toks := tk } _ _ hmid fun h'' st'' hk'' => ?_⟩
    obtain ⟨x1, x2, x3, q1, q2, q3, rfl⟩ := hP
    have q1' : its[i]? = some x1 := by simpa using q1
    have q2' : its2[i]? = some x2 := by simpa using q2
    have q3' : its3[i]? = some x3 := by simpa using q3
    rw [hu] at q1'
    rw [hu2] at q2'
    rw [hu3] at q3'
    cases q1'
    cases q2'
    cases q3'
    have hT2 : h''.IsTuple T #[u, u2, u3] := hT.at fun o e => hk'' T o (W.apart i T h' hmid) e
    have new : ObjOk X.prog X.w (upd H T (.tup [x, y, v])) h'' T (.tup [x, y, v]) := ⟨by show 3 ≤ sizeLine; decide, [u, u2, u3], .cons ru (.cons ru2 (.cons ru3 .nil)), hT2⟩
    have nin : ∀ d, d ∉ [z, TI, TO, i1, i2, i3] → d ∉ [z, TO, i1, i2, i3] := fun d hd => sub6 hd
    have I1 : Inv X pins σ (upd H T (.tup [x, y, v])) { s with heap := h'', toks := tk } :=
      I.turnedNew (t' := tk) (ch := [z, TI, TO, i1, i2, i3]) (fun d o hb q => hk'' d o (nin d hb) (hk d o (nin d hb) q)) hf hsz new
    refine ⟨.ref T, _, I1, rfl, ⟨_, x, y, v, rfl, I.hok.fresh hsz, rfl, fun l hl => by rw [I.tuple_inj hl hqx]; exact hx, fun l hl => by rw [I.tuple_inj hl hqy]; exact hy, fun l hl => by rw [I.list_inj hl hqz]; exact hv⟩, ⟨st''.1, st''.2.1, st''.2.2.1, st''.2.2.2.1.1, st''.2.2.2.2.1.1, st''.2.2.2.2.2.1⟩, fun d hd => ?_⟩
    have hlt : d < s.heap.objs.size := by
      have e' : d = z ∨ d = TI ∨ d = TO ∨ d = i1 ∨ d = i2 ∨ d = i3 := by simpa using hd
      obtain ⟨a1, a2, a3, hTO⟩ := hTO
      rcases e' with q | q | q | q | q | q
      · rw [q]; exact Heap.lt_size hz
      · rw [q]; exact Heap.lt_size hTI
      · rw [q]; exact Heap.lt_size hTO
      · rw [q]; obtain ⟨_, e1, _⟩ := h1; exact Heap.lt_size e1
      · rw [q]; obtain ⟨_, e2, _⟩ := h2; exact Heap.lt_size e2
      · rw [q]; obtain ⟨_, e3, _⟩ := h3; exact Heap.lt_size e3
    rw [upd_ne (Nat.ne_of_lt (Nat.lt_of_lt_of_le hlt hsz))]
    exact (hf d hd).1
  done := by
    intro X hP hw hK hc i pins s σ H E I hf st hg
    subst hP hw hK
    obtain ⟨hz, hTI, hTO, h1, h2, h3⟩ := st
    obtain ⟨xs, ys, zs, hqx, hqy, hqz, rfl, e1, e2⟩ := hg
    obtain ⟨its, rv, p, _⟩ := I.tuple hqx
    obtain ⟨its2, rv2, p2, _⟩ := I.tuple hqy
    obtain ⟨its3, rv3, p3, _⟩ := I.list hqz
    have hh : X.A.in1.handled = none := I.ok.hd hc
    have l1 := rv.length
    have l2 := rv2.length
    have l3 := rv3.length
    have W := WalksT.zipD3 (prog := X.prog) (w := X.w) (A := X.A) S (Draws.tuple hh i1 a na its.toArray) (Draws.tuple hh i2 b nb its2.toArray) (Draws.list hh i3 c nc its3.toArray)
    have en : min (min its.toArray.size its2.toArray.size) its3.toArray.size = xs.length := by simp only [List.size_toArray]; omega
    refine W.done s _ _ (by rw [en]; exact ⟨hz, hTI, hTO, ⟨h1, p⟩, ⟨h2, p2⟩, ⟨h3, p3.isList⟩⟩) fun h' tk hk => ⟨rfl, I.turnedL (t' := tk) (ch := [z, TI, TO, i1, i2, i3]) (fun d o hb q => hk d o (sub6 hb) q) hf⟩
  self := fun A i s Q E st h => wpAny_pyIter_zip st.1 h
def iZip3 (K : PySem.W.Frag) (ta : TA) : TI := fun σ H R => ta σ H fun vs H1 => ∃ a b c xs ys zs, vs = [.ref a, .ref b, .ref c] ∧ SqT K H1 a xs ∧ SqT K H1 b ys ∧ SqL K H1 c zs ∧ R (Itz3 K a b c) H1
theorem pi_zip3 {X : Cx} {e e2 e3 : Expr} {ta : TA} {p pos tpos : Pos} {elts : List Expr} {kk : Nat} (hg : Gl X "zip") (hm : X.mg "zip" = none) (ha : PA X [e, e2, e3] ta)
    (hs : starEach [e, e2, e3] X.env = (false, eval e X.env) :: starEach [e2, e3] X.env := by rfl) (hpl : (backTo pos (starEach [e2, e3] X.env)).any (·.1) = false := by rfl) :
    PI X (.Tuple elts kk tpos) (.Call (.Name "zip" p) [e, e2, e3] [] pos) (iZip3 X.K ta) := by
  refine ⟨fun pins s σ H R I h => ?_⟩
  refine Call_ (ld_blt I hg hm PyProof.Rows.boot_zip (PyProof.Rows.callWith_type1 (thn (ha.run pos pins s σ H _ I h) fun us s1 ⟨vs, H1, I1, r1, q1⟩ => ?_) hs hpl))
  obtain ⟨a, b, c, xs, ys, zs, ex, hqx, hqy, hqz, q⟩ := q1
  subst ex
  cases r1 with
  | cons r rr =>
    cases rr with
    | cons r' rr =>
      cases rr with
      | cons r'' rr =>
        cases rr
        cases r
        cases r'
        cases r''
        obtain ⟨its, rv, p1, _⟩ := I1.tuple hqx
        obtain ⟨its2, rv2, p2, _⟩ := I1.tuple hqy
        obtain ⟨its3, rv3, p3, _⟩ := I1.list hqz
        have la : a < s1.heap.objs.size := by obtain ⟨o, ho, _⟩ := id p1; exact Heap.lt_size ho
        have lb : b < s1.heap.objs.size := by obtain ⟨o, ho, _⟩ := id p2; exact Heap.lt_size ho
        have lc : c < s1.heap.objs.size := p3.lt
        have one : ∀ {x N : Addr}, x < N → ∀ d ∈ [x], d < N := fun {x N} h d hd => by rw [List.mem_singleton.mp hd]; exact h
        have S := zip_sep3 (N := s1.heap.objs.size) (one la) (one lb) (one lc)
        refine zip_begins3 (begins_tuple a its.toArray) (begins_tuple b its2.toArray) (begins_list c its3.toArray) p1 p2 p3.isList fun h' hz hTI hTO g1 g2 g3 hsz hk => wpAny_pyIter_zip hz ?_
        have I2 : Inv X pins σ H1 { s1 with heap := h' } := I1.kept (t' := s1.toks) hk
        refine ⟨_, _, _, _, H1, rfl, I2, turn_zip3 (K := X.K) (a := a) (b := b) (c := c) S (Nat.ne_of_lt la) (Nat.ne_of_lt (Nat.lt_of_lt_of_le lb (Nat.le_add_right _ 1))) (Nat.ne_of_lt (Nat.lt_of_lt_of_le lc (Nat.le_add_right _ 2))), ⟨hz, hTI, ⟨_, _, _, hTO⟩, ⟨_, g1, rfl, rfl⟩, ⟨_, g2, rfl, rfl⟩, ⟨_, g3, rfl, rfl⟩⟩, fun d hdm => ?_, q⟩
        have hle : s1.heap.objs.size ≤ d := by
          simp only [List.mem_cons, List.not_mem_nil, or_false] at hdm
          rcases hdm with q | q | q | q | q | q <;> rw [q] <;> first | exact Nat.le_refl _ | exact Nat.le_add_right _ _
        exact I1.fpOk hle (I1.hok.fresh hle)

def tLenR3 (ta : TA) : TE := fun σ H Q => ta σ H fun vs H1 => ∃ (i j c : Int) (n : Nat), vs = [.int i, .int j, .int c] ∧ RgC i j c n ∧ (n : Int) < 2 ^ 63 ∧ Q (.int (n : Int)) H1
/-- len(range(a, b, c)) -/
theorem pe_lenR3 {X : Cx} {a b c : Expr} {ta : TA} {p p2 pos pos2 : Pos} (hgl : Gl X "len") (hml : X.mg "len" = none) (hg : Gl X "range") (hm : X.mg "range" = none) (ha : PA X [a, b, c] ta)
    (hs1 : starEach [.Call (.Name "range" p2) [a, b, c] [] pos2] X.env = (false, eval (.Call (.Name "range" p2) [a, b, c] [] pos2) X.env) :: starEach [] X.env := by rfl) (hpl1 : (backTo pos (starEach [] X.env)).any (·.1) = false := by rfl)
    (hs : starEach [a, b, c] X.env = (false, eval a X.env) :: starEach [b, c] X.env := by rfl) (hpl : (backTo pos2 (starEach [b, c] X.env)).any (·.1) = false := by rfl) :
    PE X (.Call (.Name "len" p) [.Call (.Name "range" p2) [a, b, c] [] pos2] [] pos) (tLenR3 ta) := by
  refine ⟨fun pins s σ H Q I h => ?_⟩
  refine wpAny_Call_Name_kw (ld_blt I hgl hml PySem.boot_len ?_)
  refine PyProof.Rows.callWith_builtin1 ?_ hs1 hpl1
  rw [hs1]
  show wpAny _ _ (spliced ((false, eval (.Call (.Name "range" p2) [a, b, c] [] pos2) X.env) :: backTo pos (starEach [] X.env))) _ _ s
  refine Calls.spliced_cons ?_
  refine Call_ (ld_blt I hg hm boot_range (PyProof.Rows.callWith_type1 (thn (ha.run pos2 pins s σ H _ I h) fun us s1 ⟨vs, H1, I1, r1, q1⟩ => ?_) hs hpl))
  obtain ⟨i, j, k, n, e, ⟨c0, c1, c2, c3⟩, hn, q⟩ := q1
  subst e
  cases r1 with
  | cons r rr =>
    cases rr with
    | cons r' rr =>
      cases rr with
      | cons r'' rr =>
        cases rr
        obtain ⟨t, rfl⟩ := r
        obtain ⟨t', rfl⟩ := r'
        obtain ⟨t'', rfl⟩ := r''
        refine call_range_3 c0 ?_ (.inl (PyProof.noPylong_small c1))
        have I2 : Inv X pins σ H1 { s1 with heap := s1.heap.push { cls := .type "range", data := .fields #[.int i t, .int j t', .int k t''] } } := I1.kept (t' := s1.toks) fun b o e => Heap.get?_push_of_some _ e
        refine Calls.spliced_nil ?_
        exact call_len_range (IsRange.new ..) c3 hn ⟨.int (n : Int), H1, I2.tok _, ⟨_, rfl⟩, q⟩
end Fw
end

section
-- part Fz4
set_option Elab.async false
set_option linter.all false
set_option maxRecDepth 100000
set_option maxHeartbeats 2000000
/-! Fz4: enumerate of a tuple -/
namespace Fw
open PySem PySem.Spec PyProof.Rows L2
open AutoSeq1 (wpAny_loadPart')
theorem meets_enum1 {v : Value} {o : Obj} {G : Heap → Prop} (B : Begins v o G) :
    Meets (Builtin.«enumerate.__new__» ⟨[.type "enumerate", v], []⟩) (fun _ R s => G s.heap ∧
      R (.ok (.ret (.ref (s.heap.push o).objs.size))) { s with heap := (s.heap.push o).push { cls := .type "enumerate", data := .fields #[.none, .bool false, .ref s.heap.objs.size, rawInt 0, .none, .none] } }) :=
  .of_wp fun prog w A R s h => by
    obtain ⟨hp, g, d, tk, os⟩ := s
    obtain ⟨h1, h⟩ := h
    have hsub := sub_enumerate
    have q1 : ∀ {A' : Around} {E : Value → Shared → Prop} {Q : Value → Shared → Prop}, Q (.ref hp.objs.size) ⟨hp.push o, g, d, tk, os⟩ → wpAny (model prog w) A' (pyIter v) Q E ⟨hp, g, d, tk, os⟩ :=
      fun q => B.iter prog w _ _ ⟨hp, g, d, tk, os⟩ _ h1 q
    wp_walk using q1
    refine wpAny_stack_any fun st => wpAny_pure ?_
    split
    · rename_i c _ _ _ _ _
      cases (c == Value.type "enumerate")
      · wp_walk using q1
        exact ⟨_, rfl, h⟩
      · wp_walk using q1
        exact ⟨_, rfl, h⟩
    · wp_walk using q1
      exact ⟨_, rfl, h⟩
section
variable {prog : Program} {w : World} {A : Around} {E : Value → Shared → Prop} {s : Shared}
theorem enum_begins1 {v : Value} {o : Obj} {G : Heap → Prop} {Q : Value → Shared → Prop} (B : Begins v o G) (h1 : G s.heap)
    (h : ∀ h', IsEnum h' (s.heap.objs.size + 1) s.heap.objs.size 0 .none → h'.get? s.heap.objs.size = some o → h'.objs.size = s.heap.objs.size + 2 →
      (∀ b o, s.heap.get? b = some o → h'.get? b = some o) → Q (.ref (s.heap.objs.size + 1)) { s with heap := h' }) :
    wpAny (model prog w) A (call (.type "enumerate") [v]) Q E s := by
  refine callType_new F.called_enumerate (by decide) (F.typeCall_enumerate_1 _) (F.newCall_enumerate_1 _) (fun obj => F.args_object_init_2 obj _) F.entry_enumerate_new (meets_enum1 B) ⟨h1, ?_⟩
  have hz : (s.heap.push o).objs.size = s.heap.objs.size + 1 := Heap.size_push ..
  show _ ∧ _
  rw [hz]
  have he : IsEnum ((s.heap.push o).push { cls := .type "enumerate", data := .fields #[.none, .bool false, .ref s.heap.objs.size, rawInt 0, .none, .none] }) (s.heap.objs.size + 1) s.heap.objs.size 0 .none := by
    have := Heap.get?_push_size (s.heap.push o) (o := { cls := .type "enumerate", data := .fields #[.none, .bool false, .ref s.heap.objs.size, rawInt 0, .none, .none] }) rfl
    rw [hz] at this
    exact this
  exact ⟨⟨_, he, rfl⟩, h _ he (Heap.get?_push_of_some _ (Heap.get?_push_size _ B.free)) (by rw [Heap.size_push, hz]) fun b o x => Heap.get?_push_of_some _ (Heap.get?_push_of_some _ x)⟩
end
/-- the tuple at a, each item in a new pair with its number -/
def IteT (K : PySem.W.Frag) (a : Addr) : It :=
  ⟨fun i H => ∃ (xs : List V) (x : V), SqT K H a xs ∧ xs[i]? = some x, fun i H v H' => ∃ T x, v = .ref T ∧ H T = none ∧ H' = upd H T (.tup [.int (i : Nat), x]) ∧ ∀ xs, SqT K H a xs → xs[i]? = some x, fun i H => ∃ xs : List V, SqT K H a xs ∧ xs.length = i⟩
theorem turn_enumT {P : Program} {w : World} {K : PySem.W.Frag} {elts : List Expr} {kk : Nat} {tpos : Pos} {a e it : Addr} (hei : e ≠ it) (hea : e ≠ a) (hai : a ≠ it) :
    Turn P w K (.Tuple elts kk tpos) (IteT K a) [e, it] e (fun i h => (∃ old, IsEnum h e it ((i : Nat) : Int) old) ∧ h.IsTupleIter it a i) where
  mem := by simp
  obj := fun i h st d hd => by
    obtain ⟨⟨old, he⟩, ⟨o1, e1, _, d1⟩⟩ := st
    have e' : d = e ∨ d = it := by simpa using hd
    rcases e' with q | q
    · rw [q]; exact ⟨_, he, fun v q => nomatch q⟩
    · rw [q]; exact ⟨o1, e1, fun v q => by rw [d1] at q; cases q⟩
  keep := fun i h h' st k => by
    obtain ⟨⟨old, he⟩, h1⟩ := st
    exact ⟨⟨old, k e (by simp) _ he⟩, h1.at fun o q => k it (by simp) o q⟩
  item := by
    intro X hP hw hK hc i pins s σ H E I hf st hg
    subst hP hw hK
    obtain ⟨⟨old, he⟩, h1⟩ := st
    obtain ⟨xs, x, hqx, hx⟩ := hg
    obtain ⟨its, rv, p, _⟩ := I.tuple hqx
    obtain ⟨u, hu, ru⟩ := rv.get hx
    have hh : X.A.in1.handled = none := I.ok.hd hc
    have W := WalksT.enumerateD (prog := X.prog) (w := X.w) (A := X.A) (Draws.tuple hh it a hai its.toArray) e hei (by simp; exact ⟨hei, hea⟩) (by simp)
    have l1 : i < its.length := (List.getElem?_eq_some_iff.mp hu).1
    refine W.item i s _ _ (by simp only [List.size_toArray]; omega) ⟨⟨old, he⟩, ⟨h1, p⟩⟩ fun T vals h' tk hP hsz hT hmid hk => ?_
    refine ⟨_, rfl, W.go _ _ _ i T { s with heap := h', toks := tk } _ _ hmid fun h'' st'' hk'' => ?_⟩
    obtain ⟨t, x1, q1, rfl⟩ := hP
    have q1' : its[i]? = some x1 := by simpa using q1
    rw [hu] at q1'
    cases q1'
    have hT2 : h''.IsTuple T #[.int (i : Int) t, u] := hT.at fun o e => hk'' T o (W.apart i T h' hmid) e
    have new : ObjOk X.prog X.w (upd H T (.tup [.int (i : Nat), x])) h'' T (.tup [.int (i : Nat), x]) := ⟨by show 2 ≤ sizeLine; decide, [.int (i : Int) t, u], .cons ⟨t, rfl⟩ (.cons ru .nil), hT2⟩
    have I1 : Inv X pins σ (upd H T (.tup [.int (i : Nat), x])) { s with heap := h'', toks := tk } :=
      I.turnedNew (t' := tk) (ch := [e, it]) (fun d o hb q => hk'' d o hb (hk d o hb q)) hf hsz new
    refine ⟨.ref T, _, I1, rfl, ⟨_, x, rfl, I.hok.fresh hsz, rfl, fun l hl => by rw [I.tuple_inj hl hqx]; exact hx⟩, ⟨st''.1, st''.2.1⟩, fun d hd => ?_⟩
    have hlt : d < s.heap.objs.size := by
      have e' : d = e ∨ d = it := by simpa using hd
      rcases e' with q | q
      · rw [q]; exact Heap.lt_size he
      · rw [q]; obtain ⟨_, e1, _⟩ := h1; exact Heap.lt_size e1
    rw [upd_ne (Nat.ne_of_lt (Nat.lt_of_lt_of_le hlt hsz))]
    exact (hf d hd).1
  done := by
    intro X hP hw hK hc i pins s σ H E I hf st hg
    subst hP hw hK
    obtain ⟨⟨old, he⟩, h1⟩ := st
    obtain ⟨xs, hqx, rfl⟩ := hg
    obtain ⟨its, rv, p, _⟩ := I.tuple hqx
    have hh : X.A.in1.handled = none := I.ok.hd hc
    have l1 := rv.length
    have W := WalksT.enumerateD (prog := X.prog) (w := X.w) (A := X.A) (Draws.tuple hh it a hai its.toArray) e hei (by simp; exact ⟨hei, hea⟩) (by simp)
    have en : its.toArray.size = xs.length := by simp only [List.size_toArray]; omega
    refine W.done s _ _ (by rw [en]; exact ⟨⟨old, he⟩, ⟨h1, p⟩⟩) fun h' tk hk => ⟨rfl, I.turnedL (t' := tk) (ch := [e, it]) (fun d o hb q => hk d o hb q) hf⟩
  self := fun A i s Q E st h => by
    obtain ⟨⟨old, he⟩, _⟩ := st
    exact wpAny_pyIter_enum he h
def iEnumT (K : PySem.W.Frag) (ta : TA) : TI := fun σ H R => ta σ H fun vs H1 => ∃ a xs, vs = [.ref a] ∧ SqT K H1 a xs ∧ R (IteT K a) H1
theorem pi_enumT {X : Cx} {e : Expr} {ta : TA} {p pos tpos : Pos} {elts : List Expr} {kk : Nat} (hg : Gl X "enumerate") (hm : X.mg "enumerate" = none) (ha : PA X [e] ta) (hs : starEach [e] X.env = [(false, eval e X.env)] := by rfl) :
    PI X (.Tuple elts kk tpos) (.Call (.Name "enumerate" p) [e] [] pos) (iEnumT X.K ta) := by
  refine ⟨fun pins s σ H R I h => ?_⟩
  refine Call_ (ld_blt I hg hm boot_enumerate (PyProof.Rows.callWith_type1 (thn (ha.run pos pins s σ H _ I h) fun us s1 ⟨vs, H1, I1, r1, q1⟩ => ?_) hs rfl))
  obtain ⟨a, xs, ex, hq, q⟩ := q1
  subst ex
  cases r1 with
  | cons r rr =>
    cases rr
    cases r
    obtain ⟨its, rv, p1, _⟩ := I1.tuple hq
    have la : a < s1.heap.objs.size := by obtain ⟨o, ho, _⟩ := id p1; exact Heap.lt_size ho
    refine enum_begins1 (begins_tuple a its.toArray) p1 fun h' he g1 hsz hk => wpAny_pyIter_enum he ?_
    have I2 : Inv X pins σ H1 { s1 with heap := h' } := I1.kept (t' := s1.toks) hk
    refine ⟨_, _, _, _, H1, rfl, I2, turn_enumT (K := X.K) (a := a) (Nat.succ_ne_self _) (Nat.ne_of_gt (Nat.lt_succ_of_lt la)) (Nat.ne_of_lt la), ⟨⟨.none, he⟩, ⟨_, g1, rfl, rfl⟩⟩, fun d hdm => ?_, q⟩
    have hle : s1.heap.objs.size ≤ d := by
      simp only [List.mem_cons, List.not_mem_nil, or_false] at hdm
      rcases hdm with q | q <;> rw [q] <;> first | exact Nat.le_refl _ | exact Nat.le_add_right _ _
    exact I1.fpOk hle (I1.hok.fresh hle)
section
variable {K : PySem.W.Frag} {σ : L2.St} {H : Hp} {g : TG} {tb : TS} {D : Ends} {ta : TA}
theorem w_iEnumT {R : It → Hp → Prop} (h : ta σ H fun vs H1 => ∃ a xs, vs = [.ref a] ∧ SqT K H1 a xs ∧ R (IteT K a) H1) : iEnumT K ta σ H R := h
theorem w_iZip3 {R : It → Hp → Prop} (h : ta σ H fun vs H1 => ∃ a b c xs ys zs, vs = [.ref a, .ref b, .ref c] ∧ SqT K H1 a xs ∧ SqT K H1 b ys ∧ SqL K H1 c zs ∧ R (Itz3 K a b c) H1) : iZip3 K ta σ H R := h
theorem w_par {i j : Nat} {D : Ends} (h : ta σ H fun vs H1 => ∃ v w, vs = [v, w] ∧ D.nx ((σ.set i (some v)).set j (some w)) H1) : tPar i j ta D σ H := h
theorem w_lenR3 {Q : VK} (h : ta σ H fun vs H1 => ∃ (i j c : Int) (n : Nat), vs = [.int i, .int j, .int c] ∧ RgC i j c n ∧ (n : Int) < 2 ^ 63 ∧ Q (.int (n : Int)) H1) : tLenR3 ta σ H Q := h
theorem for_enumT {a : Addr} {xs : List V} (Pv : Nat → L2.St → Hp → Prop) (h0 : Pv 0 σ H) (hq : ∀ i σ H, Pv i σ H → SqT K H a xs)
    (hs : ∀ (i : Nat) (x : V) (T : Addr) (σ : L2.St) (H : Hp), xs[i]? = some x → Pv i σ H → H T = none → g (.ref T) σ (upd H T (.tup [.int (i : Nat), x])) fun σ2 H2 => tb { D with nx := Pv (i + 1), ct := Pv (i + 1), bk := D.nx } σ2 H2)
    (hd : ∀ σ H, Pv xs.length σ H → D.nx σ H) :
    ∃ W : Nat → Nat → L2.St → Hp → Prop, (∃ m, W 0 m σ H) ∧ ∀ i m σ H, W i m σ H →
      ((IteT K a).stop i H ∧ D.nx σ H) ∨ ((IteT K a).go i H ∧ ∃ N : L2.St → Hp → Prop, (∀ σ' H', N σ' H' → ∃ m', m' < m ∧ W (i + 1) m' σ' H') ∧ ∀ v H', (IteT K a).yld i H v H' → g v σ H' fun σ2 H2 => tb { D with nx := N, ct := N, bk := D.nx } σ2 H2) := by
  refine ⟨fun i m σ H => m = xs.length - i ∧ i ≤ xs.length ∧ Pv i σ H, ⟨_, rfl, Nat.zero_le _, h0⟩, ?_⟩
  rintro i m σ H ⟨rfl, hi, p⟩
  by_cases hlt : i < xs.length
  · refine .inr ⟨⟨xs, xs[i], hq i σ H p, List.getElem?_eq_getElem hlt⟩, Pv (i + 1), fun σ' H' p' => ⟨xs.length - (i + 1), by omega, rfl, hlt, p'⟩, ?_⟩
    rintro v H' ⟨T, x, rfl, hT, rfl, hx⟩
    exact hs i x T σ H (hx xs (hq i σ H p)) p hT
  · have e : i = xs.length := by omega
    subst e
    exact .inl ⟨⟨xs, hq _ σ H p, rfl⟩, hd σ H p⟩
theorem for_zip3 {a b c : Addr} {xs ys zs : List V} (e1 : xs.length = ys.length) (e2 : ys.length = zs.length) (Pv : Nat → L2.St → Hp → Prop) (h0 : Pv 0 σ H) (hq : ∀ i σ H, Pv i σ H → SqT K H a xs ∧ SqT K H b ys ∧ SqL K H c zs)
    (hs : ∀ (i : Nat) (x y z : V) (T : Addr) (σ : L2.St) (H : Hp), xs[i]? = some x → ys[i]? = some y → zs[i]? = some z → Pv i σ H → H T = none → g (.ref T) σ (upd H T (.tup [x, y, z])) fun σ2 H2 => tb { D with nx := Pv (i + 1), ct := Pv (i + 1), bk := D.nx } σ2 H2)
    (hd : ∀ σ H, Pv xs.length σ H → D.nx σ H) :
    ∃ W : Nat → Nat → L2.St → Hp → Prop, (∃ m, W 0 m σ H) ∧ ∀ i m σ H, W i m σ H →
      ((Itz3 K a b c).stop i H ∧ D.nx σ H) ∨ ((Itz3 K a b c).go i H ∧ ∃ N : L2.St → Hp → Prop, (∀ σ' H', N σ' H' → ∃ m', m' < m ∧ W (i + 1) m' σ' H') ∧ ∀ v H', (Itz3 K a b c).yld i H v H' → g v σ H' fun σ2 H2 => tb { D with nx := N, ct := N, bk := D.nx } σ2 H2) := by
  refine ⟨fun i m σ H => m = xs.length - i ∧ i ≤ xs.length ∧ Pv i σ H, ⟨_, rfl, Nat.zero_le _, h0⟩, ?_⟩
  rintro i m σ H ⟨rfl, hi, p⟩
  by_cases hlt : i < xs.length
  · have q := hq i σ H p
    refine .inr ⟨⟨xs, ys, zs, xs[i], ys[i], zs[i], q.1, q.2.1, q.2.2, List.getElem?_eq_getElem hlt, List.getElem?_eq_getElem (by omega), List.getElem?_eq_getElem (by omega)⟩, Pv (i + 1), fun σ' H' p' => ⟨xs.length - (i + 1), by omega, rfl, hlt, p'⟩, ?_⟩
    rintro v H' ⟨T, x, y, z, rfl, hT, rfl, hx, hy, hz⟩
    exact hs i x y z T σ H (hx xs q.1) (hy ys q.2.1) (hz zs q.2.2) p hT
  · have e : i = xs.length := by omega
    subst e
    have q := hq _ σ H p
    exact .inl ⟨⟨xs, ys, zs, q.1, q.2.1, q.2.2, rfl, e1, e2⟩, hd σ H p⟩
end
section
variable {H : Hp} {Q : VK}
theorem w_neI {a b : Int} (q : Q (.bl (!decide (a = b))) H) : rNe (.int a) (.int b) H Q := ⟨rfl, by rw [show (decide (V.int a = V.int b)) = decide (a = b) by simp]; exact q⟩
theorem bl_eq {a b : Bool} : (decide (V.bl a = V.bl b)) = (a == b) := by cases a <;> cases b <;> rfl
theorem w_eqB {a b : Bool} (q : Q (.bl (a == b)) H) : rEq (.bl a) (.bl b) H Q := ⟨rfl, by rw [bl_eq]; exact q⟩
theorem w_neB {a b : Bool} (q : Q (.bl (a != b)) H) : rNe (.bl a) (.bl b) H Q := ⟨rfl, by rw [bl_eq]; exact q⟩
end
section
variable {K : PySem.W.Frag} {σ : L2.St} {H : Hp} {te : TE} {vs : List Nat} {tt : TT} {g : TG}
/-- a comprehension over a list, its end told by the new list's place -/
theorem w_lcLn {p : Addr} {xs : List V} {R : Addr → Hp → Prop} (hS : SqL K H p xs) (h : ∀ D, H D = none → ∃ Pv : Nat → Hp → Prop, Pv 0 (upd H D (.lst [])) ∧ (∀ i H2, i ≤ xs.length → Pv i H2 → SqL K H2 p xs) ∧
      (∀ i x H2, xs[i]? = some x → Pv i H2 → g x (wipe σ vs) H2 fun σ2 H2 => wipe σ2 vs = wipe σ vs ∧ tt σ2 H2 fun b H3 =>
        if b = true then te σ2 H3 fun y H4 => ∃ acc, H4 D = some (.lst acc) ∧ acc.length < sizeLine ∧ Pv (i + 1) (upd H4 D (.lst (acc ++ [y]))) else Pv (i + 1) H3) ∧ (∀ H2, Pv xs.length H2 → R D H2)) :
    ∃ a, V.ref p = .ref a ∧ (∃ xs, SqL K H a xs) ∧ ∀ D, H D = none → ∃ W : Nat → Nat → Hp → Prop, (∃ m, W 0 m (upd H D (.lst []))) ∧ ∀ i m H, W i m H →
      ((Itl K a).stop i H ∧ R D H) ∨ ((Itl K a).go i H ∧ ∃ Nx : Hp → Prop, (∀ H', Nx H' → ∃ m', m' < m ∧ W (i + 1) m' H') ∧ ∀ x H', (Itl K a).yld i H x H' → g x (wipe σ vs) H' fun σ2 H2 => wipe σ2 vs = wipe σ vs ∧ tt σ2 H2 fun b H3 =>
        if b = true then te σ2 H3 fun y H4 => ∃ acc, H4 D = some (.lst acc) ∧ acc.length < sizeLine ∧ Nx (upd H4 D (.lst (acc ++ [y]))) else Nx H3) := by
  refine ⟨p, rfl, ⟨xs, hS⟩, fun D hD => ?_⟩
  obtain ⟨Pv, h0, hl, hs, hd⟩ := h D hD
  exact lc_list (Qd := fun H => R D H) Pv h0 hl hs hd
end
section
variable {K : PySem.W.Frag} {σ : L2.St} {H : Hp} {g : TG} {tb : TS} {D : Ends} {ta : TA}
theorem w_iZip {R : It → Hp → Prop} (h : ta σ H fun vs H1 => ∃ a b xs ys, vs = [.ref a, .ref b] ∧ SqL K H1 a xs ∧ SqL K H1 b ys ∧ R (Itz K a b) H1) : iZip K ta σ H R := h
theorem for_zipN {a b : Addr} {xs ys : List V} (Pv : Nat → L2.St → Hp → Prop) (h0 : Pv 0 σ H) (hq : ∀ i σ H, Pv i σ H → SqL K H a xs ∧ SqL K H b ys)
    (hs : ∀ (i : Nat) (x y : V) (T : Addr) (σ : L2.St) (H : Hp), xs[i]? = some x → ys[i]? = some y → Pv i σ H → H T = none → g (.ref T) σ (upd H T (.tup [x, y])) fun σ2 H2 => tb { D with nx := Pv (i + 1), ct := Pv (i + 1), bk := D.nx } σ2 H2)
    (hd : ∀ i σ H, Pv i σ H → D.nx σ H) :
    ∃ W : Nat → Nat → L2.St → Hp → Prop, (∃ m, W 0 m σ H) ∧ ∀ i m σ H, W i m σ H →
      ((Itz K a b).stop i H ∧ D.nx σ H) ∨ ((Itz K a b).go i H ∧ ∃ N : L2.St → Hp → Prop, (∀ σ' H', N σ' H' → ∃ m', m' < m ∧ W (i + 1) m' σ' H') ∧ ∀ v H', (Itz K a b).yld i H v H' → g v σ H' fun σ2 H2 => tb { D with nx := N, ct := N, bk := D.nx } σ2 H2) := by
  refine ⟨fun i m σ H => m = xs.length - i ∧ Pv i σ H, ⟨_, rfl, h0⟩, ?_⟩
  rintro i m σ H ⟨rfl, p⟩
  have q := hq i σ H p
  by_cases h1 : i < xs.length
  · by_cases h2 : i < ys.length
    · refine .inr ⟨⟨xs, ys, xs[i], ys[i], q.1, q.2, List.getElem?_eq_getElem h1, List.getElem?_eq_getElem h2⟩, Pv (i + 1), fun σ' H' p' => ⟨xs.length - (i + 1), by omega, rfl, p'⟩, ?_⟩
      rintro v H' ⟨T, x, y, rfl, hT, rfl, hx, hy⟩
      exact hs i x y T σ H (hx xs q.1) (hy ys q.2) p hT
    · exact .inl ⟨⟨xs, ys, q.1, q.2, .inr (by omega)⟩, hd i σ H p⟩
  · exact .inl ⟨⟨xs, ys, q.1, q.2, .inl (by omega)⟩, hd i σ H p⟩
end
section
variable {X : Cx}
theorem ix_tupK (K : PySem.W.Frag) (h : X.K = K) : IxR X (rIxT K) := by subst h; exact ix_tup
theorem ix_listK (K : PySem.W.Frag) (h : X.K = K) : IxR X (rIxL K) := by subst h; exact ix_list
theorem sl_listK (K : PySem.W.Frag) (h : X.K = K) : SlR X (rSlL K) := by subst h; exact sl_list
theorem len_seqK (K : PySem.W.Frag) (h : X.K = K) : CallR X (.builtin "len") (fun xs H Q => ∃ p ys, xs = [.ref p] ∧ (SqL K H p ys ∨ SqT K H p ys) ∧ Q (.int ys.length) H) := by subst h; exact call_len_seq
theorem tuple_ofK (K : PySem.W.Frag) (h : X.K = K) : CallR X (.type "tuple") (fun xs H Q => ∃ p ys, xs = [.ref p] ∧ ((SqL K H p ys ∧ ∀ l, H l = none → Q (.ref l) (upd H l (.tup ys))) ∨ (SqT K H p ys ∧ Q (.ref p) H))) := by subst h; exact call_tuple_of
end
end Fw
end

section
-- part Fq
set_option Elab.async false
set_option linter.all false
set_option maxRecDepth 100000
set_option maxHeartbeats 2000000
/-! Fq: a def that raises into a try whose suite raises on; a call within a try; X('m') where an exception is handled -/
namespace Fw
open PySem PySem.Spec PyProof.Rows L2
/-- as Cl, its exceptions told with their contexts -/
structure ClN (P : Program) (w : World) (K : PySem.W.Frag) (mg : Str → Option Value) (base : Heap) (k : Nat) (x : Str) (sp : Sp) : Prop where
  ex : ∃ (f : Addr) (fd : FuncData) (ps : List Str), FnOk P w K mg base (L2N.CX P w) k f fd ps sp ∧ mg x = some (.ref f) ∧ PySem.W.keepIn K (.ref f) = true ∧ Binds K fd ps []
section
variable {P : Program} {w : World} {K : PySem.W.Frag} {mg : Str → Option Value} {base : Heap} {x : Str} {st : Stmt}
theorem clN_mk {N ps : List Str} {k : Nat} {sp : Sp} (F : FnP K mg x st) (S : FnScope N ps (defScope st))
    (b : ∀ (kV doc pm : Value) (an : Option Addr) (cdv ct : Value) (us : List Value), us.length = ps.length → bindArgs (PySem.W.fnOf x x (defArgs st) (defBody st) (defScope st) .none kV doc pm an cdv ct) ⟨us, []⟩ = pure (ps.zip us))
    (len : ∀ vs H Q E, sp vs H Q E → vs.length = ps.length)
    (hbody : ∀ (f : Addr) (cdv : Value) (A : Around) (outer : List Env) (s : Shared) (H : Hp) (vs : List V) (Q : VK) (E : XK), Room k (A.deeper (envOfC x (defScope st) s.heap.objs.size f cdv)) → sp vs H Q E →
      ∃ t, PSs (cxOf (L2N.CX P w) P w K mg base N x (defScope st) f cdv A outer s H E) (defBody st) t ∧ t { nx := fun _ H' => Q .non H', rt := Q } (start N vs) H) : ClN P w K mg base (k + 1) x sp := by
  obtain ⟨f, fd, F, m⟩ := F
  exact ⟨f, fd, ps, F.ok S len (hbody f), m, F.kp, F.bindsN b⟩
end
section
variable {X : Cx} {CX : CXT} {k j : Nat} {x : Str} {sp : Sp} {E : L2.St → XK} {p pos : Pos} {e : Expr} {es : List Expr} {t : TA}
theorem pe_clS (c : ∃ (f : Addr) (fd : FuncData) (ps : List Str), FnOk X.prog X.w X.K X.mg X.base CX k f fd ps sp ∧ X.mg x = some (.ref f) ∧ PySem.W.keepIn X.K (.ref f) = true ∧ Binds X.K fd ps []) (hr : Room j X.A) (hk : k ≤ j) (hg : Gl X x) (hx : ∀ σ, PassesAt CX X σ (E σ)) (ha : PA X (e :: es) t)
    (hdb : (x == ("__debug__" : Str)) = false := by decide) (he : starEach (e :: es) X.env = (false, eval e X.env) :: starEach es X.env := by rfl) (hpl : (backTo pos (starEach es X.env)).any (·.1) = false := by rfl) :
    PE X (.Call (.Name x p) (e :: es) [] pos) (tCallS sp E t) := by
  obtain ⟨f, fd, ps, F, hm, kp, b⟩ := c
  exact pe_callS F (hr.mono hk) hg hm kp b hx ha hdb he hpl
theorem w_clS {σ : L2.St} {H : Hp} {Q : VK} (h : t σ H fun vs H1 => sp vs H1 Q (E σ)) : tCallS sp E t σ H Q := h
end
/-- a, b = .. within a try: the frame told by name -/
theorem pg_tupK (K : PySem.W.Frag) (n : Nat) {X : Cx} {es : List Expr} {k : Nat} {pos : Pos} {t : TGs} (hK : X.K = K) (hc : X.calm = true) (h : PGs X es t) (hn : (assignEach es X.env).length = n) (hst : (assignEach es X.env).findIdx? (·.1) = none) : PG X (.Tuple es k pos) (gTup K n t) := by
  subst hK
  exact pg_tup hc h hn hst
section
variable {X : Cx} {C : Addr} {bmB : List Value} {B newId initId : String}
/-- X('m') -/
theorem pmk5_own {x m : Str} {j : Nat} {p p2 pos : Pos} (F : ExcBaseFacts B newId initId bmB) (q : PySem.W.excIn X.K C bmB newId = true) (gC : X.mg x = some (.ref C)) (kC : PySem.W.keepIn X.K (.ref C) = true) (r : Raises X (.ref C)) (hg : Gl X x)
    (hdb : (x == ("__debug__" : Str)) = false := by decide) : L2H.PMk5 X (.Call (.Name x p) [.Constant (.str m) j p2] [] pos) (fun _ H Q => Q (.ref C) none H) := fun pins s σ H Q I h => by
  have args : PA X [.Constant (.str m) j p2] (tCons (tC (.str m)) tNil) := pa_cons pe_str pa_nil
  refine wpAny_Call_Name_kw (ld_glob I hg gC (PySem.W.callWith_K (h₀ := X.base) I.ok.mod.kin kC (thn (args.run pos pins s σ H (fun vs H1 => vs = [V.str m] ∧ H = H1) I ⟨rfl, rfl⟩) ?_)) hdb)
  rintro us s1 ⟨vs, H1, I1, rv, rfl, rfl⟩
  refine ⟨I1.kIn, ?_⟩
  obtain ⟨u, rfl, ru⟩ := rv.one
  obtain ⟨bm, N, nm, qn, bs, hdct, sn, sub, ab, col, dd, k0, k1, k2, k3, k5, mN, hC, hN, hni, T⟩ := exc_obj I1.kIn q
  exact wpAny_call_exc_subT F T hC hN hni (fun h' e hm => L2H.mk_of5 I1 hm r h (I1.hok.gone hm.new)) (by show 1 ≤ sizeLine; rw [sizeLine_eq]; omega)
end
end Fw
end

section
-- part Fac
set_option Elab.async false
set_option linter.all false
set_option maxRecDepth 100000
set_option maxHeartbeats 1000000
namespace Ac
open PySem PySem.Spec PyProof.Rows
theorem owner_acc : Manifest.owners.lookup (String.ofList ['e', 't', 'a', 'l', 'u', 'm', 'u', 'c', 'c', 'a', '.', 's', 'l', 'o', 'o', 't', 'r', 'e', 't', 'i'].reverse) = some Manifest.sig_itertools_accumulate := by kernel_rfl
theorem mro_acc : mroOf (.type "itertools.accumulate") = pure [.type "itertools.accumulate", .type "object"] := by rw [mroOf_type]; kernel_rfl
theorem lookup_acc_new : typeLookup (.type "itertools.accumulate") "__new__" = pure (some (.builtin "itertools.accumulate.__new__")) := by rw [typeLookup_type, builtinLookup_eq_fast]; kernel_rfl
theorem slot_acc_init : Slot "itertools.accumulate" "__init__" "object.__init__" :=
  .of (owner := "object") (n := "__init__") (by rw [typeLookup_type, builtinLookup_eq_fast]; kernel_rfl) (by decide +kernel) (by decide +kernel) (by decide +kernel)
    (by first | exact .inl (by decide +kernel) | exact .inr (by decide +kernel)) (by rw [isSubtype_type]; kernel_rfl)
theorem sub_acc : isSubtype (.type "itertools.accumulate") (.type "itertools.accumulate") = pure true := by rw [isSubtype_type]; kernel_rfl
theorem called_acc : TypeCalled "itertools.accumulate" "itertools.accumulate.__new__" "object.__init__" :=
  ⟨by decide +kernel, by decide +kernel, ⟨_, _, mro_acc⟩, madeBy_type mro_acc lookup_acc_new (by decide +kernel), by decide +kernel, sub_acc, slot_acc_init⟩
theorem typeCall_acc (a : Value) : checkTypeCall "itertools.accumulate" ⟨[a], []⟩ = pure () := by kernel_rfl
theorem newCall_acc (a : Value) : checkBuiltinCall "itertools.accumulate.__new__" ⟨[.type "itertools.accumulate", a], []⟩ = pure () := by kernel_rfl
theorem entry_acc_new : entryFor table "itertools.accumulate.__new__" = some Builtin.«itertools.accumulate.__new__» := entryFor_of_tree (by kernel_rfl)
theorem slot_acc_iter : Slot "itertools.accumulate" "__iter__" "itertools.accumulate.__iter__" :=
  .of (owner := "itertools.accumulate") (n := "__iter__") (by rw [typeLookup_type, builtinLookup_eq_fast]; kernel_rfl) (by decide +kernel) (by decide +kernel) (by decide +kernel)
    (by first | exact .inl (by decide +kernel) | exact .inr (by decide +kernel)) sub_acc
theorem slot_acc_next : Slot "itertools.accumulate" "__next__" "itertools.accumulate.__next__" :=
  .of (owner := "itertools.accumulate") (n := "__next__") (by rw [typeLookup_type, builtinLookup_eq_fast]; kernel_rfl) (by decide +kernel) (by decide +kernel) (by decide +kernel)
    (by first | exact .inl (by decide +kernel) | exact .inr (by decide +kernel)) sub_acc
theorem entry_acc_iter : entryFor table "itertools.accumulate.__iter__" = some Builtin.«dict_keyiterator.__iter__» :=
  entryFor_alias (id' := "dict_keyiterator.__iter__") (by kernel_rfl) (by first | rfl | decide +kernel | (unfold String.splitOn; simp +decide [String.splitOnAux])) (by decide +kernel) (by kernel_rfl)
theorem entry_acc_next : entryFor table "itertools.accumulate.__next__" = some Builtin.«itertools.accumulate.__next__» := entryFor_of_tree (by kernel_rfl)
theorem args_acc_iter (a : Value) : argsOk "itertools.accumulate.__iter__" ⟨[a], []⟩ := by
  unfold argsOk; rw [signature?_of (id := "itertools.accumulate.__iter__") (n := ['_', '_', 'r', 'e', 't', 'i', '_', '_']) (o := ['e', 't', 'a', 'l', 'u', 'm', 'u', 'c', 'c', 'a', '.', 's', 'l', 'o', 'o', 't', 'r', 'e', 't', 'i']) (by kernel_rfl) owner_acc]; kernel_rfl
theorem args_acc_next (a : Value) : argsOk "itertools.accumulate.__next__" ⟨[a], []⟩ := by
  unfold argsOk; rw [signature?_of (id := "itertools.accumulate.__next__") (n := ['_', '_', 't', 'x', 'e', 'n', '_', '_']) (o := ['e', 't', 'a', 'l', 'u', 'm', 'u', 'c', 'c', 'a', '.', 's', 'l', 'o', 'o', 't', 'r', 'e', 't', 'i']) (by kernel_rfl) owner_acc]; kernel_rfl
theorem noDict_acc : typeHasDict (.type "itertools.accumulate") = false := by decide +kernel
/-- an accumulate object: what it draws from, its total so far -/
abbrev IsAcc (h : Heap) (a it : Addr) (S : Int) (t : Tok) : Prop := h.get? a = some { cls := .type "itertools.accumulate", dict := none, data := .fields #[.ref it, .none, .int S t, .none], slots := #[] }
theorem classRest_acc (x : Value) : Builtin.Itertools.itClassAndRest "accumulate" ⟨[.type "itertools.accumulate", x], []⟩ = pure (.type "itertools.accumulate", [x]) := by
  unfold Builtin.Itertools.itClassAndRest
  have e : ("itertools." ++ "accumulate" : String) = "itertools.accumulate" := by decide
  simp only [e, isType, sub_acc, pure_bind, Bool.not_true, Bool.false_eq_true, if_false]
theorem bind_acc (x : Value) : Builtin.Itertools.itBindNamed "accumulate" ["iterable", "func", "initial"] 1 2 [x] [] = pure [some x, none, none] := by
  first | rfl | kernel_rfl
section
variable {prog : Program} {w : World} {A : Around} {E : Value → Shared → Prop} {s : Shared}
theorem new_acc (x : Value) : MeetsIn prog w (Builtin.«itertools.accumulate.__new__» ⟨[.type "itertools.accumulate", x], []⟩)
    (fun A R s => wpAny (model prog w) A.in1 (pyIter x) (fun itv s1 => R (.ok (.ret (.ref s1.heap.objs.size))) { s1 with heap := s1.heap.push { cls := .type "itertools.accumulate", data := .fields #[itv, .none, .int 0 0, .none] } }) (fun e s1 => R (.error e) s1) s) :=
  .of_wp fun A R s h => by
    unfold Builtin.«itertools.accumulate.__new__»
    refine wpAny_bind (wpAny_of_eq (classRest_acc _) ?_)
    try dsimp only
    refine wpAny_bind (wpAny_of_eq (bind_acc _) ?_)
    try dsimp only
    refine wpAny_bind (wpAny_mono h (fun itv s1 hR => ?_) fun _ _ z => z)
    refine wpAny_bind ?_
    unfold Builtin.Itertools.itNewRecord
    rw [if_pos (by rw [noDict_acc]; rfl)]
    show wpAny _ _ (newObj (.type "itertools.accumulate") (.fields #[itv, .none, .int 0 0, .none])) _ _ _
    refine wpAny_newObj_type ?_
    exact wpAny_pure ⟨_, rfl, hR⟩
theorem call_acc {x : Value} {Q : Value → Shared → Prop}
    (hx : wpAny (model prog w) A.in1.in1 (pyIter x) (fun itv s1 => ∀ h', h'.get? s1.heap.objs.size = some { cls := .type "itertools.accumulate", dict := none, data := .fields #[itv, .none, .int 0 0, .none], slots := #[] } →
      (∀ c o, s1.heap.get? c = some o → h'.get? c = some o) → Q (.ref s1.heap.objs.size) { s1 with heap := h' }) E s) :
    wpAny (model prog w) A (call (.type "itertools.accumulate") [x]) Q E s := by
  refine callType_newIn called_acc (by decide +kernel) (typeCall_acc _) (newCall_acc _) (fun obj => F.args_object_init_2 obj _) entry_acc_new (new_acc x) ?_
  show wpAny (model prog w) A.in1.in1 (pyIter x) _ _ _
  refine wpAny_mono hx (fun itv s1 h => ?_) fun _ _ z => z
  have g : (s1.heap.push { cls := .type "itertools.accumulate", data := .fields #[itv, .none, .int 0 0, .none] }).get? s1.heap.objs.size = some { cls := .type "itertools.accumulate", dict := none, data := .fields #[itv, .none, .int 0 0, .none], slots := #[] } := Heap.get?_push_size _ rfl
  show _ ∧ _
  exact ⟨⟨_, g, rfl⟩, h _ g fun c o e => Heap.get?_push_of_some _ e⟩
/-- one item of a tuple's iterator, asked for by its slot -/
theorem raw_item {it t : Addr} {i : Nat} {items : Array Value} {x : Value} {Q : Value → Shared → Prop} (hit : s.heap.IsTupleIter it t i) (ht : s.heap.IsTuple t items) (hx : items[i]? = some x)
    (hQ : ∀ h', h'.IsTupleIter it t (i + 1) → Heap.SameBut it s.heap h' → Q x { s with heap := h' }) : wpAny (model prog w) A (Builtin.Itertools.itRawNext (.ref it)) Q E s := by
  obtain ⟨o1, g1, c1, d1⟩ := id hit
  obtain ⟨o2, g2, _, n2, d2⟩ := ht
  unfold Builtin.Itertools.itRawNext
  refine wpAny_bind (wpAny_callSpecial?_slot (name := Str.ofString "__next__") hit.typeIs F.slot_tuple_iterator_next (wpAny_call_entry F.slot_tuple_iterator_next hit.typeIs F.entry_tuple_iterator_next ?_ (F.args_tuple_iterator_next_1 _)))
  show wpAny _ _ (field (.ref it) 0 >>= _) _ _ s
  refine wpAny_bind (wpAny_field g1 d1 (x := .ref t) rfl ?_)
  show wpAny _ _ (if (Value.ref t == Value.none) = true then _ else _) _ _ s
  rw [if_neg (fun z : (Value.ref t == Value.none) = true => Bool.false_ne_true z)]
  show wpAny _ _ (field (.ref it) 1 >>= _) _ _ s
  refine wpAny_bind (wpAny_field g1 d1 (x := .int i 0) rfl ?_)
  show wpAny _ _ (seqItems? (.ref t) >>= _) _ _ s
  refine wpAny_bind (wpAny_seqItems g2 d2 ?_)
  simp only [Int.toNat_natCast, hx]
  refine wpAny_bind (wpAny_setField g1 d1 (by simp) (wpAny_pure ⟨x, rfl, wpAny_pure (hQ _ ⟨_, Heap.get?_update_self _ g1 (Obj.isFreed_of_fields (Obj.data_mapFields d1 _)), (Obj.cls_mapFields ..).trans c1, ?_⟩ (Heap.SameBut.update ..))⟩))
  rw [Obj.data_mapFields d1]
  simp [rawInt]
theorem raw_end {it t : Addr} {i : Nat} {items : Array Value} {Q : Value → Shared → Prop} (hh : A.handled = none) (hit : s.heap.IsTupleIter it t i) (ht : s.heap.IsTuple t items) (hx : items[i]? = none)
    (hE : ∀ h' e, Heap.ExtBut it s.heap h' → (∃ o, h'.get? e = some o ∧ o.cls = .type "StopIteration") → E (.ref e) { s with heap := h' }) : wpAny (model prog w) A (Builtin.Itertools.itRawNext (.ref it)) Q E s := by
  obtain ⟨o1, g1, c1, d1⟩ := id hit
  obtain ⟨o2, g2, _, n2, d2⟩ := ht
  unfold Builtin.Itertools.itRawNext
  refine wpAny_bind (wpAny_callSpecial?_slot (name := Str.ofString "__next__") hit.typeIs F.slot_tuple_iterator_next (wpAny_call_entry F.slot_tuple_iterator_next hit.typeIs F.entry_tuple_iterator_next ?_ (F.args_tuple_iterator_next_1 _)))
  show wpAny _ _ (field (.ref it) 0 >>= _) _ _ s
  refine wpAny_bind (wpAny_field g1 d1 (x := .ref t) rfl ?_)
  show wpAny _ _ (if (Value.ref t == Value.none) = true then _ else _) _ _ s
  rw [if_neg (fun z : (Value.ref t == Value.none) = true => Bool.false_ne_true z)]
  show wpAny _ _ (field (.ref it) 1 >>= _) _ _ s
  refine wpAny_bind (wpAny_field g1 d1 (x := .int i 0) rfl ?_)
  show wpAny _ _ (seqItems? (.ref t) >>= _) _ _ s
  refine wpAny_bind (wpAny_seqItems g2 d2 ?_)
  simp only [Int.toNat_natCast, hx]
  refine wpAny_bind (wpAny_rule (wpAny_bind (wpAny_setField g1 d1 (by simp) ?_)))
  show wpAny _ _ (newExc (.type "StopIteration") [] >>= _) _ _ _
  refine wpAny_bind ?_
  simp only [newExc, newTuple]
  refine wpAny_bind (wpAny_newObj_type ?_ (by size_fits))
  refine wpAny_bind (m := firstArgMember _ _) (wpAny_of_eq (a := Value.none) (by first | rfl | (simp only [firstArgMember]; rfl)) ?_)
  refine wpAny_newObj_type ?_ (by size_fits)
  simp only [raiseNew]
  refine wpAny_bind (wpAny_handled ?_)
  first | rw [show A.in1.handled = none from hh] | rw [hh]
  refine wpAny_bind (wpAny_pure (wpAny_throw ?_))
  exact hE _ _ (((Heap.SameBut.update ..).extBut.push _).push _) ⟨_, Heap.get?_push_size _ rfl, rfl⟩
/-- the next total -/
theorem acc_item {a it t : Addr} {i : Nat} {items : Array Value} {S b : Int} {tk u : Tok} {Q : Option Value → Shared → Prop} (ha : IsAcc s.heap a it S tk) (hit : s.heap.IsTupleIter it t i) (ht : s.heap.IsTuple t items) (hx : items[i]? = some (.int b u)) (h1 : a ≠ it) (h2 : t ≠ it) (h3 : t ≠ a)
    (hQ : ∀ h' v k, IsAcc h' a it (S + b) v → h'.IsTupleIter it t (i + 1) → h'.IsTuple t items → (∀ c o, c ≠ it → c ≠ a → s.heap.get? c = some o → h'.get? c = some o) → s.toks ≤ k → Q (some (.int (S + b) v)) { s with heap := h', toks := k }) :
    wpAny (model prog w) A (pyNext (.ref a)) Q E s := by
  have hT : s.TypeIs (.ref a) "itertools.accumulate" := ⟨_, ha, rfl⟩
  unfold pyNext
  refine wpAny_bind (wpAny_attempt (wpAny_callSpecial?_slot (name := Str.ofString "__next__") hT slot_acc_next (wpAny_call_entry slot_acc_next hT entry_acc_next ?_ (args_acc_next _))))
  show wpAny _ _ (field (.ref a) 3 >>= _) _ _ s
  refine wpAny_bind (wpAny_field ha rfl (x := .none) rfl ?_)
  show wpAny _ _ (field (.ref a) 0 >>= _) _ _ s
  refine wpAny_bind (wpAny_field ha rfl (x := .ref it) rfl ?_)
  refine wpAny_bind (raw_item hit ht hx fun h' hit' hs => ?_)
  have ha' : IsAcc h' a it S tk := (hs.2 a h1).trans ha
  have ht' : h'.IsTuple t items := ht.extBut hs.extBut h2
  show wpAny _ _ (field (.ref a) 2 >>= _) _ _ _
  refine wpAny_bind (wpAny_field ha' rfl (x := .int S tk) rfl ?_)
  have upd2 : ∀ (x : Value), (h'.update a (Obj.mapFields fun y => y.setIfInBounds 2 x)).get? a = some { cls := .type "itertools.accumulate", dict := none, data := .fields #[.ref it, .none, x, .none], slots := #[] } := fun x => Heap.get?_update_self _ ha' rfl
  have oth : ∀ (x : Value) c o, c ≠ a → h'.get? c = some o → (h'.update a (Obj.mapFields fun y => y.setIfInBounds 2 x)).get? c = some o := fun x c o hc e => (Heap.get?_update_other _ _ (Ne.symm hc)).trans e
  obtain ⟨o1, g1, r1⟩ := hit'
  obtain ⟨o2, g2, r2⟩ := ht'
  by_cases hz : (Value.int S tk == Builtin.Itertools.itNothing) = true
  · obtain rfl : S = 0 := by
      simp [Builtin.Itertools.itNothing, rawInt] at hz
      exact hz.1
    show wpAny _ _ (if (Value.int 0 tk == Builtin.Itertools.itNothing) = true then _ else _) _ _ _
    rw [if_pos hz]
    refine wpAny_bind (wpAny_rule ?_)
    refine wpAny_bind (wpAny_setField ha' rfl (by simp) ?_)
    refine wpAny_pure ⟨_, rfl, ?_⟩
    have e0 : (0 : Int) + b = b := Int.zero_add b
    rw [e0] at hQ
    exact wpAny_pure (hQ _ u s.toks (upd2 _) ⟨o1, oth _ _ _ (Ne.symm h1) g1, r1⟩ ⟨o2, oth _ _ _ h3 g2, r2⟩ (fun c o c1 c2 e => oth _ _ _ c2 (hs.extBut c o c1 e)) (Nat.le_refl _))
  · show wpAny _ _ (if (Value.int S tk == Builtin.Itertools.itNothing) = true then _ else _) _ _ _
    rw [if_neg hz]
    show wpAny _ _ (field (.ref a) 1 >>= _) _ _ _
    refine wpAny_bind (wpAny_field ha' rfl (x := .none) rfl ?_)
    refine wpAny_bind (wpAny_holding ?_)
    show wpAny _ _ (binaryOp .Add (.int S tk) (.int b u)) _ _ _
    refine PyProof.Rows.add_int ?_
    refine wpAny_bind (wpAny_setField ha' rfl (by simp) ?_)
    refine wpAny_bind (wpAny_letGo ?_)
    refine wpAny_pure ⟨_, rfl, ?_⟩
    exact wpAny_pure (hQ _ _ (s.toks + 1) (upd2 _) ⟨o1, oth _ _ _ (Ne.symm h1) g1, r1⟩ ⟨o2, oth _ _ _ h3 g2, r2⟩ (fun c o c1 c2 e => oth _ _ _ c2 (hs.extBut c o c1 e)) (Nat.le_succ _))
theorem acc_end {a it t : Addr} {i : Nat} {items : Array Value} {S : Int} {tk : Tok} {Q : Option Value → Shared → Prop} (hh : A.handled = none) (ha : IsAcc s.heap a it S tk) (hit : s.heap.IsTupleIter it t i) (ht : s.heap.IsTuple t items) (hx : items[i]? = none)
    (hQ : ∀ h', Heap.ExtBut it s.heap h' → Q none { s with heap := h' }) : wpAny (model prog w) A (pyNext (.ref a)) Q E s := by
  have hT : s.TypeIs (.ref a) "itertools.accumulate" := ⟨_, ha, rfl⟩
  have hh1 : A.in1.handled = none := hh
  unfold pyNext
  refine wpAny_bind (wpAny_attempt (wpAny_callSpecial?_slot (name := Str.ofString "__next__") hT slot_acc_next (wpAny_call_entry slot_acc_next hT entry_acc_next ?_ (args_acc_next _))))
  show wpAny _ _ (field (.ref a) 3 >>= _) _ _ s
  refine wpAny_bind (wpAny_field ha rfl (x := .none) rfl ?_)
  show wpAny _ _ (field (.ref a) 0 >>= _) _ _ s
  refine wpAny_bind (wpAny_field ha rfl (x := .ref it) rfl ?_)
  refine wpAny_bind (raw_end hh1 hit ht hx fun h' x he hx' => ?_)
  obtain ⟨o, ho, hc⟩ := hx'
  refine wpAny_bind (wpAny_isInstance (T := "StopIteration") (b := true) ⟨o, ho, hc⟩ isSubtype_stop ?_)
  exact wpAny_pure (hQ _ he)
theorem acc_iter {a it : Addr} {S : Int} {tk : Tok} {Q : Value → Shared → Prop} (ha : IsAcc s.heap a it S tk) (h : Q (.ref a) s) : wpAny (model prog w) A (pyIter (.ref a)) Q E s := by
  have hT : s.TypeIs (.ref a) "itertools.accumulate" := ⟨_, ha, rfl⟩
  refine wpAny_pyIter_slot hT slot_acc_iter (wpAny_call_entry slot_acc_iter hT entry_acc_iter ?_ (args_acc_iter _))
  show wpAny _ _ (ret (.ref a)) _ _ s
  exact wpAny_pure ⟨_, rfl, "itertools.accumulate", _, hT, slot_acc_next.lookup, h⟩
end
theorem walks_acc {prog : Program} {w : World} {A : Around} {a it t : Addr} {items : Array Value} {val : Nat → Int} (hh : A.handled = none) (hv : ∀ (i : Nat) (v : Value), items[i]? = some v → ∃ u, v = .int (val i) u) (h1 : a ≠ it) (h2 : t ≠ it) (h3 : t ≠ a) :
    WalksS prog w A a [a, it, t] [a, it] (fun x y => y = x) items.size (fun i v => ∃ u, v = .int (preSum val (i + 1)) u) (fun i s => (∃ tk, IsAcc s.heap a it (preSum val i) tk) ∧ s.heap.IsTupleIter it t i ∧ s.heap.IsTuple t items) where
  sub := fun b hb => by
    rcases List.mem_cons.mp hb with rfl | hb
    · simp
    · rw [List.mem_singleton.mp hb]; simp
  grefl := fun _ => rfl
  gtrans := fun _ _ _ q1 q2 => q2.trans q1
  frame := fun i s h' tk st _ hk => by
    obtain ⟨⟨k, q1⟩, ⟨o1, g1, r1⟩, ⟨o2, g2, r2⟩⟩ := st
    exact ⟨⟨k, hk a (by simp) _ q1⟩, ⟨o1, hk it (by simp) _ g1, r1⟩, ⟨o2, hk t (by simp) _ g2, r2⟩⟩
  item := fun i s Q E hi st hQ => by
    obtain ⟨⟨k, q1⟩, q2, q3⟩ := st
    have hg : items[i]? = some items[i] := Array.getElem?_eq_getElem hi
    obtain ⟨u, hu⟩ := hv i _ hg
    rw [hu] at hg
    refine acc_item q1 q2 q3 hg h1 h2 h3 fun h' v k2 a1 a2 a3 hk htk => ?_
    exact hQ _ _ ⟨v, rfl⟩ ⟨⟨v, a1⟩, a2, a3⟩ ⟨fun b o hb e => hk b o (fun z => hb (by simp [z])) (fun z => hb (by simp [z])) e, rfl, rfl, rfl, htk⟩
  done := fun s Q E st hQ => by
    obtain ⟨⟨k, q1⟩, q2, q3⟩ := st
    refine acc_end hh q1 q2 q3 (Array.getElem?_eq_none (Nat.le_refl _)) fun h' he => ?_
    exact hQ _ ⟨fun b o hb e => he b o (fun z => hb (by simp [z])) e, rfl, rfl, rfl, Nat.le_refl _⟩
  self := fun i s Q E st hQ => by
    obtain ⟨⟨k, q1⟩, _⟩ := st
    exact acc_iter q1 hQ
section
variable {prog : Program} {w : World} {A : Around} {E : Value → Shared → Prop} {s : Shared}
theorem sum_tup {t : Addr} {items : Array Value} {val : Nat → Int} {Q : Value → Shared → Prop} (hh : A.handled = none) (ht : s.heap.IsTuple t items) (hv : ∀ (i : Nat) (v : Value), items[i]? = some v → ∃ u, v = .int (val i) u)
    (hq : ∀ h' t' k, (∀ b o, s.heap.get? b = some o → h'.get? b = some o) → Q (.int (preSum val items.size) t') { s with heap := h', toks := k }) : wpAny (model prog w) A (call (.builtin "sum") [.ref t]) Q E s := by
  have lt : t < s.heap.objs.size := by obtain ⟨o, ho, _⟩ := ht; exact Heap.lt_size ho
  have hh1 : A.in1.handled = none := hh
  refine call_sum_walkG (wpAny_pyIter_tuple ht ?_)
  refine ⟨_, _, _, _, _, _, val, rfl, Walks.tuple hh1 s.heap.objs.size t (Nat.ne_of_lt lt) items, ⟨⟨_, Heap.get?_push_size _ rfl, rfl, rfl⟩, ht.push _⟩, fun b hb => ?_, hv, fun h' tk t' hk => ?_⟩
  · have e : (s.heap.push { cls := .type "tuple_iterator", data := .fields #[.ref t, .int 0 0] }).objs.size = s.heap.objs.size + 1 := Heap.size_push ..
    show b < (s.heap.push { cls := .type "tuple_iterator", data := .fields #[.ref t, .int 0 0] }).objs.size
    rw [e]
    rcases List.mem_cons.mp hb with rfl | hb
    · exact Nat.lt_succ_self _
    · rw [List.mem_singleton.mp hb]; exact Nat.lt_succ_of_lt lt
  · exact hq h' t' tk fun b o e => hk b o (fun z => absurd (List.mem_singleton.mp z) (Nat.ne_of_lt (Heap.lt_size e))) (Heap.get?_push_of_some _ e)
theorem sum_acc {t : Addr} {items : Array Value} {val : Nat → Int} {Q : Value → Shared → Prop} (hh : A.handled = none) (ht : s.heap.IsTuple t items) (hv : ∀ (i : Nat) (v : Value), items[i]? = some v → ∃ u, v = .int (val i) u)
    (hq : ∀ h' t' k, (∀ b o, s.heap.get? b = some o → h'.get? b = some o) → Q (.int (preSum (fun i => preSum val (i + 1)) items.size) t') { s with heap := h', toks := k }) :
    wpAny (model prog w) A (call (.type "itertools.accumulate") [.ref t]) (fun v s1 => wpAny (model prog w) A (call (.builtin "sum") [v]) Q E s1) E s := by
  have lt : t < s.heap.objs.size := by obtain ⟨o, ho, _⟩ := ht; exact Heap.lt_size ho
  have hh1 : A.in1.handled = none := hh
  refine call_acc (wpAny_pyIter_tuple ht ?_)
  have e1 : (s.heap.push { cls := .type "tuple_iterator", data := .fields #[.ref t, .int 0 0] }).objs.size = s.heap.objs.size + 1 := Heap.size_push ..
  intro h' g1 hk
  rw [show ({ s with heap := s.heap.push { cls := .type "tuple_iterator", data := .fields #[.ref t, .int 0 0] } } : Shared).heap.objs.size = s.heap.objs.size + 1 from e1] at g1 ⊢
  have git : h'.IsTupleIter s.heap.objs.size t 0 := ⟨_, hk _ _ (Heap.get?_push_size _ rfl), rfl, rfl⟩
  have gt : h'.IsTuple t items := (ht.push _).at fun o e => hk _ o e
  have W := walks_acc (A := A.in1) (prog := prog) (w := w) (a := s.heap.objs.size + 1) (it := s.heap.objs.size) (t := t) (items := items) hh1 hv (Nat.succ_ne_self _) (Nat.ne_of_lt lt) (Nat.ne_of_lt (Nat.lt_succ_of_lt lt))
  refine call_sum_walkAnyS (acc_iter g1 ?_)
  refine ⟨_, _, _, _, _, _, _, fun i => preSum val (i + 1), rfl, W, ⟨⟨0, g1⟩, git, gt⟩, fun b hb => ?_, fun i v hv => hv, fun s' t' hm => ?_⟩
  · have q1 := Heap.lt_size g1
    rcases List.mem_cons.mp hb with rfl | hb
    · exact q1
    · rcases List.mem_cons.mp hb with rfl | hb
      · exact Nat.lt_of_succ_lt q1
      · rw [List.mem_singleton.mp hb]; exact Nat.lt_trans lt (Nat.lt_of_succ_lt q1)
  · rw [Moved.eq_with hm]
    refine hq s'.heap t' s'.toks fun b o e => hm.heap b o (fun z => ?_) (hk b o (Heap.get?_push_of_some _ e))
    have hb := Heap.lt_size e
    rcases List.mem_cons.mp z with rfl | z
    · exact absurd hb (Nat.not_lt.mpr (Nat.le_succ _))
    · rw [List.mem_singleton.mp z] at hb
      exact Nat.lt_irrefl _ hb
end
end Ac
namespace L2
open PySem PySem.Spec PyProof.Rows
/-- the sum of the sums so far -/
def accI : Int → List Int → Int
  | _, [] => 0
  | S, b :: r => (S + b) + accI (S + b) r
theorem preSum_ext {f g : Nat → Int} : ∀ n, (∀ i, i < n → f i = g i) → preSum f n = preSum g n
  | 0, _ => rfl
  | n + 1, h => by
    show preSum f n + f n = preSum g n + g n
    rw [preSum_ext n (fun i hi => h i (Nat.lt_succ_of_lt hi)), h n (Nat.lt_succ_self n)]
theorem preSum_cons (f : Nat → Int) : ∀ n, preSum f (n + 1) = f 0 + preSum (fun i => f (i + 1)) n
  | 0 => by show (0 : Int) + f 0 = f 0 + 0; omega
  | n + 1 => by
    have := preSum_cons f n
    show preSum f (n + 1) + f (n + 1) = f 0 + (preSum (fun i => f (i + 1)) n + f (n + 1))
    rw [this]
    omega
theorem preSum_add (c : Int) (f : Nat → Int) : ∀ n, preSum (fun i => c + f i) n = n * c + preSum f n
  | 0 => by show (0 : Int) = ((0 : Nat) : Int) * c + 0; simp
  | n + 1 => by
    show preSum (fun i => c + f i) n + (c + f n) = ((n + 1 : Nat) : Int) * c + (preSum f n + f n)
    rw [preSum_add c f n, Int.natCast_add, Int.add_mul]
    simp only [Int.natCast_one, Int.one_mul]
    omega
theorem accI_add : ∀ (S : Int) (ns : List Int), accI S ns = ns.length * S + accI 0 ns
  | S, [] => by simp [accI]
  | S, b :: r => by
    show S + b + accI (S + b) r = ((r.length + 1 : Nat) : Int) * S + (0 + b + accI (0 + b) r)
    rw [accI_add (S + b) r, accI_add (0 + b) r, Int.natCast_add, Int.add_mul, Int.mul_add]
    simp only [Int.natCast_one, Int.one_mul, Int.zero_add]
    omega
theorem pre_sum : ∀ (ns : List Int) (val : Nat → Int), (∀ i b, ns[i]? = some b → val i = b) → preSum val ns.length = ns.sum
  | [], _, _ => rfl
  | b :: r, val, h => by
    rw [List.length_cons, preSum_cons, h 0 b rfl, pre_sum r (fun i => val (i + 1)) (fun i c hc => h (i + 1) c hc), List.sum_cons]
theorem pre_acc : ∀ (ns : List Int) (val : Nat → Int), (∀ i b, ns[i]? = some b → val i = b) → preSum (fun i => preSum val (i + 1)) ns.length = accI 0 ns
  | [], _, _ => rfl
  | b :: r, val, h => by
    rw [List.length_cons, preSum_cons]
    have e : preSum (fun i => preSum val (i + 1 + 1)) r.length = preSum (fun i => b + preSum (fun i => val (i + 1)) (i + 1)) r.length := preSum_ext _ fun i _ => by
      show preSum val (i + 1 + 1) = _
      rw [preSum_cons, h 0 b rfl]
    show preSum val (0 + 1) + preSum (fun i => preSum val (i + 1 + 1)) r.length = _
    rw [e, preSum_add, pre_acc r (fun i => val (i + 1)) (fun i c hc => h (i + 1) c hc)]
    show (0 : Int) + val 0 + (r.length * b + accI 0 r) = 0 + b + accI (0 + b) r
    rw [h 0 b rfl, accI_add (0 + b) r]
    simp only [Int.zero_add]
theorem ints_val {ns : List Int} {its : List Value} (rv : Vals (ns.map V.int) its) : ∀ (i : Nat) (v : Value), its.toArray[i]? = some v → ∃ u, v = .int (ns[i]?.getD 0) u := fun i v hv => by
  have hv' : its[i]? = some v := by simpa using hv
  have hi : i < ns.length := by
    have e := rv.length
    rw [List.length_map] at e
    have := (List.getElem?_eq_some_iff.mp hv').1
    omega
  obtain ⟨u2, hu2, rx⟩ := rv.get (i := i) (x := V.int ns[i]) (by rw [List.getElem?_map, List.getElem?_eq_getElem hi]; rfl)
  obtain rfl : u2 = v := Option.some.inj (hu2.symm.trans hv')
  obtain ⟨t, rfl⟩ := rx
  exact ⟨t, by rw [List.getElem?_eq_getElem hi]; rfl⟩
theorem val_get {ns : List Int} : ∀ (i : Nat) (b : Int), ns[i]? = some b → (fun i : Nat => ns[i]?.getD 0) i = b := fun i b h => by
  show ns[i]?.getD 0 = b
  rw [h]
  rfl
section
variable {X : Cx}
/-- sum(t) of a list or tuple of ints -/
def rSumA (K : PySem.W.Frag) : List V → Hp → VK → Prop := fun vs H Q => ∃ (a : Addr) (ns : List Int), vs = [V.ref a] ∧ (SqL K H a (ns.map V.int) ∨ SqT K H a (ns.map V.int)) ∧ Q (.int ns.sum) H
theorem cr_sumA (hc : X.calm = true) : CallR X (.builtin "sum") (rSumA X.K) := by
  intro pins s σ H vs us Q I r h
  obtain ⟨a, ns, rfl, hs, q⟩ := h
  rcases hs with hs | hs
  · exact cr_sum hc pins s σ H [V.ref a] us Q I r ⟨a, ns, rfl, hs, q⟩
  obtain ⟨its, rv, hl, _⟩ := I.tuple hs
  rw [Vals.ref1 r]
  refine Ac.sum_tup (val := fun i : Nat => ns[i]?.getD 0) (I.ok.hd hc) hl (ints_val rv) fun h' t' k hk => ⟨.int _, H, I.kept hk, ⟨_, rfl⟩, ?_⟩
  have e : its.toArray.size = ns.length := by have := rv.length; rw [List.length_map] at this; simp only [List.size_toArray]; omega
  rw [e, pre_sum ns _ val_get]
  exact q
/-- sum(accumulate(t)) of a tuple of ints -/
def tSumAcc (K : PySem.W.Frag) (ta : TA) : TE := fun σ H Q => ta σ H fun vs H2 => ∃ (q : Addr) (ns : List Int), vs = [V.ref q] ∧ SqT K H2 q (ns.map V.int) ∧ Q (.int (accI 0 ns)) H2
theorem pe_sumAcc {e : Expr} {ta : TA} {p0 pos p pos2 : Pos} (hc : X.calm = true) (hgs : Gl X "sum") (hms : X.mg "sum" = none) (hg : Gl X "accumulate") (hm : X.mg "accumulate" = some (.type "itertools.accumulate")) (ha : PA X [e] ta)
    (hs1 : starEach [.Call (.Name "accumulate" p) [e] [] pos2] X.env = (false, eval (.Call (.Name "accumulate" p) [e] [] pos2) X.env) :: starEach [] X.env := by rfl)
    (hp1 : (backTo pos (starEach [] X.env)).any (·.1) = false := by rfl) (hs : starEach [e] X.env = (false, eval e X.env) :: starEach [] X.env := by rfl) (hpl : (backTo pos2 (starEach [] X.env)).any (·.1) = false := by rfl) :
    PE X (.Call (.Name "sum" p0) [.Call (.Name "accumulate" p) [e] [] pos2] [] pos) (tSumAcc X.K ta) := by
  refine ⟨fun pins s σ H Q I h => ?_⟩
  refine wpAny_Call_Name_kw (ld_blt I hgs hms boot_sum ?_)
  refine PyProof.Rows.callWith_builtin1 ?_ hs1 hp1
  rw [hs1]
  show wpAny _ _ (spliced ((false, eval (.Call (.Name "accumulate" p) [e] [] pos2) X.env) :: backTo pos (starEach [] X.env))) _ _ s
  refine Calls.spliced_cons ?_
  refine wpAny_Call_Name_kw (ld_glob I hg hm ?_ (by decide))
  refine PyProof.Rows.callWith_type1 ?_ hs hpl
  refine thn (ha.run pos2 pins s σ H _ I h) fun us s3 ⟨vs, H2, I3, r3, q3⟩ => ?_
  obtain ⟨q, ns, rfl, hq, q3⟩ := q3
  rw [Vals.ref1 r3]
  obtain ⟨its, rv, hl, _⟩ := I3.tuple hq
  refine wpAny_mono (Ac.sum_acc (val := fun i : Nat => ns[i]?.getD 0) (Q := EP X pins σ Q) (E := X.xe) (I3.ok.hd hc) hl (ints_val rv) fun h' t' k hk => ?_) (fun v s4 h4 => Calls.spliced_nil h4) fun _ _ z => z
  have e : its.toArray.size = ns.length := by have := rv.length; rw [List.length_map] at this; simp only [List.size_toArray]; omega
  rw [e, pre_acc ns _ val_get]
  exact ⟨.int _, H2, I3.kept hk, ⟨t', rfl⟩, q3⟩
theorem w_sumAcc {K : PySem.W.Frag} {ta : TA} {σ : St} {H : Hp} {Q : VK} (h : ta σ H fun vs H2 => ∃ (q : Addr) (ns : List Int), vs = [V.ref q] ∧ SqT K H2 q (ns.map V.int) ∧ Q (.int (accI 0 ns)) H2) : tSumAcc K ta σ H Q := h
end
end L2
end

section
-- part Fal
set_option Elab.async false
set_option linter.all false
set_option maxRecDepth 100000
set_option maxHeartbeats 1000000
/-! Fal: sum(accumulate(l)) of a list, too -/
namespace Ac
open PySem PySem.Spec PyProof.Rows
section
variable {prog : Program} {w : World} {A : Around} {E : Value → Shared → Prop} {s : Shared}
/-- one item of a list's iterator, asked for by its slot -/
theorem raw_itemL {it t : Addr} {i : Nat} {items : Array Value} {x : Value} {Q : Value → Shared → Prop} (hit : s.heap.IsListIter it t i) (ht : s.heap.IsList t items) (hx : items[i]? = some x)
    (hQ : ∀ h', h'.IsListIter it t (i + 1) → Heap.SameBut it s.heap h' → Q x { s with heap := h' }) : wpAny (model prog w) A (Builtin.Itertools.itRawNext (.ref it)) Q E s := by
  obtain ⟨o1, g1, c1, d1⟩ := id hit
  obtain ⟨o2, g2, _, n2, d2⟩ := ht
  unfold Builtin.Itertools.itRawNext
  refine wpAny_bind (wpAny_callSpecial?_slot (name := Str.ofString "__next__") hit.typeIs slot_listiter_next (wpAny_call_entry slot_listiter_next hit.typeIs entry_listiter_next ?_ (args_listiter_next _)))
  show wpAny _ _ (field (.ref it) 0 >>= _) _ _ s
  refine wpAny_bind (wpAny_field g1 d1 (x := .ref t) rfl ?_)
  show wpAny _ _ (if (Value.ref t == Value.none) = true then _ else _) _ _ s
  rw [if_neg (fun z : (Value.ref t == Value.none) = true => Bool.false_ne_true z)]
  show wpAny _ _ (field (.ref it) 1 >>= _) _ _ s
  refine wpAny_bind (wpAny_field g1 d1 (x := .int i 0) rfl ?_)
  show wpAny _ _ (seqItems? (.ref t) >>= _) _ _ s
  refine wpAny_bind (wpAny_seqItems g2 d2 ?_)
  simp only [Int.toNat_natCast, hx]
  refine wpAny_bind (wpAny_setField g1 d1 (by simp) (wpAny_pure ⟨x, rfl, wpAny_pure (hQ _ ⟨_, Heap.get?_update_self _ g1 (Obj.isFreed_of_fields (Obj.data_mapFields d1 _)), (Obj.cls_mapFields ..).trans c1, ?_⟩ (Heap.SameBut.update ..))⟩))
  rw [Obj.data_mapFields d1]
  simp [rawInt]
theorem raw_endL {it t : Addr} {i : Nat} {items : Array Value} {Q : Value → Shared → Prop} (hh : A.handled = none) (hit : s.heap.IsListIter it t i) (ht : s.heap.IsList t items) (hx : items[i]? = none)
    (hE : ∀ h' e, Heap.ExtBut it s.heap h' → (∃ o, h'.get? e = some o ∧ o.cls = .type "StopIteration") → E (.ref e) { s with heap := h' }) : wpAny (model prog w) A (Builtin.Itertools.itRawNext (.ref it)) Q E s := by
  obtain ⟨o1, g1, c1, d1⟩ := id hit
  obtain ⟨o2, g2, _, n2, d2⟩ := ht
  unfold Builtin.Itertools.itRawNext
  refine wpAny_bind (wpAny_callSpecial?_slot (name := Str.ofString "__next__") hit.typeIs slot_listiter_next (wpAny_call_entry slot_listiter_next hit.typeIs entry_listiter_next ?_ (args_listiter_next _)))
  show wpAny _ _ (field (.ref it) 0 >>= _) _ _ s
  refine wpAny_bind (wpAny_field g1 d1 (x := .ref t) rfl ?_)
  show wpAny _ _ (if (Value.ref t == Value.none) = true then _ else _) _ _ s
  rw [if_neg (fun z : (Value.ref t == Value.none) = true => Bool.false_ne_true z)]
  show wpAny _ _ (field (.ref it) 1 >>= _) _ _ s
  refine wpAny_bind (wpAny_field g1 d1 (x := .int i 0) rfl ?_)
  show wpAny _ _ (seqItems? (.ref t) >>= _) _ _ s
  refine wpAny_bind (wpAny_seqItems g2 d2 ?_)
  simp only [Int.toNat_natCast, hx]
  refine wpAny_bind (wpAny_rule (wpAny_bind (wpAny_setField g1 d1 (by simp) ?_)))
  show wpAny _ _ (newExc (.type "StopIteration") [] >>= _) _ _ _
  refine wpAny_bind ?_
  simp only [newExc, newTuple]
  refine wpAny_bind (wpAny_newObj_type ?_ (by size_fits))
  refine wpAny_bind (m := firstArgMember _ _) (wpAny_of_eq (a := Value.none) (by first | rfl | (simp only [firstArgMember]; rfl)) ?_)
  refine wpAny_newObj_type ?_ (by size_fits)
  simp only [raiseNew]
  refine wpAny_bind (wpAny_handled ?_)
  first | rw [show A.in1.handled = none from hh] | rw [hh]
  refine wpAny_bind (wpAny_pure (wpAny_throw ?_))
  exact hE _ _ (((Heap.SameBut.update ..).extBut.push _).push _) ⟨_, Heap.get?_push_size _ rfl, rfl⟩
/-- the next total -/
theorem acc_itemL {a it t : Addr} {i : Nat} {items : Array Value} {S b : Int} {tk u : Tok} {Q : Option Value → Shared → Prop} (ha : IsAcc s.heap a it S tk) (hit : s.heap.IsListIter it t i) (ht : s.heap.IsList t items) (hx : items[i]? = some (.int b u)) (h1 : a ≠ it) (h2 : t ≠ it) (h3 : t ≠ a)
    (hQ : ∀ h' v k, IsAcc h' a it (S + b) v → h'.IsListIter it t (i + 1) → h'.IsList t items → (∀ c o, c ≠ it → c ≠ a → s.heap.get? c = some o → h'.get? c = some o) → s.toks ≤ k → Q (some (.int (S + b) v)) { s with heap := h', toks := k }) :
    wpAny (model prog w) A (pyNext (.ref a)) Q E s := by
  have hT : s.TypeIs (.ref a) "itertools.accumulate" := ⟨_, ha, rfl⟩
  unfold pyNext
  refine wpAny_bind (wpAny_attempt (wpAny_callSpecial?_slot (name := Str.ofString "__next__") hT slot_acc_next (wpAny_call_entry slot_acc_next hT entry_acc_next ?_ (args_acc_next _))))
  show wpAny _ _ (field (.ref a) 3 >>= _) _ _ s
  refine wpAny_bind (wpAny_field ha rfl (x := .none) rfl ?_)
  show wpAny _ _ (field (.ref a) 0 >>= _) _ _ s
  refine wpAny_bind (wpAny_field ha rfl (x := .ref it) rfl ?_)
  refine wpAny_bind (raw_itemL hit ht hx fun h' hit' hs => ?_)
  have ha' : IsAcc h' a it S tk := (hs.2 a h1).trans ha
  have ht' : h'.IsList t items := ht.extBut hs.extBut h2
  show wpAny _ _ (field (.ref a) 2 >>= _) _ _ _
  refine wpAny_bind (wpAny_field ha' rfl (x := .int S tk) rfl ?_)
  have upd2 : ∀ (x : Value), (h'.update a (Obj.mapFields fun y => y.setIfInBounds 2 x)).get? a = some { cls := .type "itertools.accumulate", dict := none, data := .fields #[.ref it, .none, x, .none], slots := #[] } := fun x => Heap.get?_update_self _ ha' rfl
  have oth : ∀ (x : Value) c o, c ≠ a → h'.get? c = some o → (h'.update a (Obj.mapFields fun y => y.setIfInBounds 2 x)).get? c = some o := fun x c o hc e => (Heap.get?_update_other _ _ (Ne.symm hc)).trans e
  obtain ⟨o1, g1, r1⟩ := hit'
  obtain ⟨o2, g2, r2⟩ := ht'
  by_cases hz : (Value.int S tk == Builtin.Itertools.itNothing) = true
  · obtain rfl : S = 0 := by
      simp [Builtin.Itertools.itNothing, rawInt] at hz
      exact hz.1
    show wpAny _ _ (if (Value.int 0 tk == Builtin.Itertools.itNothing) = true then _ else _) _ _ _
    rw [if_pos hz]
    refine wpAny_bind (wpAny_rule ?_)
    refine wpAny_bind (wpAny_setField ha' rfl (by simp) ?_)
    refine wpAny_pure ⟨_, rfl, ?_⟩
    have e0 : (0 : Int) + b = b := Int.zero_add b
    rw [e0] at hQ
    exact wpAny_pure (hQ _ u s.toks (upd2 _) ⟨o1, oth _ _ _ (Ne.symm h1) g1, r1⟩ ⟨o2, oth _ _ _ h3 g2, r2⟩ (fun c o c1 c2 e => oth _ _ _ c2 (hs.extBut c o c1 e)) (Nat.le_refl _))
  · show wpAny _ _ (if (Value.int S tk == Builtin.Itertools.itNothing) = true then _ else _) _ _ _
    rw [if_neg hz]
    show wpAny _ _ (field (.ref a) 1 >>= _) _ _ _
    refine wpAny_bind (wpAny_field ha' rfl (x := .none) rfl ?_)
    refine wpAny_bind (wpAny_holding ?_)
    show wpAny _ _ (binaryOp .Add (.int S tk) (.int b u)) _ _ _
    refine PyProof.Rows.add_int ?_
    refine wpAny_bind (wpAny_setField ha' rfl (by simp) ?_)
    refine wpAny_bind (wpAny_letGo ?_)
    refine wpAny_pure ⟨_, rfl, ?_⟩
    exact wpAny_pure (hQ _ _ (s.toks + 1) (upd2 _) ⟨o1, oth _ _ _ (Ne.symm h1) g1, r1⟩ ⟨o2, oth _ _ _ h3 g2, r2⟩ (fun c o c1 c2 e => oth _ _ _ c2 (hs.extBut c o c1 e)) (Nat.le_succ _))
theorem acc_endL {a it t : Addr} {i : Nat} {items : Array Value} {S : Int} {tk : Tok} {Q : Option Value → Shared → Prop} (hh : A.handled = none) (ha : IsAcc s.heap a it S tk) (hit : s.heap.IsListIter it t i) (ht : s.heap.IsList t items) (hx : items[i]? = none)
    (hQ : ∀ h', Heap.ExtBut it s.heap h' → Q none { s with heap := h' }) : wpAny (model prog w) A (pyNext (.ref a)) Q E s := by
  have hT : s.TypeIs (.ref a) "itertools.accumulate" := ⟨_, ha, rfl⟩
  have hh1 : A.in1.handled = none := hh
  unfold pyNext
  refine wpAny_bind (wpAny_attempt (wpAny_callSpecial?_slot (name := Str.ofString "__next__") hT slot_acc_next (wpAny_call_entry slot_acc_next hT entry_acc_next ?_ (args_acc_next _))))
  show wpAny _ _ (field (.ref a) 3 >>= _) _ _ s
  refine wpAny_bind (wpAny_field ha rfl (x := .none) rfl ?_)
  show wpAny _ _ (field (.ref a) 0 >>= _) _ _ s
  refine wpAny_bind (wpAny_field ha rfl (x := .ref it) rfl ?_)
  refine wpAny_bind (raw_endL hh1 hit ht hx fun h' x he hx' => ?_)
  obtain ⟨o, ho, hc⟩ := hx'
  refine wpAny_bind (wpAny_isInstance (T := "StopIteration") (b := true) ⟨o, ho, hc⟩ isSubtype_stop ?_)
  exact wpAny_pure (hQ _ he)
end
theorem walks_accL {prog : Program} {w : World} {A : Around} {a it t : Addr} {items : Array Value} {val : Nat → Int} (hh : A.handled = none) (hv : ∀ (i : Nat) (v : Value), items[i]? = some v → ∃ u, v = .int (val i) u) (h1 : a ≠ it) (h2 : t ≠ it) (h3 : t ≠ a) :
    WalksS prog w A a [a, it, t] [a, it] (fun x y => y = x) items.size (fun i v => ∃ u, v = .int (preSum val (i + 1)) u) (fun i s => (∃ tk, IsAcc s.heap a it (preSum val i) tk) ∧ s.heap.IsListIter it t i ∧ s.heap.IsList t items) where
  sub := fun b hb => by
    rcases List.mem_cons.mp hb with rfl | hb
    · simp
    · rw [List.mem_singleton.mp hb]; simp
  grefl := fun _ => rfl
  gtrans := fun _ _ _ q1 q2 => q2.trans q1
  frame := fun i s h' tk st _ hk => by
    obtain ⟨⟨k, q1⟩, ⟨o1, g1, r1⟩, ⟨o2, g2, r2⟩⟩ := st
    exact ⟨⟨k, hk a (by simp) _ q1⟩, ⟨o1, hk it (by simp) _ g1, r1⟩, ⟨o2, hk t (by simp) _ g2, r2⟩⟩
  item := fun i s Q E hi st hQ => by
    obtain ⟨⟨k, q1⟩, q2, q3⟩ := st
    have hg : items[i]? = some items[i] := Array.getElem?_eq_getElem hi
    obtain ⟨u, hu⟩ := hv i _ hg
    rw [hu] at hg
    refine acc_itemL q1 q2 q3 hg h1 h2 h3 fun h' v k2 a1 a2 a3 hk htk => ?_
    exact hQ _ _ ⟨v, rfl⟩ ⟨⟨v, a1⟩, a2, a3⟩ ⟨fun b o hb e => hk b o (fun z => hb (by simp [z])) (fun z => hb (by simp [z])) e, rfl, rfl, rfl, htk⟩
  done := fun s Q E st hQ => by
    obtain ⟨⟨k, q1⟩, q2, q3⟩ := st
    refine acc_endL hh q1 q2 q3 (Array.getElem?_eq_none (Nat.le_refl _)) fun h' he => ?_
    exact hQ _ ⟨fun b o hb e => he b o (fun z => hb (by simp [z])) e, rfl, rfl, rfl, Nat.le_refl _⟩
  self := fun i s Q E st hQ => by
    obtain ⟨⟨k, q1⟩, _⟩ := st
    exact acc_iter q1 hQ
section
variable {prog : Program} {w : World} {A : Around} {E : Value → Shared → Prop} {s : Shared}
theorem sum_accL {t : Addr} {items : Array Value} {val : Nat → Int} {Q : Value → Shared → Prop} (hh : A.handled = none) (ht : s.heap.IsList t items) (hv : ∀ (i : Nat) (v : Value), items[i]? = some v → ∃ u, v = .int (val i) u)
    (hq : ∀ h' t' k, (∀ b o, s.heap.get? b = some o → h'.get? b = some o) → Q (.int (preSum (fun i => preSum val (i + 1)) items.size) t') { s with heap := h', toks := k }) :
    wpAny (model prog w) A (call (.type "itertools.accumulate") [.ref t]) (fun v s1 => wpAny (model prog w) A (call (.builtin "sum") [v]) Q E s1) E s := by
  have lt : t < s.heap.objs.size := by obtain ⟨o, ho, _⟩ := ht; exact Heap.lt_size ho
  have hh1 : A.in1.handled = none := hh
  refine call_acc (wpAny_pyIter_list ht ?_)
  have e1 : (s.heap.push { cls := .type "list_iterator", data := .fields #[.ref t, .int 0 0] }).objs.size = s.heap.objs.size + 1 := Heap.size_push ..
  intro h' g1 hk
  rw [show ({ s with heap := s.heap.push { cls := .type "list_iterator", data := .fields #[.ref t, .int 0 0] } } : Shared).heap.objs.size = s.heap.objs.size + 1 from e1] at g1 ⊢
  have git : h'.IsListIter s.heap.objs.size t 0 := ⟨_, hk _ _ (Heap.get?_push_size _ rfl), rfl, rfl⟩
  have gt : h'.IsList t items := (ht.push _).at fun o e => hk _ o e
  have W := walks_accL (A := A.in1) (prog := prog) (w := w) (a := s.heap.objs.size + 1) (it := s.heap.objs.size) (t := t) (items := items) hh1 hv (Nat.succ_ne_self _) (Nat.ne_of_lt lt) (Nat.ne_of_lt (Nat.lt_succ_of_lt lt))
  refine call_sum_walkAnyS (acc_iter g1 ?_)
  refine ⟨_, _, _, _, _, _, _, fun i => preSum val (i + 1), rfl, W, ⟨⟨0, g1⟩, git, gt⟩, fun b hb => ?_, fun i v hv => hv, fun s' t' hm => ?_⟩
  · have q1 := Heap.lt_size g1
    rcases List.mem_cons.mp hb with rfl | hb
    · exact q1
    · rcases List.mem_cons.mp hb with rfl | hb
      · exact Nat.lt_of_succ_lt q1
      · rw [List.mem_singleton.mp hb]; exact Nat.lt_trans lt (Nat.lt_of_succ_lt q1)
  · rw [Moved.eq_with hm]
    refine hq s'.heap t' s'.toks fun b o e => hm.heap b o (fun z => ?_) (hk b o (Heap.get?_push_of_some _ e))
    have hb := Heap.lt_size e
    rcases List.mem_cons.mp z with rfl | z
    · exact absurd hb (Nat.not_lt.mpr (Nat.le_succ _))
    · rw [List.mem_singleton.mp z] at hb
      exact Nat.lt_irrefl _ hb
end
end Ac
namespace L2
open PySem PySem.Spec PyProof.Rows
section
variable {X : Cx}
/-- sum(accumulate(t)) of a tuple or a list of ints -/
def tSumAc2 (K : PySem.W.Frag) (ta : TA) : TE := fun σ H Q => ta σ H fun vs H2 => ∃ (q : Addr) (ns : List Int), vs = [V.ref q] ∧ (SqL K H2 q (ns.map V.int) ∨ SqT K H2 q (ns.map V.int)) ∧ Q (.int (accI 0 ns)) H2
theorem pe_sumAc2 {e : Expr} {ta : TA} {p0 pos p pos2 : Pos} (hc : X.calm = true) (hgs : Gl X "sum") (hms : X.mg "sum" = none) (hg : Gl X "accumulate") (hm : X.mg "accumulate" = some (.type "itertools.accumulate")) (ha : PA X [e] ta)
    (hs1 : starEach [.Call (.Name "accumulate" p) [e] [] pos2] X.env = (false, eval (.Call (.Name "accumulate" p) [e] [] pos2) X.env) :: starEach [] X.env := by rfl)
    (hp1 : (backTo pos (starEach [] X.env)).any (·.1) = false := by rfl) (hs : starEach [e] X.env = (false, eval e X.env) :: starEach [] X.env := by rfl) (hpl : (backTo pos2 (starEach [] X.env)).any (·.1) = false := by rfl) :
    PE X (.Call (.Name "sum" p0) [.Call (.Name "accumulate" p) [e] [] pos2] [] pos) (tSumAc2 X.K ta) := by
  refine ⟨fun pins s σ H Q I h => ?_⟩
  refine wpAny_Call_Name_kw (ld_blt I hgs hms boot_sum ?_)
  refine PyProof.Rows.callWith_builtin1 ?_ hs1 hp1
  rw [hs1]
  show wpAny _ _ (spliced ((false, eval (.Call (.Name "accumulate" p) [e] [] pos2) X.env) :: backTo pos (starEach [] X.env))) _ _ s
  refine Calls.spliced_cons ?_
  refine wpAny_Call_Name_kw (ld_glob I hg hm ?_ (by decide))
  refine PyProof.Rows.callWith_type1 ?_ hs hpl
  refine thn (ha.run pos2 pins s σ H _ I h) fun us s3 ⟨vs, H2, I3, r3, q3⟩ => ?_
  obtain ⟨q, ns, rfl, hq, q3⟩ := q3
  rw [Vals.ref1 r3]
  have fin : ∀ {its : List Value} (rv : Vals (ns.map V.int) its) (h' : Heap) (t' : Tok) (k : Nat), (∀ b o, s3.heap.get? b = some o → h'.get? b = some o) → EP X pins σ Q (.int (preSum (fun i => preSum (fun i : Nat => ns[i]?.getD 0) (i + 1)) its.toArray.size) t') { s3 with heap := h', toks := k } := fun {its} rv h' t' k hk => by
    have e : its.toArray.size = ns.length := by have := rv.length; rw [List.length_map] at this; simp only [List.size_toArray]; omega
    rw [e, pre_acc ns _ val_get]
    exact ⟨.int _, H2, I3.kept hk, ⟨t', rfl⟩, q3⟩
  rcases hq with hq | hq
  · obtain ⟨its, rv, hl, _⟩ := I3.list hq
    exact wpAny_mono (Ac.sum_accL (val := fun i : Nat => ns[i]?.getD 0) (Q := EP X pins σ Q) (E := X.xe) (I3.ok.hd hc) hl.isList (ints_val rv) (fin rv)) (fun v s4 h4 => Calls.spliced_nil h4) fun _ _ z => z
  · obtain ⟨its, rv, hl, _⟩ := I3.tuple hq
    exact wpAny_mono (Ac.sum_acc (val := fun i : Nat => ns[i]?.getD 0) (Q := EP X pins σ Q) (E := X.xe) (I3.ok.hd hc) hl (ints_val rv) (fin rv)) (fun v s4 h4 => Calls.spliced_nil h4) fun _ _ z => z
theorem w_sumAc2 {K : PySem.W.Frag} {ta : TA} {σ : St} {H : Hp} {Q : VK} (h : ta σ H fun vs H2 => ∃ (q : Addr) (ns : List Int), vs = [V.ref q] ∧ (SqL K H2 q (ns.map V.int) ∨ SqT K H2 q (ns.map V.int)) ∧ Q (.int (accI 0 ns)) H2) : tSumAc2 K ta σ H Q := h
end
end L2
end

section
-- part Fgn
set_option Elab.async false
set_option linter.all false
set_option maxRecDepth 100000
set_option maxHeartbeats 2000000
/-! Fgn: any, all of a test over a tuple of ints, the def's table of code objects kept by names -/
namespace GnI
open PySem PySem.Spec PyProof.Rows L2 LamX
open GxR (GenS keeps_refl keeps_tok sh_eta passing_true)
/-- the test of an int -/
def EltI (prog : Program) (w : World) (scope : Scope) (x : Str) (elt : Expr) (pb : Int → Bool) : Prop :=
  ∀ (ce : Env) (B : Around) (F : Value → Shared → Prop) (c : Int) (t : Tok) (z : Shared) (m : Str → Option Value), ce.scope = scope → z.heap.Ns ce.locals m → m x = some (.int c t) →
    wpAny (model prog w) B (eval elt ce) (fun y z' => y = .bool (pb c) ∧ Keeps z z') F z
/-- x != k -/
theorem eltI_ne {prog : Program} {w : World} {scope : Scope} {x : Str} {k : Int} {j : Nat} {p1 p2 p3 : Pos} (hk : scope.kind = .function) (hl : scope.names.lookup x = some .local) (hd : (x == ("__debug__" : Str)) = false := by decide) :
    EltI prog w scope x (.Compare (.Name x p1) [.NotEq] [.Constant (.int k) j p2] p3) (fun c => c != k) := by
  intro ce B F c t z m hs hn hm
  refine wpAny_Compare1 (wpAny_Name (wpAny_loadName_local (by rw [hs]; exact hk) (show ce.scope.names.lookup x = some .local by rw [hs]; exact hl) hn hm ?_) hd)
  refine wpAny_Constant_int ?_
  exact PyProof.Rows.ne_int ⟨rfl, keeps_tok _ _⟩
def genSB (scope : Scope) (x : Str) : Bool := decide (scope.kind = .function) && !scope.isCoroutine && decide (scope.names.lookup (".0" : Str) = some NameKind.local) && decide (scope.names.lookup x = some .local) && scope.names.all fun y => !decide (y.2 = .cell) && !decide (y.2 = .free)
theorem genS_by {env : Env} {scope : Scope} {x : Str} (h : genSB scope x = true) : GenS env scope x := by
  unfold genSB at h
  simp only [Bool.and_eq_true, Bool.not_eq_true', decide_eq_true_eq, decide_eq_false_iff_not, List.all_eq_true] at h
  obtain ⟨⟨⟨⟨h1, h2⟩, h3⟩, h4⟩, h5⟩ := h
  exact ⟨h1, h2, fun y hy => (h5 y hy).1, h3, h4, fun y hy e => absurd e (h5 y hy).2⟩
/-- the test at place j -/
def trI (pb : Int → Bool) (l : List Int) (j : Nat) : Bool := (l[j]?).elim false pb
theorem trI_some {pb : Int → Bool} {l : List Int} {j : Nat} {b : Int} (h : l[j]? = some b) : trI pb l j = pb b := by show (l[j]?).elim false pb = pb b; rw [h]; rfl
theorem any_trI (l : List Int) (pb : Int → Bool) : (List.range l.length).any (trI pb l) = l.any pb := by
  rw [Bool.eq_iff_iff, List.any_eq_true, List.any_eq_true]
  refine ⟨fun ⟨j, hj, h⟩ => ?_, fun ⟨b, hb, h⟩ => ?_⟩
  · have hl := List.mem_range.mp hj
    exact ⟨l[j], List.getElem_mem hl, by rw [← trI_some (pb := pb) (List.getElem?_eq_getElem hl)]; exact h⟩
  · obtain ⟨j, hl, e⟩ := List.getElem_of_mem hb
    exact ⟨j, List.mem_range.mpr hl, by rw [trI_some (List.getElem?_eq_getElem hl), e]; exact h⟩
theorem all_trI (l : List Int) (pb : Int → Bool) : (List.range l.length).all (trI pb l) = l.all pb := by
  rw [Bool.eq_iff_iff, List.all_eq_true, List.all_eq_true]
  refine ⟨fun h b hb => ?_, fun h j hj => ?_⟩
  · obtain ⟨j, hl, e⟩ := List.getElem_of_mem hb
    have := h j (List.mem_range.mpr hl)
    rwa [trI_some (List.getElem?_eq_getElem hl), e] at this
  · have hl := List.mem_range.mp hj
    rw [trI_some (List.getElem?_eq_getElem hl)]
    exact h _ (List.getElem_mem hl)
variable {X : Cx} {pins : List (Addr × Obj)} {σ : L2.St} {H : Hp} {s : Shared}
/-- the generator g over the ints ns, ready to be walked, in the state z -/
def Ready (X : Cx) (pins : List (Addr × Obj)) (σ : L2.St) (H1 : Hp) (T : List (Addr × Str)) (ns : List Int) (pb : Int → Bool) (g : Addr) (z : Shared) : Prop :=
  ∃ (fp wr : List Addr) (G : Array GenState → Array GenState → Prop) (F : Nat → Value → Prop) (St : Nat → Shared → Prop),
    WalksS X.prog X.w X.A.in1 g fp wr G ns.length F St ∧ St 0 z ∧ TruthOf X.prog X.w X.A.in1 F (trI pb ns) ∧ ∀ z', Moved wr G z z' → ∃ H2, ExtN H1 H2 ∧ Tabs T H2 ∧ Inv X pins σ H2 z'
theorem moved_inv {g' : Array GenState} {d' : Drawn} {t' : Nat} {h' : Heap} (I : Inv X pins σ H s) (k : ∀ b o, s.heap.get? b = some o → h'.get? b = some o) (hg : AllBare g') : Inv X pins σ H { s with heap := h', gens := g', drawn := d', toks := t' } := by
  refine I.step (g' := g') (d' := d') (ch := []) (fun b hb => nomatch hb) (fun b o _ _ _ e n => k b o e) (fun b o _ _ _ e n => ⟨o.slots, k b o e⟩) (fun b o _ e n => n) (fun b o _ e => ⟨o, k b o e⟩) (fun b xs e => e) (fun b o u e => e) (fun b qs e => by rw [e]; exact ⟨#[], by simp⟩)
    (fun m hn => ?_) (fun b u e => (I.hok b u e).stay (fun d v _ q => k d v q) (fun d q => q) fun d xs q => q) hg
  obtain ⟨ob, es, ep, ho, r⟩ := hn
  exact ⟨ob, es, ep, k _ ob ho, r⟩
theorem gen_ints {T : List (Addr × Str)} {c P : Addr} {elt iter : Expr} {x : Str} {px gpos : Pos} {scope : Scope} {pb : Int → Bool} {te : TE} {k : Nat} {Q' : Value → Shared → Prop} {R : Addr → List Int → Hp → Prop}
    (hr : Room k X.A) (TB : TabB X.base X.mg c P) (hcode : X.env.code = .ref c) (hm : (P, X.env.qual ++ "<genexpr>") ∈ T) (hu : ∀ p ∈ T, p.1 = P → p.2 = X.env.qual ++ "<genexpr>") (S : GenS X.env scope x) (hi : PE X iter te) (hel : EltI X.prog X.w scope x elt pb)
    (hs : ∀ v, genFold iter X.env v = pure v) (I : Inv X pins σ H s) (h : te σ H fun v H1 => ∃ a ns, v = .ref a ∧ SqT X.K H1 a (ns.map V.int) ∧ Tabs T H1 ∧ R a ns H1)
    (hQ : ∀ a ns H1 g z, R a ns H1 → Ready X pins σ H1 T ns pb g z → Q' (.ref g) z) : wpAny (model X.prog X.w) X.A (eval (.GeneratorExp elt [⟨.Name x px, iter, [], 0⟩] scope gpos) X.env) Q' X.xe s := by
  refine wpAny_GeneratorExp_walksQ hr.hd S.co (closure_ok S.free) S.cell S.dot S.loc S.kind (by have := hr.dp; omega) (thn (hi.run pins s σ H _ I h) fun xv s1 ⟨v, H1, I1, r1, q1⟩ => ?_) hs
  obtain ⟨a, ns, rfl, hS, hT, q1⟩ := q1
  obtain ⟨its, rv, ht, _⟩ := I1.tuple hS
  cases r1
  have la : a < s1.heap.objs.size := by obtain ⟨o, ho, _⟩ := id ht; exact Heap.lt_size ho
  have hlen : its.toArray.size = ns.length := by have := rv.length; rw [List.length_map] at this; simp only [List.size_toArray]; omega
  have hval : ∀ (i : Nat) (u : Value), its.toArray[i]? = some u → ∃ b t, ns[i]? = some b ∧ u = .int b t := fun i u e => by
    have e' : its[i]? = some u := by simpa using e
    have hl : i < ns.length := by have := (List.getElem?_eq_some_iff.mp e').1; rw [← hlen]; simpa using this
    obtain ⟨u2, e2, r2⟩ := rv.get (i := i) (x := V.int ns[i]) (by rw [List.getElem?_map, List.getElem?_eq_getElem hl]; rfl)
    rw [e'] at e2
    cases e2
    obtain ⟨t, rfl⟩ := r2
    exact ⟨_, t, List.getElem?_eq_getElem hl, rfl⟩
  obtain ⟨ps, hP, htr, hnm⟩ := hT _ hm
  refine wpAny_pyIter_tuple ht ?_
  have hPs : s1.heap.get? P = some { cls := .none, data := .fields ps } := I1.hok P _ hP
  have haP : a ≠ P := fun z => by
    obtain ⟨o, ho, hc, _⟩ := id ht
    rw [z, hPs] at ho
    cases ho
    cases hc
  have hPlt : P < s1.heap.objs.size := Heap.lt_size hPs
  obtain ⟨N, eN⟩ : ∃ N : Nat, N = s1.heap.objs.size := ⟨_, rfl⟩
  obtain ⟨o, eo⟩ : ∃ o : Obj, o = { cls := .type "tuple_iterator", data := .fields #[.ref a, .int 0 0] } := ⟨_, rfl⟩
  rw [← eo]
  have sz2 : (s1.heap.push o).objs.size = N + 1 := by rw [Heap.size_push, ← eN]
  have kp2 : ∀ b u, s1.heap.get? b = some u → (s1.heap.push o).get? b = some u := fun b u e => Heap.get?_push_of_some _ e
  have hit : (s1.heap.push o).IsTupleIter N a 0 := by rw [eN, eo]; exact ⟨_, Heap.get?_push_size _ rfl, rfl, rfl⟩
  have cd : PySem.W.CodeHd (s1.heap.push o) c P := TB.code.keeps fun b u e => kp2 b u (I1.bk b u e)
  have lim2 : (s1.heap.push o).NoLimit := I1.nolimit.push o
  have W : ∀ B : Around, B.handled = none → Walks X.prog X.w B N [N, a] [N] its.toArray.size (fun i u => its.toArray[i]? = some u) (fun i hh => hh.IsTupleIter N a i ∧ hh.IsTuple a its.toArray) := fun B hB => Walks.tuple hB N a (by rw [eN]; exact Nat.ne_of_lt la) its.toArray
  have cont : ∀ (code : Value) (h3 : Heap) (tk : Nat), Heap.ExtBut P (s1.heap.push o) h3 → (s1.heap.push o).objs.size ≤ h3.objs.size →
      (∀ (h' : Heap) (t' : Nat), (∀ b u, b ≠ N → h3.get? b = some u → h'.get? b = some u) → ∃ H3, ExtN H1 H3 ∧ Tabs T H3 ∧ Inv X pins σ H3 { s1 with heap := h', toks := t' }) →
      wpAny (model X.prog X.w) X.A (builtinsFor X.env.globals X.env.builtins) (fun bi z =>
        ∃ Ia fp wr n₀ Pf St₀ pz F, Value.ref N = .ref Ia ∧ (∀ B : Around, B.handled = none → Walks X.prog X.w B Ia fp wr n₀ Pf St₀) ∧ St₀ 0 z.heap ∧ (∀ b ∈ fp, b < z.heap.objs.size) ∧ z.heap.NoLimit ∧ cStatics ∉ wr ∧
          (∀ hz : Heap, (∀ b o, z.heap.get? b = some o → hz.get? b = some o) →
            QuietGen X.prog X.w (genEnv scope (cloFrom X.env.cells scope.names []) z.heap.objs.size code bi X.env) x [] elt (List.range z.heap.objs.size) wr Pf pz F hz) ∧
          (∀ a h₅ tk gs, gs.bare = true → z.heap.objs.size < a → h₅.objs.size = a + 1 → (∀ b o, z.heap.get? b = some o → h₅.get? b = some o) →
            WalksS X.prog X.w X.A.in4 a (a :: z.heap.objs.size :: List.range z.heap.objs.size) (z.heap.objs.size :: wr) (GenOnlyQ z.gens.size) (passing pz n₀ 0).length
              (fun j y => ∃ i, (passing pz n₀ 0)[j]? = some i ∧ F i y) (GenAt X.prog X.w X.A.in4 a z.gens.size z.heap.objs.size (List.range z.heap.objs.size) wr pz n₀ F) →
            GenAt X.prog X.w X.A.in4 a z.gens.size z.heap.objs.size (List.range z.heap.objs.size) wr pz n₀ F 0 { z with gens := z.gens.push gs, toks := tk, heap := h₅ } →
            Q' (.ref a) { z with gens := z.gens.push gs, toks := tk, heap := h₅ })) X.xe { s1 with heap := h3, toks := tk } := by
    intro code h3 tk hx hsz hI
    obtain ⟨bm, ob, e1, e2, e3, e4, e5, e6, e7, e8⟩ := TB.bm
    have hsz' : N + 1 ≤ h3.objs.size := by rw [← sz2]; exact hsz
    have keep3 : ∀ b u, b ≠ P → s1.heap.get? b = some u → h3.get? b = some u := fun b u hb e => hx b u hb (kp2 b u e)
    have hclt : cStatics < N := by rw [eN]; exact let ⟨_, hns, _⟩ := I1.nolimit; hns.lt
    refine wpAny_builtinsFor (m := X.mg) (by rw [I1.ok.glob]; exact ((I1.mod.glob.keeps I1.bk).push o).extBut hx TB.gP) e1 e2 (keep3 _ _ e4 (I1.bk _ _ e5)) e6 e7 e8 ?_
    have itP : N ≠ P := fun z => by rw [eN] at z; exact Nat.ne_of_lt hPlt z.symm
    have hta : h3.IsTuple a its.toArray := by
      obtain ⟨o1, g1, r1⟩ := ht
      exact ⟨o1, keep3 a o1 haP g1, r1⟩
    obtain ⟨_, _, _, I3⟩ := hI h3 tk fun b u _ e => e
    refine ⟨N, [N, a], [N], its.toArray.size, _, _, (fun _ => true), (fun i y => ∃ b, ns[i]? = some b ∧ y = .bool (pb b)), rfl, W, ⟨hit.at fun u e => hx N u itP e, hta⟩, fun b hb => ?_, I3.nolimit, fun z => ?_, fun hz hhz => ?_, fun g h5 tk5 gs hgb hag hsz5 hk5 W5 hat => ?_⟩
    · show b < h3.objs.size
      rcases List.mem_cons.mp hb with z | hb
      · rw [z]; exact Nat.lt_of_lt_of_le (Nat.lt_succ_self N) hsz'
      · rw [List.mem_singleton.mp hb]; exact Nat.lt_of_lt_of_le (Nat.lt_succ_of_lt (eN ▸ la)) hsz'
    · rw [List.mem_singleton.mp z] at hclt
      exact Nat.lt_irrefl _ hclt
    · refine ⟨fun B F' i v s₂ m₂ hB hPv hn hm hk => ?_, fun B F' i v s₂ m₂ hB hPv hp hn hm hk => ?_⟩
      · simp only [List.forIn_nil]
        exact wpAny_pure ⟨rfl, keeps_refl _⟩
      · obtain ⟨b, u, hb, rfl⟩ := hval i v hPv
        exact wpAny_mono (hel _ B F' b u s₂ m₂ rfl hn hm) (fun y s3 r => ⟨⟨b, hb, r.1⟩, r.2⟩) fun _ _ e => e
    · simp only [GxR.passing_true, List.length_range, hlen] at W5
      refine hQ a ns H1 g _ q1 ⟨_, _, _, _, _, W5.in4_1, by rw [hlen] at hat; exact hat, fun j y sj Qj Ej hy hQj => ?_, fun z' hmv => ?_⟩
      · obtain ⟨i, hij, b, hb, rfl⟩ := hy
        obtain ⟨hj, ej⟩ := List.getElem?_eq_some_iff.mp hij
        rw [List.getElem_range] at ej
        subst ej
        have hQ2 : Qj (trI pb ns j) sj := hQj
        rw [trI_some hb] at hQ2
        exact wpAny_truthy_bool hQ2
      · obtain ⟨H3, eN3, hT3, I4⟩ := hI z'.heap z'.toks fun b u hb e => hmv.heap b u (fun z => by
          rcases List.mem_cons.mp z with z | z
          · rw [z] at e
            exact Nat.lt_irrefl _ (Heap.lt_size e)
          · exact hb (List.mem_singleton.mp z)) (hk5 b u e)
        have J := moved_inv (g' := z'.gens) (d' := z'.drawn) (t' := z'.toks) (h' := z'.heap) I4 (fun b u e => e) (AllBare.movedS (I1.bare.push hgb) hmv)
        have J2 := sh_eta { s1 with heap := h3, toks := tk } z' hmv.os
        rw [← J2]
        exact ⟨H3, eN3, hT3, J⟩
  subst eN
  refine ⟨lim2, ?_⟩
  have hP2 : (s1.heap.push o).get? P = some { cls := .none, data := .fields ps } := kp2 _ _ hPs
  have nN : ∀ b u, s1.heap.get? b = some u → b ≠ s1.heap.objs.size := fun b u e => Nat.ne_of_lt (Heap.lt_size e)
  cases hf : codeAmong gpos ps.toList with
  | none =>
    refine wpAny_genexprCodeX hcode (cd.code hP2 htr) (cd.tab hP2) hf fun c' h' tk hx hge hlt hco' hrec htab' _ => ?_
    obtain ⟨c2, oc, vs, t, e2, hoc, hd, hv⟩ := hrec
    cases e2
    have hge1 : s1.heap.objs.size + 1 ≤ c' := by rw [← sz2]; exact hge
    have hge' : s1.heap.objs.size ≤ c' := Nat.le_of_succ_le hge1
    have nC : H1 c' = none := I1.hok.fresh hge'
    have hE : ExtN H1 (upd (upd H1 P (.tbl (ps ++ #[rawInt gpos.line, rawInt gpos.col, .ref c']))) c' (CodeO c' (X.env.qual ++ "<genexpr>"))) := fun b u e n => by
      rw [upd_ne (ne_of_none e nC), upd_ne (fun z => n ps (Option.some.inj (e.symm.trans (by rw [z]; exact hP))))]
      exact e
    have eL : (ps ++ #[rawInt gpos.line, rawInt gpos.col, .ref c']).toList = ps.toList ++ [rawInt gpos.line, rawInt gpos.col, .ref c'] := by simp
    refine cont _ h' tk hx (Nat.le_trans hge (Nat.le_of_lt hlt)) fun h'' t'' k'' => ⟨_, hE, fun p hp => ?_, inv_table (t' := t'') (more := #[rawInt gpos.line, rawInt gpos.col, .ref c']) (h' := h'') I1 hP (fun b u hb e => k'' b u (nN b u e) (hx b u hb (kp2 b u e))) (k'' P _ (nN _ _ hPs) htab'.2) hge' ⟨oc, vs, t, k'' c' _ (Nat.ne_of_gt hge1) hoc, hd, hv⟩⟩
    by_cases hb : p.1 = P
    · rw [hu p hp hb, hb]
      refine ⟨_, by rw [upd_ne (ne_of_none hP nC), upd_same], by rw [eL]; exact PySem.TriplesOk_snoc _ _ _ _ htr, fun p' cv hcv => ?_⟩
      rw [eL] at hcv
      rcases among_app _ htr hcv with z | z
      · obtain ⟨c0, e1, e2⟩ := hnm p' cv z
        exact ⟨c0, e1, hE _ _ e2 codeO_ne⟩
      · exact ⟨c', z, upd_same⟩
    · obtain ⟨ps', a1, a2, a3⟩ := hT p hp
      refine ⟨ps', by rw [upd_ne (ne_of_none a1 nC), upd_ne hb]; exact a1, a2, fun p' cv hcv => ?_⟩
      obtain ⟨c0, e1, e2⟩ := a3 p' cv hcv
      exact ⟨c0, e1, hE _ _ e2 codeO_ne⟩
  | some cv =>
    refine wpAny_genexprCode_hit hcode (cd.code hP2 htr) hf ?_
    exact cont cv (s1.heap.push o) s1.toks (Heap.ExtBut.refl _ _) (Nat.le_refl _) fun h'' t'' k'' => ⟨H1, ExtN.refl H1, hT, I1.kept fun b u e => k'' b u (nN b u e) (kp2 b u e)⟩
/-- any(test for x in e), e a tuple of ints -/
def tAnyI (K : PySem.W.Frag) (T : List (Addr × Str)) (pb : Int → Bool) (te : TE) : TE := fun σ H Q => te σ H fun v H1 => ∃ (a : Addr) (ns : List Int), v = .ref a ∧ SqT K H1 a (ns.map V.int) ∧ Tabs T H1 ∧ ∀ H2, ExtN H1 H2 → Tabs T H2 → Q (.bl (ns.any pb)) H2
theorem pe_anyI {T : List (Addr × Str)} {c P : Addr} {elt iter : Expr} {x : Str} {px p pos gpos : Pos} {scope : Scope} {pb : Int → Bool} {te : TE} {k : Nat} (hr : Room k X.A) (hg : Gl X "any") (hma : X.mg "any" = none) (TB : TabB X.base X.mg c P) (hcode : X.env.code = .ref c)
    (hm : (P, X.env.qual ++ "<genexpr>") ∈ T) (hu : ∀ p ∈ T, p.1 = P → p.2 = X.env.qual ++ "<genexpr>") (S : GenS X.env scope x) (hi : PE X iter te) (hel : EltI X.prog X.w scope x elt pb) (hs : ∀ v, genFold iter X.env v = pure v)
    (he : starEach [.GeneratorExp elt [⟨.Name x px, iter, [], 0⟩] scope gpos] X.env = (false, eval (.GeneratorExp elt [⟨.Name x px, iter, [], 0⟩] scope gpos) X.env) :: starEach [] X.env := by rfl) :
    PE X (.Call (.Name "any" p) [.GeneratorExp elt [⟨.Name x px, iter, [], 0⟩] scope gpos] [] pos) (tAnyI X.K T pb te) := by
  refine ⟨fun pins s σ H Q I h => wpAny_Call_Name_kw (ld_blt I hg hma boot_any (PyProof.Rows.callWith_builtin1 ?_ he (by rfl)))⟩
  rw [he]
  show wpAny _ _ (spliced ((false, eval (.GeneratorExp elt [⟨.Name x px, iter, [], 0⟩] scope gpos) X.env) :: backTo pos (starEach [] X.env))) _ _ s
  refine Calls.spliced_cons (gen_ints (R := fun a ns H1 => ∀ H2, ExtN H1 H2 → Tabs T H2 → Q (.bl (ns.any pb)) H2) hr TB hcode hm hu S hi hel hs I h fun a ns H1 g z hR hG => Calls.spliced_nil ?_)
  obtain ⟨fp, wr, G, F, St, W, hst, htr, hI⟩ := hG
  refine call_any_walkS (W.self 0 _ _ _ hst ⟨g, fp, wr, G, _, F, St, _, rfl, W, hst, htr, fun s' hmv => ?_⟩)
  obtain ⟨H2, hE, hT, J⟩ := hI s' hmv
  exact ⟨.bl _, H2, J, rfl, by rw [any_trI ns pb]; exact hR H2 hE hT⟩
theorem w_anyI {K : PySem.W.Frag} {T : List (Addr × Str)} {pb : Int → Bool} {te : TE} {Q : VK} (h : te σ H fun v H1 => ∃ (a : Addr) (ns : List Int), v = .ref a ∧ SqT K H1 a (ns.map V.int) ∧ Tabs T H1 ∧ ∀ H2, ExtN H1 H2 → Tabs T H2 → Q (.bl (ns.any pb)) H2) : tAnyI K T pb te σ H Q := h
end GnI
end

section
-- part Fno
set_option Elab.async false
set_option linter.all false
set_option maxRecDepth 100000
set_option maxHeartbeats 2000000
/-! Fno: an instance without == of its own is not equal to a text -/
namespace NoS
open PySem PySem.Spec PyProof.Rows PySem.SeqAt L2
section
variable {M : Model} {prog : Program} {w : World} {A : Around} {E : Value → Shared → Prop} {s : Shared} {K : PySem.W.Frag} {x C : Addr} {ox : Obj} {od : Option Obj} {z : Str} {t : Tok}
theorem same_str {R : Bool → Shared → Prop} (h : R false s) : wpAny M A (isSame (.ref x) (.str z t)) R E s := wpAny_of_eq (rfl : isSame (.ref x) (.str z t) = pure false) h
theorem entryE {Q : Fin → Shared → Prop} (hq : Q (.done (.ret .notImplemented)) s) : wpAny M A (Builtin.«object.__eq__» ⟨[.ref x, .str z t], []⟩) Q E s := by
  unfold Builtin.«object.__eq__»
  repeat (first | with_reducible refine same_str ?_ | wp_step)
  exact hq
theorem callE {Q : Value → Shared → Prop} (X : K.In s.heap) (I : PySem.W.InstAt s.heap x ox C od) (hm : PySem.W.mroIn K C (.type "object") = some true) (hq : Q .notImplemented s) : wpAny (model prog w) A (call (.builtin "object.__eq__") [.ref x, .str z t]) Q E s :=
  wpAny_call (codeAny_call_builtin F.cmp_object.eq.plain F.cmpEntry_eq (PySem.W.check_slot F.cmpKind_eq F.cmpSplit_eq (I.type.andThen (PySem.W.looks_mroIn X hm)) (F.cmpArgs_eq _ _) (entryE hq)))
theorem ifBoundN {args : List Value} {Q : Option Value → Shared → Prop} (X : K.In s.heap) (I : PySem.W.InstAt s.heap x ox C od) (hs : PySem.W.findIn K (.ref C) "__ne__" = some (some (.builtin "object.__ne__")))
    (h : wpAny M A (call (.builtin "object.__ne__") (.ref x :: args)) (fun v => Q (some v)) E s) : wpAny M A (callSpecialIfBound? (.ref x) "__ne__" args) Q E s := by
  simp only [callSpecialIfBound?, bindSpecialIfBound?]
  refine wpAny_holding (wpAny_bind (wpAny_bind (wpAny_bind (I.type.here ((PySem.W.looks_findIn X hs).here (wpAny_bind (wpAny_askSetting (wpAny_ite ?_))))))))
  have fin : wpAny M A (call (.builtin "object.__ne__") ([.ref x] ++ args) >>= fun v => pure (some v)) Q E s := wpAny_bind (wpAny_mono h (fun v s' h' => wpAny_pure h') fun _ _ h' => h')
  split
  · exact wpAny_bind (wpAny_of_eq (F.cmp_object.ne.bind _) (wpAny_pure (by exact fin)))
  · exact wpAny_tryCatch (wpAny_bind (wpAny_of_eq (F.cmp_object.ne.bind _) (wpAny_pure (by exact fin))))
theorem entryN {Q : Fin → Shared → Prop} (hu : A.units < cLine) (X : K.In s.heap) (I : PySem.W.InstAt s.heap x ox C od) (hm : PySem.W.mroIn K C (.type "object") = some true) (hs : PySem.W.findIn K (.ref C) "__eq__" = some (some (.builtin "object.__eq__")))
    (hq : Q (.done (.ret .notImplemented)) s) : wpAny (model prog w) A (Builtin.«object.__ne__» ⟨[.ref x, .str z t], []⟩) Q E s := by
  unfold Builtin.«object.__ne__»
  repeat (first | with_reducible refine wpAny_cRoomFor hu ?_ | with_reducible refine HN.ifBound_objEq X I hs (callE X I hm ?_) | wp_step)
  exact hq
theorem callN {Q : Value → Shared → Prop} (hu : A.units + 1 < cLine) (X : K.In s.heap) (I : PySem.W.InstAt s.heap x ox C od) (hm : PySem.W.mroIn K C (.type "object") = some true) (hs : PySem.W.findIn K (.ref C) "__eq__" = some (some (.builtin "object.__eq__"))) (hq : Q .notImplemented s) :
    wpAny (model prog w) A (call (.builtin "object.__ne__") [.ref x, .str z t]) Q E s :=
  wpAny_call (codeAny_call_builtin F.cmp_object.ne.plain F.cmpEntry_ne (PySem.W.check_slot F.cmpKind_ne F.cmpSplit_ne (I.type.andThen (PySem.W.looks_mroIn X hm)) (F.cmpArgs_ne _ _) (entryN (A := A.in1) hu X I hm hs hq)))
theorem subS : PySem.W.subIn K (.type "str") (.ref C) = some false := by
  have e : fastBuiltinMro "str" = some [.type "str", .type "object"] := by decide +kernel
  show (fastBuiltinMro "str").map (·.contains (.ref C)) = some false
  rw [e]
  first
    | rfl
    | simp
theorem strNe {Q : Fin → Shared → Prop} {dx : Addr} (I : s.heap.get? x = some (PySem.W.instObj C dx)) (hq : Q (.done (.ret .notImplemented)) s) : wpAny (model prog w) A (Builtin.«str.__ne__» ⟨[.str z t, .ref x], []⟩) Q E s := by
  obtain ⟨hp, g, d, tk, os⟩ := s
  wp_walk
  exact hq
theorem rcNe {dx : Addr} {Q : Value → Shared → Prop} (hu : A.units + 1 < cLine) (X : K.In s.heap) (I : PySem.W.InstAt s.heap x (PySem.W.instObj C dx) C od) (hm : PySem.W.mroIn K C (.type "object") = some true) (he : PySem.W.findIn K (.ref C) "__eq__" = some (some (.builtin "object.__eq__")))
    (hn : PySem.W.findIn K (.ref C) "__ne__" = some (some (.builtin "object.__ne__"))) (h : Q (.bool true) s) : wpAny (model prog w) A (richCompare .NotEq (.ref x) (.str z t)) Q E s := by
  have hu0 : A.units < cLine := Nat.lt_of_succ_lt hu
  have one : wpAny (model prog w) A (tryCompare (.ref x) "__ne__" (.str z t)) (fun r s' => r = none ∧ s' = s) E s := by
    unfold tryCompare
    exact wpAny_bind (ifBoundN X I hn (callN hu X I hm he (wpAny_pure ⟨rfl, rfl⟩)))
  have hT : s.TypeIs (.str z t) "str" := typeIs_str s z t
  have two : wpAny (model prog w) A (tryCompare (.str z t) "__ne__" (.ref x)) (fun r s' => r = none ∧ s' = s) E s :=
    wpAny_tryCompare_declines hT F.slot_str_ne_refl (wpAny_call (codeAny_call_builtin F.slot_str_ne_refl.plain F.entry_str_ne (F.slot_str_ne_refl.check _ _ _ _ _ _ _ _ hT (F.args_str_ne_2 _ _) (strNe I.at_ ⟨rfl, rfl, rfl⟩))))
  simp only [richCompare, cmpInfo_NotEq, oneThing_ref]
  refine wpAny_holding (wpAny_bind (wpAny_cRoomFor hu0 ?_))
  refine wpAny_bind (I.type.here ?_)
  refine wpAny_bind (wpAny_typeOf hT ?_)
  split
  · refine wpAny_bind ((PySem.W.looks_subIn X subS).here ?_)
    simp only [Bool.false_eq_true, if_false, Bool.not_false, if_true]
    refine wpAny_bind (m := tryCompare (.ref x) _ (.str z t)) (wpAny_mono one (fun r s1 q => ?_) fun _ _ e => e)
    obtain ⟨q1, q2⟩ := q
    subst q1 q2
    refine wpAny_bind (m := tryCompare (.str z t) _ (.ref x)) (wpAny_mono two (fun r s2 q => ?_) fun _ _ e => e)
    obtain ⟨q1, q2⟩ := q
    subst q1 q2
    exact wpAny_bind (wpAny_rule (wpAny_bind (wpAny_of_eq (rfl : isSame (.ref x) (.str z t) = pure false) (wpAny_pure h))))
  · rename_i q
    exact absurd (by simp) q
end
end NoS
namespace L2
open PySem PySem.Spec PyProof.Rows
/-- the class C has no == of its own -/
structure NoEq (K : PySem.W.Frag) (C : Addr) : Prop where
  mro : PySem.W.mroIn K C (.type "object") = some true
  eq : PySem.W.findIn K (.ref C) "__eq__" = some (some (.builtin "object.__eq__"))
  ne : PySem.W.findIn K (.ref C) "__ne__" = some (some (.builtin "object.__ne__"))
/-- x != 't', x a text or an instance -/
def rNeO (K : PySem.W.Frag) : R2 := fun x y H Q => ∃ z, y = .str z ∧ ((∃ a, x = .str a ∧ Q (.bl (!decide (V.str a = V.str z))) H) ∨ ∃ a C dx fs, x = .ref a ∧ H a = some (.ins C dx fs) ∧ NoEq K C ∧ Q (.bl true) H)
theorem op_neO {X : Cx} (hu : X.A.units + 64 < cLine) : OpR X (compareOp .NotEq) (rNeO X.K) := by
  intro pins s σ H x y v u Q I rx ry h
  obtain ⟨z, rfl, h⟩ := h
  rcases h with ⟨a, rfl, q⟩ | ⟨a, C, dx, fs, rfl, ha, N, q⟩
  · exact op_ne pins s σ H _ _ v u Q I rx ry ⟨rfl, q⟩
  · cases rx
    obtain ⟨t, rfl⟩ := ry
    obtain ⟨mA, O, _⟩ := ins_get I.hok ha
    obtain ⟨od, J, _⟩ := O.look
    exact NoS.rcNe (by omega) I.kIn J N.mro N.eq N.ne ⟨.bl true, H, I, rfl, q⟩
theorem w_neOs {K : PySem.W.Frag} {a b : Str} {H : Hp} {Q : VK} (q : Q (.bl (!decide (V.str a = V.str b))) H) : rNeO K (.str a) (.str b) H Q := ⟨b, rfl, .inl ⟨a, rfl, q⟩⟩
theorem w_neOi {K : PySem.W.Frag} {a C dx : Addr} {fs : List (Str × V)} {b : Str} {H : Hp} {Q : VK} (h : H a = some (.ins C dx fs)) (n : NoEq K C) (q : Q (.bl true) H) : rNeO K (.ref a) (.str b) H Q := ⟨b, rfl, .inr ⟨a, C, dx, fs, rfl, h, n, q⟩⟩
end L2
end

section
-- part K05M
set_option Elab.async false
set_option linter.all false
set_option maxRecDepth 100000
set_option maxHeartbeats 2000000
/-! K05M: rows as bytes; core Lean -/
namespace M5
open PySem PySem.Spec PyProof.Rows L2 Fw
abbrev HI : Int := 9223372036854775807
inductive RV where
  | non
  | txt (l : List Nat)
  | num (n : Int)
deriving DecidableEq
def alphabet : List Nat := [10, 32, 33, 34, 35, 36, 38, 39, 40, 41, 42, 43, 44, 45, 46, 47, 48, 49, 50, 51, 52, 53, 54, 55, 56, 57, 58, 59, 60, 61, 62, 63, 64, 65, 66, 67, 68, 69, 70, 71, 72, 73, 74, 75, 76, 77, 78, 79, 80, 81, 82, 83, 84, 85, 86, 87, 88, 89, 90, 91, 92, 93, 94, 95, 96, 97, 98, 99, 100, 101, 102, 103, 104, 105, 106, 107, 108, 109, 110, 111, 112, 113, 114, 115, 116, 117, 118, 119, 120, 121, 122, 123, 124, 125, 126]
def sgn (c : Nat) : Nat := alphabet.findIdx (· == c)
theorem al_len : alphabet.length = 95 := by decide +kernel
theorem sgn_ok {c : Nat} (h : c ∈ alphabet) : sgn c < 95 ∧ alphabet[sgn c]? = some c := by
  have h2 : alphabet.all (fun c => decide (sgn c < 95 ∧ alphabet[sgn c]? = some c)) = true := by decide +kernel
  exact of_decide_eq_true (List.all_eq_true.mp h2 c h)
theorem sgn_at {i : Nat} (h : i < 95) : ∃ c ∈ alphabet, alphabet[i]? = some c ∧ sgn c = i := by
  have h2 : ∀ i < 95, (match alphabet[i]? with | some c => decide (c ∈ alphabet ∧ sgn c = i) | none => false) = true := by decide +kernel
  have h3 := h2 i h
  cases e : alphabet[i]? with
  | none => rw [e] at h3; cases h3
  | some c => rw [e] at h3; exact ⟨c, (of_decide_eq_true h3).1, rfl, (of_decide_eq_true h3).2⟩
theorem sgn_lt {c d : Nat} (hc : c ∈ alphabet) (hd : d ∈ alphabet) : sgn c < sgn d ↔ c < d := by
  have h2 : alphabet.all (fun c => alphabet.all fun d => decide (sgn c < sgn d ↔ c < d)) = true := by decide +kernel
  exact of_decide_eq_true (List.all_eq_true.mp (List.all_eq_true.mp h2 c hc) d hd)
theorem sgn_inj {c d : Nat} (hc : c ∈ alphabet) (hd : d ∈ alphabet) (h : sgn c = sgn d) : c = d := by
  have h1 := sgn_lt hc hd
  have h2 := sgn_lt hd hc
  omega
/-! bytes -/
def Byt (d : List Int) : Prop := ∀ b ∈ d, 0 ≤ b ∧ b < 256
def fixedL (n : Int) : Nat → List Int
  | 0 => []
  | k + 1 => fixedL (n / 256) k ++ [n % 256]
def fromL (d : List Int) : Int := d.foldl (fun a b => a * 256 + b) 0
theorem fromL_snoc (d : List Int) (b : Int) : fromL (d ++ [b]) = fromL d * 256 + b := by simp [fromL]
theorem fixed_len (n : Int) (k : Nat) : (fixedL n k).length = k := by
  induction k generalizing n with
  | zero => rfl
  | succ k ih => rw [fixedL, List.length_append, ih]; rfl
theorem fixed_byt (n : Int) (k : Nat) : Byt (fixedL n k) := by
  induction k generalizing n with
  | zero => intro b hb; cases hb
  | succ k ih =>
    intro b hb
    rcases List.mem_append.mp hb with hb | hb
    · exact ih _ b hb
    · rw [List.mem_singleton.mp hb]; omega
theorem from_fixed (k : Nat) : ∀ n : Int, 0 ≤ n → n < 256 ^ k → fromL (fixedL n k) = n := by
  induction k with
  | zero => intro n h0 h1; simp at h1; have : n = 0 := by omega
            subst this; rfl
  | succ k ih =>
    intro n h0 h1
    rw [fixedL, fromL_snoc, ih (n / 256) (by omega) (by rw [Int.pow_succ] at h1; omega)]
    omega
theorem fixed_from : ∀ d : List Int, Byt d → fixedL (fromL d) d.length = d := by
  intro d
  rw [← List.reverse_reverse d]
  generalize d.reverse = e
  induction e with
  | nil => intro _; rfl
  | cons b e ih =>
    intro h
    rw [List.reverse_cons] at h ⊢
    have hb := h b (by simp)
    have h2 : Byt e.reverse := fun c hc => h c (List.mem_append_left _ hc)
    rw [fromL_snoc, List.length_append, List.length_singleton, fixedL]
    have e1 : (fromL e.reverse * 256 + b) / 256 = fromL e.reverse := by omega
    have e2 : (fromL e.reverse * 256 + b) % 256 = b := by omega
    rw [e1, e2, ih h2]
theorem from_bound : ∀ d : List Int, Byt d → 0 ≤ fromL d ∧ fromL d < 256 ^ d.length := by
  intro d
  rw [← List.reverse_reverse d]
  generalize d.reverse = e
  induction e with
  | nil => intro _; exact ⟨by decide, by decide⟩
  | cons b e ih =>
    intro h
    rw [List.reverse_cons] at h ⊢
    have hb := h b (by simp)
    have h2 : Byt e.reverse := fun c hc => h c (List.mem_append_left _ hc)
    obtain ⟨i1, i2⟩ := ih h2
    rw [fromL_snoc, List.length_append, List.length_singleton, Int.pow_succ]
    omega
/-! two lists that part at a place -/
def Div (a b : List Int) (lt : Bool) : Prop := ∃ p x y a' b', a = p ++ x :: a' ∧ b = p ++ y :: b' ∧ x ≠ y ∧ lt = decide (x < y)
theorem Div.app {a b : List Int} {lt : Bool} (h : Div a b lt) (u v : List Int) : Div (a ++ u) (b ++ v) lt := by
  obtain ⟨p, x, y, a', b', rfl, rfl, n, l⟩ := h
  exact ⟨p, x, y, a' ++ u, b' ++ v, by simp, by simp, n, l⟩
theorem Div.pre {a b : List Int} {lt : Bool} (h : Div a b lt) (u : List Int) : Div (u ++ a) (u ++ b) lt := by
  obtain ⟨p, x, y, a', b', rfl, rfl, n, l⟩ := h
  exact ⟨u ++ p, x, y, a', b', by simp, by simp, n, l⟩
theorem Div.ne {a b : List Int} {lt : Bool} (h : Div a b lt) : a ≠ b := by
  obtain ⟨p, x, y, a', b', rfl, rfl, n, l⟩ := h
  intro e
  exact n (List.cons.inj (List.append_cancel_left e)).1
theorem Div.nopre {a b : List Int} {lt : Bool} (h : Div a b lt) : b.take a.length ≠ a := by
  obtain ⟨p, x, y, a', b', rfl, rfl, n, l⟩ := h
  intro e
  rw [List.take_append, List.take_of_length_le (by simp)] at e
  have e2 := List.append_cancel_left e
  have : (p ++ x :: a').length - p.length = a'.length + 1 := by simp
  rw [this, List.take_succ_cons] at e2
  exact n (List.cons.inj e2).1.symm
theorem lex_app (p a b : List Int) : HT.lexLt (p ++ a) (p ++ b) = HT.lexLt a b := by
  induction p with
  | nil => rfl
  | cons x p ih =>
    rw [List.cons_append, List.cons_append]
    simp [HT.lexLt, ih]
theorem Div.lex {a b : List Int} {lt : Bool} (h : Div a b lt) : HT.lexLt a b = lt := by
  obtain ⟨p, x, y, a', b', rfl, rfl, n, l⟩ := h
  rw [lex_app, l]
  simp [HT.lexLt, n]
theorem lex_same (a : List Int) : HT.lexLt a a = false := by
  induction a with
  | nil => rfl
  | cons x a ih => simp [HT.lexLt, ih]
theorem fixed_div (k : Nat) : ∀ n m : Int, 0 ≤ n → n < 256 ^ k → 0 ≤ m → m < 256 ^ k → n ≠ m → Div (fixedL n k) (fixedL m k) (decide (n < m)) := by
  induction k with
  | zero => intro n m h0 h1 h2 h3 hn; simp at h1 h3; omega
  | succ k ih =>
    intro n m h0 h1 h2 h3 hn
    rw [Int.pow_succ] at h1 h3
    rw [fixedL, fixedL]
    by_cases c : n / 256 = m / 256
    · refine ⟨fixedL (n / 256) k, n % 256, m % 256, [], [], rfl, by rw [c], by omega, ?_⟩
      rw [decide_eq_decide]
      omega
    · have := ih (n / 256) (m / 256) (by omega) (by omega) (by omega) (by omega) c
      have e : decide (n < m) = decide (n / 256 < m / 256) := by rw [decide_eq_decide]; omega
      rw [e]
      exact this.app _ _
/-! keys -/
def okV : RV → Prop
  | .non => True
  | .txt l => ∀ c ∈ l, c ∈ alphabet
  | .num n => -HI ≤ n ∧ n ≤ HI
def sg (l : List Nat) : List Int := l.map fun c => ((sgn c + 2 : Nat) : Int)
def keyV : RV → List Int
  | .non => [1]
  | .txt l => 3 :: (sg l ++ [1])
  | .num n => 2 :: fixedL (n + HI) 8
def keyR (r : List RV) : List Int := r.flatMap keyV
/-- as ranks compare -/
def vlt : RV → RV → Bool
  | .non, .non => false
  | .non, _ => true
  | .num _, .non => false
  | .num n, .num m => decide (n < m)
  | .num _, .txt _ => true
  | .txt _, .non => false
  | .txt _, .num _ => false
  | .txt l, .txt m => decide (l < m)
theorem sg_div : ∀ l m : List Nat, (∀ c ∈ l, c ∈ alphabet) → (∀ c ∈ m, c ∈ alphabet) → l ≠ m → Div (sg l ++ [1]) (sg m ++ [1]) (decide (l < m))
  | [], [], _, _, h => absurd rfl h
  | [], d :: m, _, _, _ => ⟨[], 1, ((sgn d + 2 : Nat) : Int), [], sg m ++ [1], rfl, rfl, by omega, by
      have e1 : decide ((1 : Int) < ((sgn d + 2 : Nat) : Int)) = true := decide_eq_true (by omega)
      have e2 : decide (([] : List Nat) < d :: m) = true := by simp
      rw [e1, e2]⟩
  | c :: l, [], _, _, _ => ⟨[], ((sgn c + 2 : Nat) : Int), 1, sg l ++ [1], [], rfl, rfl, by omega, by
      have e1 : decide (((sgn c + 2 : Nat) : Int) < 1) = false := decide_eq_false (by omega)
      have e2 : decide (c :: l < ([] : List Nat)) = false := by simp
      rw [e1, e2]⟩
  | c :: l, d :: m, hl, hm, h => by
    have hc := hl c List.mem_cons_self
    have hd := hm d List.mem_cons_self
    by_cases e : c = d
    · subst e
      have ih := sg_div l m (fun x hx => hl x (List.mem_cons_of_mem _ hx)) (fun x hx => hm x (List.mem_cons_of_mem _ hx)) (fun q => h (by rw [q]))
      have e2 : decide (c :: l < c :: m) = decide (l < m) := by
        rw [decide_eq_decide, List.cons_lt_cons_iff]
        constructor
        · rintro (z | z)
          · omega
          · exact z.2
        · exact fun z => .inr ⟨rfl, z⟩
      rw [e2]
      exact ih.pre [((sgn c + 2 : Nat) : Int)]
    · refine ⟨[], ((sgn c + 2 : Nat) : Int), ((sgn d + 2 : Nat) : Int), sg l ++ [1], sg m ++ [1], rfl, rfl, fun q => e (sgn_inj hc hd (by omega)), ?_⟩
      rw [decide_eq_decide, List.cons_lt_cons_iff]
      have := sgn_lt hc hd
      constructor
      · rintro (z | z)
        · have := this.mpr z; omega
        · exact absurd z.1 e
      · intro z
        exact .inl (this.mp (by omega))
theorem key_div : ∀ v w : RV, okV v → okV w → v ≠ w → Div (keyV v) (keyV w) (vlt v w)
  | .non, .non, _, _, h => absurd rfl h
  | .non, .txt l, _, _, _ => ⟨[], 1, 3, [], _, rfl, rfl, by decide, rfl⟩
  | .non, .num n, _, _, _ => ⟨[], 1, 2, [], _, rfl, rfl, by decide, rfl⟩
  | .txt l, .non, _, _, _ => ⟨[], 3, 1, _, [], rfl, rfl, by decide, rfl⟩
  | .num n, .non, _, _, _ => ⟨[], 2, 1, _, [], rfl, rfl, by decide, rfl⟩
  | .txt l, .num n, _, _, _ => ⟨[], 3, 2, _, _, rfl, rfl, by decide, rfl⟩
  | .num n, .txt l, _, _, _ => ⟨[], 2, 3, _, _, rfl, rfl, by decide, rfl⟩
  | .txt l, .txt m, hl, hm, h => (sg_div l m hl hm (fun e => h (by rw [e]))).pre [3]
  | .num n, .num m, hn, hm, h => by
    have hn' : -HI ≤ n ∧ n ≤ HI := hn
    have hm' : -HI ≤ m ∧ m ≤ HI := hm
    have hne : n + HI ≠ m + HI := fun e => h (by rw [show n = m by omega])
    have := fixed_div 8 (n + HI) (m + HI) (by omega) (Int.lt_of_le_of_lt (by omega : n + HI ≤ 2 * HI) (by decide)) (by omega) (Int.lt_of_le_of_lt (by omega : m + HI ≤ 2 * HI) (by decide)) hne
    have e : decide (n + HI < m + HI) = decide (n < m) := by rw [decide_eq_decide]; omega
    rw [e] at this
    exact this.pre [2]
/-- rows of as many values -/
def rlt : List RV → List RV → Bool
  | v :: r, w :: s => if v = w then rlt r s else vlt v w
  | [], _ :: _ => true
  | _, [] => false
theorem row_div : ∀ r s : List RV, r.length = s.length → (∀ v ∈ r, okV v) → (∀ v ∈ s, okV v) → r ≠ s → Div (keyR r) (keyR s) (rlt r s)
  | [], [], _, _, _, h => absurd rfl h
  | v :: r, w :: s, hl, hr, hs, h => by
    show Div (keyV v ++ keyR r) (keyV w ++ keyR s) _
    by_cases e : v = w
    · subst e
      rw [rlt, if_pos rfl]
      exact (row_div r s (by simpa using hl) (fun x hx => hr x (List.mem_cons_of_mem _ hx)) (fun x hx => hs x (List.mem_cons_of_mem _ hx)) (fun q => h (by rw [q]))).pre _
    · rw [rlt, if_neg e]
      exact (key_div v w (hr v List.mem_cons_self) (hs w List.mem_cons_self) e).app _ _
theorem rlt_same (r : List RV) : rlt r r = false := by
  induction r with
  | nil => rfl
  | cons v r ih => rw [rlt, if_pos rfl, ih]
theorem row_lex {r s : List RV} (hl : r.length = s.length) (hr : ∀ v ∈ r, okV v) (hs : ∀ v ∈ s, okV v) : HT.lexLt (keyR r) (keyR s) = rlt r s := by
  by_cases e : r = s
  · subst e
    rw [lex_same, rlt_same]
  · exact (row_div r s hl hr hs e).lex
end M5
end

section
-- part K05N
set_option Elab.async false
set_option linter.all false
set_option maxRecDepth 100000
set_option maxHeartbeats 2000000
/-! K05N: reading back; core Lean -/
namespace M5
open PySem PySem.Spec PyProof.Rows L2 Fw
/-- one sign's number read; none: no such sign -/
def chr (b : Int) : Option Nat := if 0 ≤ b ∧ b < 95 then alphabet[b.toNat]? else none
theorem chr_sgn {c : Nat} (h : c ∈ alphabet) : chr (sgn c : Int) = some c := by
  have h2 := sgn_ok h
  rw [chr, if_pos (by omega)]
  exact h2.2
theorem chr_ok {b : Int} {c : Nat} (h : chr b = some c) : c ∈ alphabet ∧ (sgn c : Int) = b := by
  rw [chr] at h
  split at h
  · rename_i h1
    obtain ⟨d, hd, e, s⟩ := sgn_at (i := b.toNat) (by omega)
    rw [e] at h
    cases h
    exact ⟨hd, by omega⟩
  · cases h
theorem chr_none {b : Int} (h : chr b = none) : ¬ (0 ≤ b ∧ b < 95) := fun h1 => by
  rw [chr, if_pos h1] at h
  obtain ⟨d, hd, e, s⟩ := sgn_at (i := b.toNat) (by omega)
  rw [e] at h
  cases h
/-- a text's signs up to the byte 1, and how many bytes it takes with it -/
def tfk : List Int → Option (List Nat × Nat)
  | [] => none
  | b :: r => if b = 1 then some ([], 1) else match chr (b - 2) with
    | none => none
    | some c => (tfk r).map fun q => (c :: q.1, q.2 + 1)
/-- a value from a key's bytes, and how many it takes -/
def vfk : List Int → Option (RV × Nat)
  | [] => none
  | b :: r =>
    if b = 1 then some (.non, 1)
    else if b = 2 then (if r.length < 8 then none else if HI < fromL (r.take 8) - HI then none else some (.num (fromL (r.take 8) - HI), 9))
    else if b = 3 then (tfk r).map fun q => (.txt q.1, q.2 + 1)
    else none
theorem tfk_len : ∀ {d : List Int} {l : List Nat} {k : Nat}, tfk d = some (l, k) → 0 < k ∧ k ≤ d.length
  | [], l, k, h => by cases h
  | b :: r, l, k, h => by
    rw [tfk] at h
    split at h
    · cases h; simp
    · split at h
      · cases h
      · obtain ⟨⟨l', k'⟩, h1, h2⟩ := Option.map_eq_some_iff.mp h
        cases h2
        have := tfk_len h1
        simp only [List.length_cons]
        omega
theorem vfk_len {d : List Int} {v : RV} {k : Nat} (h : vfk d = some (v, k)) : 0 < k ∧ k ≤ d.length := by
  cases d with
  | nil => cases h
  | cons b r =>
    rw [vfk] at h
    split at h
    · cases h; simp
    · split at h
      · split at h
        · cases h
        · split at h
          · cases h
          · cases h; simp only [List.length_cons]; omega
      · split at h
        · obtain ⟨⟨l', k'⟩, h1, h2⟩ := Option.map_eq_some_iff.mp h
          cases h2
          have := tfk_len h1
          simp only [List.length_cons]
          omega
        · cases h
theorem tfk_sg : ∀ (l : List Nat) (r : List Int), (∀ c ∈ l, c ∈ alphabet) → tfk (sg l ++ 1 :: r) = some (l, l.length + 1)
  | [], r, _ => by
    show tfk (1 :: r) = _
    rw [tfk, if_pos rfl]
    rfl
  | c :: l, r, h => by
    have ih := tfk_sg l r fun x hx => h x (List.mem_cons_of_mem _ hx)
    show tfk (((sgn c + 2 : Nat) : Int) :: (sg l ++ 1 :: r)) = _
    have e : ((sgn c + 2 : Nat) : Int) - 2 = (sgn c : Int) := by omega
    rw [tfk, if_neg (by omega), e, chr_sgn (h c List.mem_cons_self), ih]
    rfl
theorem vfk_key (v : RV) (r : List Int) (h : okV v) : vfk (keyV v ++ r) = some (v, (keyV v).length) := by
  cases v with
  | non =>
    show vfk (1 :: r) = _
    rw [vfk, if_pos rfl]
    rfl
  | txt l =>
    show vfk (3 :: (sg l ++ [1] ++ r)) = _
    rw [vfk, if_neg (by decide), if_neg (by decide), if_pos rfl, List.append_assoc]
    show Option.map _ (tfk (sg l ++ 1 :: r)) = _
    rw [tfk_sg l r h]
    show some (RV.txt l, l.length + 1 + 1) = some (RV.txt l, (3 :: (sg l ++ [1])).length)
    simp [sg]
  | num n =>
    have hn : -HI ≤ n ∧ n ≤ HI := h
    have e8 : ((fixedL (n + HI) 8) ++ r).take 8 = fixedL (n + HI) 8 := by
      rw [List.take_append, List.take_of_length_le (by rw [fixed_len]; exact Nat.le_refl _), fixed_len]
      simp
    have ef := from_fixed 8 (n + HI) (by omega) (Int.lt_of_le_of_lt (by omega : n + HI ≤ 2 * HI) (by decide))
    show vfk (2 :: (fixedL (n + HI) 8 ++ r)) = _
    rw [vfk, if_neg (by decide), if_pos rfl, if_neg (by rw [List.length_append, fixed_len]; omega), e8, ef, if_neg (by omega)]
    have e9 : n + HI - HI = n := by omega
    rw [e9]
    show some (RV.num n, 9) = some (RV.num n, (2 :: fixedL (n + HI) 8).length)
    rw [List.length_cons, fixed_len]
theorem tfk_back : ∀ {d : List Int} {l : List Nat} {k : Nat}, tfk d = some (l, k) → (∀ c ∈ l, c ∈ alphabet) ∧ sg l ++ [1] = d.take k ∧ l.length ≤ k
  | [], l, k, h => by cases h
  | b :: r, l, k, h => by
    rw [tfk] at h
    split at h
    · rename_i e
      cases h
      subst e
      exact ⟨fun c hc => absurd hc List.not_mem_nil, rfl, Nat.zero_le _⟩
    · split at h
      · cases h
      · rename_i c hc
        obtain ⟨⟨l', k'⟩, h1, h2⟩ := Option.map_eq_some_iff.mp h
        cases h2
        obtain ⟨i1, i2, i3⟩ := tfk_back h1
        obtain ⟨c1, c2⟩ := chr_ok hc
        refine ⟨fun x hx => ?_, ?_, ?_⟩
        · rcases List.mem_cons.mp hx with rfl | hx
          · exact c1
          · exact i1 x hx
        · rw [List.take_succ_cons, ← i2]
          show ((sgn c + 2 : Nat) : Int) :: (sg l' ++ [1]) = _
          rw [show ((sgn c + 2 : Nat) : Int) = b by omega]
        · show l'.length + 1 ≤ k' + 1
          omega
theorem vfk_back {d : List Int} {v : RV} {k : Nat} (hb : Byt d) (h : vfk d = some (v, k)) : okV v ∧ keyV v = d.take k := by
  cases d with
  | nil => cases h
  | cons b r =>
    rw [vfk] at h
    split at h
    · rename_i e
      cases h
      subst e
      exact ⟨trivial, rfl⟩
    · split at h
      · rename_i e
        subst e
        split at h
        · cases h
        · rename_i hl
          split at h
          · cases h
          · rename_i hh
            cases h
            have h8 : (r.take 8).length = 8 := by rw [List.length_take]; omega
            have hb8 : Byt (r.take 8) := fun c hc => hb c (List.mem_cons_of_mem _ (List.mem_of_mem_take hc))
            have bd := from_bound _ hb8
            have ff := fixed_from _ hb8
            rw [h8] at ff
            refine ⟨⟨by omega, by omega⟩, ?_⟩
            show 2 :: fixedL (fromL (r.take 8) - HI + HI) 8 = _
            rw [show fromL (r.take 8) - HI + HI = fromL (r.take 8) by omega, ff]
            rfl
      · split at h
        · rename_i e
          subst e
          obtain ⟨⟨l', k'⟩, h1, h2⟩ := Option.map_eq_some_iff.mp h
          cases h2
          obtain ⟨i1, i2, _⟩ := tfk_back h1
          exact ⟨i1, by rw [List.take_succ_cons, ← i2]; rfl⟩
        · cases h
/-- all values of a key; the fuel: more than its bytes -/
def vsk : Nat → List Int → Option (List RV)
  | 0, _ => none
  | f + 1, d => if d = [] then some [] else match vfk d with
    | none => none
    | some (v, k) => (vsk f (d.drop k)).map (v :: ·)
theorem vsk_key : ∀ (r : List RV) (f : Nat), (∀ v ∈ r, okV v) → r.length < f → vsk f (keyR r) = some r
  | [], f + 1, _, _ => by rw [vsk]; rfl
  | v :: r, f + 1, h, hf => by
    have hv := vfk_key v (keyR r) (h v List.mem_cons_self)
    have ne : keyR (v :: r) ≠ [] := by cases v <;> simp [keyR, keyV]
    have e : keyR (v :: r) = keyV v ++ keyR r := rfl
    rw [vsk, if_neg ne, e, hv]
    show Option.map _ (vsk f ((keyV v ++ keyR r).drop (keyV v).length)) = _
    rw [List.drop_append, List.drop_of_length_le (Nat.le_refl _), Nat.sub_self, List.drop_zero, List.nil_append, vsk_key r f (fun x hx => h x (List.mem_cons_of_mem _ hx)) (by simpa using hf)]
    rfl
theorem byt_drop {d : List Int} (h : Byt d) (k : Nat) : Byt (d.drop k) := fun b hb => h b (List.mem_of_mem_drop hb)
theorem vsk_back : ∀ {f : Nat} {d : List Int} {r : List RV}, Byt d → vsk f d = some r → (∀ v ∈ r, okV v) ∧ keyR r = d ∧ r.length ≤ d.length
  | 0, d, r, _, h => by cases h
  | f + 1, d, r, hb, h => by
    rw [vsk] at h
    split at h
    · rename_i e
      cases h
      subst e
      exact ⟨fun v hv => absurd hv List.not_mem_nil, rfl, Nat.le_refl _⟩
    · split at h
      · cases h
      · rename_i v k hv
        obtain ⟨r', h1, h2⟩ := Option.map_eq_some_iff.mp h
        subst h2
        obtain ⟨i1, i2, i3⟩ := vsk_back (byt_drop hb k) h1
        obtain ⟨o1, o2⟩ := vfk_back hb hv
        have kl := vfk_len hv
        refine ⟨fun x hx => ?_, ?_, ?_⟩
        · rcases List.mem_cons.mp hx with rfl | hx
          · exact o1
          · exact i1 x hx
        · show keyV v ++ keyR r' = d
          rw [o2, i2, List.take_append_drop]
        · rw [List.length_drop] at i3
          rw [List.length_cons]
          omega
/-! natural numbers -/
def nat7 (n : Nat) : List Int := if n < 128 then [(n : Int)] else ((n % 128 + 128 : Nat) : Int) :: nat7 (n / 128)
termination_by n
theorem nat7_lt {n : Nat} (h : n < 128) : nat7 n = [(n : Int)] := by rw [nat7, if_pos h]
theorem nat7_ge {n : Nat} (h : ¬ n < 128) : nat7 n = ((n % 128 + 128 : Nat) : Int) :: nat7 (n / 128) := by rw [nat7, if_neg h]
/-- a number read: the flag: nothing is read yet -/
def nf : Bool → List Int → Option (Nat × Nat)
  | _, [] => none
  | f, b :: r => if b < 128 then (if b = 0 ∧ f = false then none else some ((b % 128).toNat, 1)) else (nf false r).map fun q => ((b % 128).toNat + 128 * q.1, q.2 + 1)
theorem nf_len : ∀ {f : Bool} {d : List Int} {m k : Nat}, nf f d = some (m, k) → 0 < k ∧ k ≤ d.length
  | f, [], m, k, h => by cases f <;> cases h
  | f, b :: r, m, k, h => by
    rw [nf] at h
    split at h
    · split at h
      · cases h
      · cases h; simp
    · obtain ⟨⟨m', k'⟩, h1, h2⟩ := Option.map_eq_some_iff.mp h
      cases h2
      have := nf_len h1
      simp only [List.length_cons]
      omega
theorem nf_nat7 (n : Nat) : ∀ (f : Bool) (r : List Int), (f = true ∨ n ≠ 0) → nf f (nat7 n ++ r) = some (n, (nat7 n).length) := by
  induction n using Nat.strongRecOn with
  | _ n ih =>
    intro f r h
    by_cases c : n < 128
    · rw [nat7_lt c]
      show nf f ((n : Int) :: r) = _
      have c2 : ¬ ((n : Int) = 0 ∧ f = false) := fun q => by
        rcases h with h | h
        · rw [h] at q; cases q.2
        · omega
      rw [nf, if_pos (by omega), if_neg c2]
      show some (((n : Int) % 128).toNat, 1) = some (n, 1)
      rw [show ((n : Int) % 128).toNat = n by omega]
    · rw [nat7_ge c]
      show nf f (((n % 128 + 128 : Nat) : Int) :: (nat7 (n / 128) ++ r)) = _
      rw [nf, if_neg (by omega), ih (n / 128) (by omega) false r (.inr (by omega))]
      show some ((((n % 128 + 128 : Nat) : Int) % 128).toNat + 128 * (n / 128), (nat7 (n / 128)).length + 1) = some (n, (nat7 (n / 128)).length + 1)
      rw [show (((n % 128 + 128 : Nat) : Int) % 128).toNat + 128 * (n / 128) = n by omega]
theorem nf_back : ∀ {f : Bool} {d : List Int} {m k : Nat}, Byt d → nf f d = some (m, k) → nat7 m = d.take k ∧ (f = true ∨ m ≠ 0)
  | f, [], m, k, _, h => by cases f <;> cases h
  | f, b :: r, m, k, hb, h => by
    have b1 := hb b List.mem_cons_self
    rw [nf] at h
    split at h
    · rename_i c
      split at h
      · cases h
      · rename_i c2
        cases h
        refine ⟨?_, ?_⟩
        · rw [nat7_lt (by omega)]
          show [(((b % 128).toNat : Nat) : Int)] = [b]
          rw [show (((b % 128).toNat : Nat) : Int) = b by omega]
        · cases f with
          | true => exact .inl rfl
          | false => exact .inr fun e => c2 ⟨by omega, rfl⟩
    · rename_i c
      obtain ⟨⟨m', k'⟩, h1, h2⟩ := Option.map_eq_some_iff.mp h
      cases h2
      obtain ⟨i1, i2⟩ := nf_back (fun x hx => hb x (List.mem_cons_of_mem _ hx)) h1
      have hm : m' ≠ 0 := by
        rcases i2 with i2 | i2
        · cases i2
        · exact i2
      refine ⟨?_, .inr (by omega)⟩
      rw [List.take_succ_cons, ← i1, nat7_ge (by omega)]
      rw [show (((((b % 128).toNat + 128 * m') % 128 + 128 : Nat)) : Int) = b by omega, show ((b % 128).toNat + 128 * m') / 128 = m' by omega]
theorem nat7_byt (n : Nat) : Byt (nat7 n) := by
  induction n using Nat.strongRecOn with
  | _ n ih =>
    by_cases c : n < 128
    · rw [nat7_lt c]
      intro b hb
      rw [List.mem_singleton.mp hb]
      omega
    · rw [nat7_ge c]
      intro b hb
      rcases List.mem_cons.mp hb with rfl | hb
      · omega
      · exact ih (n / 128) (by omega) b hb
theorem nat7_len (k : Nat) : ∀ n : Nat, n < 128 ^ (k + 1) → (nat7 n).length ≤ k + 1 := by
  induction k with
  | zero => intro n h; rw [nat7_lt (by simpa using h)]; exact Nat.le_refl _
  | succ k ih =>
    intro n h
    by_cases c : n < 128
    · rw [nat7_lt c]; simp
    · rw [nat7_ge c, List.length_cons]
      have := ih (n / 128) (by rw [Nat.pow_succ] at h; omega)
      omega
end M5
end

section
-- part K05R
set_option Elab.async false
set_option linter.all false
set_option maxRecDepth 100000
set_option maxHeartbeats 2000000
/-! K05R: records; core Lean -/
namespace M5
open PySem PySem.Spec PyProof.Rows L2 Fw
def zz (n : Int) : Nat := if 0 ≤ n then (2 * n).toNat else (-2 * n - 1).toNat
def uz (m : Nat) : Int := if m % 2 = 0 then (m / 2 : Nat) else -((m + 1) / 2 : Nat)
theorem uz_zz (n : Int) : uz (zz n) = n := by
  unfold uz zz
  split <;> split <;> omega
theorem zz_uz (m : Nat) : zz (uz m) = m := by
  unfold uz zz
  split <;> split <;> omega
def sgR (l : List Nat) : List Int := l.map fun c => ((sgn c : Nat) : Int)
def recV : RV → List Int
  | .non => [1]
  | .txt l => 3 :: (nat7 l.length ++ sgR l)
  | .num n => 2 :: nat7 (zz n)
def recR (r : List RV) : List Int := nat7 r.length ++ r.flatMap recV
def sgs : List Int → Option (List Nat)
  | [] => some []
  | b :: r => match chr b with
    | none => none
    | some c => (sgs r).map (c :: ·)
theorem sgs_sg : ∀ l : List Nat, (∀ c ∈ l, c ∈ alphabet) → sgs (sgR l) = some l
  | [], _ => rfl
  | c :: l, h => by
    show sgs (((sgn c : Nat) : Int) :: sgR l) = _
    rw [sgs, chr_sgn (h c List.mem_cons_self), sgs_sg l fun x hx => h x (List.mem_cons_of_mem _ hx)]
    rfl
theorem sgs_back : ∀ {d : List Int} {l : List Nat}, sgs d = some l → (∀ c ∈ l, c ∈ alphabet) ∧ sgR l = d
  | [], l, h => by cases h; exact ⟨fun c hc => absurd hc List.not_mem_nil, rfl⟩
  | b :: r, l, h => by
    rw [sgs] at h
    split at h
    · cases h
    · rename_i c hc
      obtain ⟨l', h1, h2⟩ := Option.map_eq_some_iff.mp h
      subst h2
      obtain ⟨i1, i2⟩ := sgs_back h1
      obtain ⟨c1, c2⟩ := chr_ok hc
      refine ⟨fun x hx => ?_, ?_⟩
      · rcases List.mem_cons.mp hx with rfl | hx
        · exact c1
        · exact i1 x hx
      · show (sgn c : Int) :: sgR l' = _
        rw [c2, i2]
/-- a value from a record's bytes, and how many it takes -/
def vfr : List Int → Option (RV × Nat)
  | [] => none
  | b :: r => if b = 1 then some (.non, 1) else match nf true r with
    | none => none
    | some (m, k) =>
      if b = 2 then (if -HI ≤ uz m ∧ uz m ≤ HI then some (.num (uz m), k + 1) else none)
      else if b ≠ 3 ∨ (r.drop k).length < m then none
      else (sgs ((r.drop k).take m)).map fun l => (.txt l, k + 1 + m)
theorem vfr_len {d : List Int} {v : RV} {k : Nat} (h : vfr d = some (v, k)) : 0 < k ∧ k ≤ d.length := by
  cases d with
  | nil => cases h
  | cons b r =>
    rw [vfr] at h
    split at h
    · cases h; simp
    · split at h
      · cases h
      · rename_i m k' hn
        have := nf_len hn
        split at h
        · split at h
          · cases h; simp only [List.length_cons]; omega
          · cases h
        · split at h
          · cases h
          · rename_i c
            obtain ⟨l, h1, h2⟩ := Option.map_eq_some_iff.mp h
            cases h2
            rw [List.length_drop] at c
            simp only [List.length_cons]
            omega
theorem vfr_rec (v : RV) (r : List Int) (h : okV v) : vfr (recV v ++ r) = some (v, (recV v).length) := by
  cases v with
  | non =>
    show vfr (1 :: r) = _
    rw [vfr, if_pos rfl]
    rfl
  | num n =>
    have hn : -HI ≤ n ∧ n ≤ HI := h
    show vfr (2 :: (nat7 (zz n) ++ r)) = _
    rw [vfr, if_neg (by decide), nf_nat7 _ true r (.inl rfl)]
    dsimp only
    rw [if_pos rfl, uz_zz, if_pos hn]
    rfl
  | txt l =>
    have e1 : (nat7 l.length ++ sgR l ++ r).drop (nat7 l.length).length = sgR l ++ r := by
      rw [List.append_assoc, List.drop_append, List.drop_of_length_le (Nat.le_refl _), Nat.sub_self, List.drop_zero, List.nil_append]
    have el : (sgR l).length = l.length := by simp [sgR]
    have e2 : (sgR l ++ r).take l.length = sgR l := by rw [← el]; simp
    show vfr (3 :: (nat7 l.length ++ sgR l ++ r)) = _
    rw [vfr, if_neg (by decide), List.append_assoc, nf_nat7 _ true _ (.inl rfl), ← List.append_assoc]
    dsimp only
    rw [if_neg (by decide), e1, if_neg (by rw [List.length_append, el]; intro q; rcases q with q | q; exact q rfl; omega), e2, sgs_sg l h]
    show some (RV.txt l, (nat7 l.length).length + 1 + l.length) = some (RV.txt l, (3 :: (nat7 l.length ++ sgR l)).length)
    rw [List.length_cons, List.length_append, el, show (nat7 l.length).length + 1 + l.length = (nat7 l.length).length + l.length + 1 by omega]
theorem vfr_back {d : List Int} {v : RV} {k : Nat} (hb : Byt d) (h : vfr d = some (v, k)) : okV v ∧ recV v = d.take k := by
  cases d with
  | nil => cases h
  | cons b r =>
    have hbr : Byt r := fun x hx => hb x (List.mem_cons_of_mem _ hx)
    rw [vfr] at h
    split at h
    · rename_i e
      cases h
      subst e
      exact ⟨trivial, rfl⟩
    · split at h
      · cases h
      · rename_i m k' hn
        obtain ⟨n1, _⟩ := nf_back hbr hn
        have nl := nf_len hn
        split at h
        · rename_i e
          subst e
          split at h
          · rename_i c
            cases h
            refine ⟨c, ?_⟩
            show 2 :: nat7 (zz (uz m)) = _
            rw [zz_uz, n1, List.take_succ_cons]
          · cases h
        · split at h
          · cases h
          · rename_i c
            obtain ⟨l, h1, h2⟩ := Option.map_eq_some_iff.mp h
            cases h2
            obtain ⟨i1, i2⟩ := sgs_back h1
            have b3 : b = 3 := by
              by_cases q : b = 3
              · exact q
              · exact absurd (.inl q) c
            subst b3
            have el : l.length = m := by
              have e3 : (sgR l).length = l.length := by simp [sgR]
              rw [← e3, i2, List.length_take]
              rw [List.length_drop] at c
              rw [List.length_drop]
              omega
            refine ⟨i1, ?_⟩
            show 3 :: (nat7 l.length ++ sgR l) = _
            rw [el, n1, i2, show k' + 1 + m = (k' + m) + 1 by omega, List.take_succ_cons, List.take_add]
/-- so many values of a record, and the bytes they take -/
def vsr : Nat → List Int → Option (List RV × Nat)
  | 0, _ => some ([], 0)
  | n + 1, d => match vfr d with
    | none => none
    | some (v, k) => (vsr n (d.drop k)).map fun q => (v :: q.1, k + q.2)
theorem vsr_rec : ∀ (r : List RV) (t : List Int), (∀ v ∈ r, okV v) → vsr r.length (r.flatMap recV ++ t) = some (r, (r.flatMap recV).length)
  | [], t, _ => rfl
  | v :: r, t, h => by
    have e : (v :: r).flatMap recV ++ t = recV v ++ (r.flatMap recV ++ t) := by simp
    rw [e, List.length_cons, vsr, vfr_rec v _ (h v List.mem_cons_self)]
    dsimp only
    rw [List.drop_append, List.drop_of_length_le (Nat.le_refl _), Nat.sub_self, List.drop_zero, List.nil_append, vsr_rec r t fun x hx => h x (List.mem_cons_of_mem _ hx)]
    show some (v :: r, (recV v).length + (r.flatMap recV).length) = some (v :: r, ((v :: r).flatMap recV).length)
    simp
theorem vsr_back : ∀ {n : Nat} {d : List Int} {r : List RV} {k : Nat}, Byt d → vsr n d = some (r, k) → (∀ v ∈ r, okV v) ∧ r.flatMap recV = d.take k ∧ r.length = n ∧ n ≤ k ∧ k ≤ d.length
  | 0, d, r, k, _, h => by cases h; exact ⟨fun v hv => absurd hv List.not_mem_nil, by simp, rfl, Nat.le_refl _, Nat.zero_le _⟩
  | n + 1, d, r, k, hb, h => by
    rw [vsr] at h
    split at h
    · cases h
    · rename_i v k1 hv
      obtain ⟨⟨r', k2⟩, h1, h2⟩ := Option.map_eq_some_iff.mp h
      cases h2
      obtain ⟨i1, i2, i3, i4, i5⟩ := vsr_back (byt_drop hb k1) h1
      obtain ⟨o1, o2⟩ := vfr_back hb hv
      have kl := vfr_len hv
      rw [List.length_drop] at i5
      refine ⟨fun x hx => ?_, ?_, by rw [List.length_cons, i3], by omega, by omega⟩
      · rcases List.mem_cons.mp hx with rfl | hx
        · exact o1
        · exact i1 x hx
      · show recV v ++ r'.flatMap recV = _
        rw [o2, i2, ← List.take_add]
/-- a row from a record -/
def rowOf (d : List Int) : Option (List RV) := match nf true d with
  | none => none
  | some (m, k) => match vsr m (d.drop k) with
    | none => none
    | some (r, j) => if k + j = d.length then some r else none
theorem rowOf_rec {r : List RV} (h : ∀ v ∈ r, okV v) : rowOf (recR r) = some r := by
  have e := vsr_rec r [] h
  rw [List.append_nil] at e
  rw [rowOf, recR, nf_nat7 _ true _ (.inl rfl)]
  dsimp only
  rw [List.drop_append, List.drop_of_length_le (Nat.le_refl _), Nat.sub_self, List.drop_zero, List.nil_append, e]
  dsimp only
  rw [if_pos (by rw [List.length_append])]
theorem rowOf_back {d : List Int} {r : List RV} (hb : Byt d) (h : rowOf d = some r) : (∀ v ∈ r, okV v) ∧ recR r = d ∧ r.length ≤ d.length := by
  rw [rowOf] at h
  split at h
  · cases h
  · rename_i m k hn
    split at h
    · cases h
    · rename_i r' j hv
      split at h
      · rename_i e
        cases h
        obtain ⟨n1, _⟩ := nf_back hb hn
        obtain ⟨i1, i2, i3, i4, i5⟩ := vsr_back (byt_drop hb k) hv
        refine ⟨i1, ?_, by omega⟩
        rw [List.length_drop] at i5
        have e3 : (d.drop k).take j = d.drop k := List.take_of_length_le (by rw [List.length_drop]; omega)
        rw [recR, i3, n1, i2, e3, List.take_append_drop]
      · cases h
theorem sgR_byt {l : List Nat} (h : ∀ c ∈ l, c ∈ alphabet) : Byt (sgR l) := by
  intro b hb
  obtain ⟨c, hc, rfl⟩ := List.mem_map.mp hb
  have := (sgn_ok (h c hc)).1
  omega
theorem recV_byt {v : RV} (h : okV v) : Byt (recV v) := by
  cases v with
  | non => intro b hb; rw [List.mem_singleton.mp hb]; decide
  | num n =>
    intro b hb
    rcases List.mem_cons.mp hb with rfl | hb
    · decide
    · exact nat7_byt _ b hb
  | txt l =>
    intro b hb
    rcases List.mem_cons.mp hb with rfl | hb
    · decide
    · rcases List.mem_append.mp hb with hb | hb
      · exact nat7_byt _ b hb
      · exact sgR_byt h b hb
theorem recR_byt {r : List RV} (h : ∀ v ∈ r, okV v) : Byt (recR r) := by
  intro b hb
  rcases List.mem_append.mp hb with hb | hb
  · exact nat7_byt _ b hb
  · obtain ⟨v, hv, hb⟩ := List.mem_flatMap.mp hb
    exact recV_byt (h v hv) b hb
/-! the least key above a prefix -/
def upLen (d : List Int) : Nat := (d.reverse.dropWhile (· == 255)).length
theorem upLen_le (d : List Int) : upLen d ≤ d.length := by
  unfold upLen
  have := List.dropWhile_sublist (p := (· == (255 : Int))) (l := d.reverse)
  have := this.length_le
  simpa using this
theorem upLen_snoc (d : List Int) (b : Int) : upLen (d ++ [b]) = if b = 255 then upLen d else d.length + 1 := by
  unfold upLen
  rw [List.reverse_append, List.reverse_singleton, List.singleton_append, List.dropWhile_cons]
  by_cases h : b = 255
  · simp [h]
  · simp [h]
theorem upLen_pos {d : List Int} {b : Int} (h : b ∈ d) (hb : b ≠ 255) : 0 < upLen d := by
  rw [← List.reverse_reverse d] at h ⊢
  generalize d.reverse = e at *
  induction e with
  | nil => cases h
  | cons c e ih =>
    rw [List.reverse_cons] at h ⊢
    rw [upLen_snoc]
    split
    · rename_i q
      refine ih ?_
      rcases List.mem_append.mp h with h | h
      · exact h
      · rw [List.mem_singleton.mp h] at hb
        exact absurd q hb
    · omega
def upper (d : List Int) : Option (List Int) := if upLen d = 0 then none else some (d.take (upLen d - 1) ++ [d.getD (upLen d - 1) 0 + 1])
theorem upper_ok {d : List Int} (h : 0 < upLen d) (q : List Int) : ∃ u, upper d = some u ∧ HT.lexLt (d ++ q) u = true ∧ u.length = upLen d ∧ u.take (upLen d - 1) = d.take (upLen d - 1) := by
  have hl := upLen_le d
  refine ⟨d.take (upLen d - 1) ++ [d.getD (upLen d - 1) 0 + 1], by rw [upper, if_neg (by omega)], ?_, ?_, ?_⟩
  · have hlt : upLen d - 1 < d.length := by omega
    have e : d = d.take (upLen d - 1) ++ d[upLen d - 1] :: d.drop (upLen d - 1 + 1) := by
      rw [← List.drop_eq_getElem_cons hlt, List.take_append_drop]
    have e2 : d.getD (upLen d - 1) 0 = d[upLen d - 1] := by simp [List.getD, List.getElem?_eq_getElem hlt]
    have dv : Div (d ++ q) (d.take (upLen d - 1) ++ [d.getD (upLen d - 1) 0 + 1]) true :=
      ⟨d.take (upLen d - 1), d[upLen d - 1], d.getD (upLen d - 1) 0 + 1, d.drop (upLen d - 1 + 1) ++ q, [], by
        have e4 : d ++ q = (d.take (upLen d - 1) ++ d[upLen d - 1] :: d.drop (upLen d - 1 + 1)) ++ q := by rw [← e]
        rw [e4, List.append_assoc, List.cons_append], rfl, by rw [e2]; omega, by rw [e2]; exact (decide_eq_true (by omega)).symm⟩
    exact dv.lex
  · rw [List.length_append, List.length_take, List.length_singleton]
    omega
  · rw [List.take_append, List.take_take, Nat.min_self, List.length_take, show upLen d - 1 - min (upLen d - 1) d.length = 0 by omega, List.take_zero, List.append_nil]
end M5
end

section
-- part K10M
set_option Elab.async false
set_option linter.all false
set_option maxRecDepth 100000
set_option maxHeartbeats 2000000
/-! K10M: frames, records and groups of a log; core Lean -/
namespace M10
open M5
abbrev Img := Nat × List Int
abbrev Grp := Nat × List Img
def ckStep (s : Int × Int) (b : Int) : Int × Int := ((s.1 + b) % 65521, (s.2 + (s.1 + b) % 65521) % 65521)
def ck (d : List Int) : Int × Int := d.foldl ckStep (1, 0)
def sum4 (p : List Int) : List Int := fixedL (65536 * (ck p).2 + (ck p).1) 4
def frameL (p : List Int) : List Int := fixedL (p.length : Int) 4 ++ (p ++ sum4 p)
theorem frame_len (p : List Int) : (frameL p).length = p.length + 8 := by
  simp only [frameL, sum4, List.length_append, fixed_len]
  omega
theorem drop_lt {d : List Int} {n : Nat} (h : 4 ≤ d.length) : (d.drop (n + 8)).length < d.length := by
  rw [List.length_drop]
  omega
/-- the bytes of a log's records -/
def frs (d : List Int) : List (List Int) :=
  if h : 4 ≤ d.length then
    if d.length < (fromL (d.take 4)).toNat + 8 ∨ (d.drop ((fromL (d.take 4)).toNat + 4)).take 4 ≠ sum4 ((d.drop 4).take (fromL (d.take 4)).toNat) then []
    else (d.drop 4).take (fromL (d.take 4)).toNat :: frs (d.drop ((fromL (d.take 4)).toNat + 8))
  else []
termination_by d.length
decreasing_by exact drop_lt h
inductive Rc where
  | img (n : Nat) (b : List Int)
  | fin (n : Nat)
def recO : List Int → Option Rc
  | [] => none
  | b :: r => if b = 1 ∨ b = 2 then (match nf true r with
    | none => none
    | some (m, k) => if b = 1 then some (.img m (r.drop k)) else if k = r.length then some (.fin m) else none) else none
def grs : List (List Int) → List Img → List Grp
  | [], _ => []
  | p :: ps, im => match recO p with
    | none => []
    | some (.img n b) => grs ps (im ++ [(n, b)])
    | some (.fin n) => (n, im) :: grs ps []
def imgP (i : Img) : List Int := 1 :: (nat7 i.1 ++ i.2)
def endP (n : Nat) : List Int := 2 :: nat7 n
def grpB (g : Grp) : List Int := g.2.flatMap (fun i => frameL (imgP i)) ++ frameL (endP g.1)
def logB (gs : List Grp) : List Int := gs.flatMap grpB
def Fits (p : List Int) : Prop := p.length < 256 ^ 4
theorem frs_frame {p : List Int} (h : Fits p) (r : List Int) : frs (frameL p ++ r) = p :: frs r := by
  have e4 : (frameL p ++ r).take 4 = fixedL (p.length : Int) 4 := by
    rw [frameL, List.append_assoc, List.take_append_of_le_length (by rw [fixed_len]; exact Nat.le_refl _), List.take_of_length_le (by rw [fixed_len]; exact Nat.le_refl _)]
  have hp : ((p.length : Nat) : Int) < 256 ^ 4 := by
    have h : p.length < 256 ^ 4 := h
    have e : (256 : Nat) ^ 4 = 4294967296 := by decide
    have e2 : (256 : Int) ^ 4 = 4294967296 := by decide
    omega
  have en : (fromL ((frameL p ++ r).take 4)).toNat = p.length := by
    rw [e4, from_fixed 4 _ (by omega) hp]
    rfl
  have hl := frame_len p
  have d4 : (frameL p ++ r).drop 4 = p ++ (sum4 p ++ r) := by
    rw [frameL, List.append_assoc, List.drop_append_of_le_length (by rw [fixed_len]; exact Nat.le_refl _), List.drop_of_length_le (by rw [fixed_len]; exact Nat.le_refl _)]
    simp
  have dp : ((frameL p ++ r).drop 4).take p.length = p := by rw [d4]; simp
  have ds : ((frameL p ++ r).drop (p.length + 4)).take 4 = sum4 p := by
    rw [show p.length + 4 = 4 + p.length by omega, ← List.drop_drop, d4]
    have l4 : (sum4 p).length = 4 := fixed_len _ _
    simp [l4]
  have dr : (frameL p ++ r).drop (p.length + 8) = r := by
    rw [← hl]; simp
  rw [frs, en, dp, ds, dr, dif_pos (by rw [List.length_append]; omega), if_neg]
  rintro (z | z)
  · rw [List.length_append] at z; omega
  · exact z rfl
theorem frs_short {d : List Int} (h : d.length < 4) : frs d = [] := by rw [frs, dif_neg (by omega)]
/-- a record that is cut -/
theorem frs_cut {p : List Int} (h : Fits p) (r : List Int) {k : Nat} (hk : k < p.length + 8) : frs ((frameL p ++ r).take k) = [] := by
  by_cases c : 4 ≤ k
  · have hl := frame_len p
    have e4 : ((frameL p ++ r).take k).take 4 = fixedL (p.length : Int) 4 := by
      rw [List.take_take, Nat.min_eq_left c, frameL, List.append_assoc, List.take_append_of_le_length (by rw [fixed_len]; exact Nat.le_refl _), List.take_of_length_le (by rw [fixed_len]; exact Nat.le_refl _)]
    have hp : ((p.length : Nat) : Int) < 256 ^ 4 := by
      have h : p.length < 256 ^ 4 := h
      have e : (256 : Nat) ^ 4 = 4294967296 := by decide
      have e2 : (256 : Int) ^ 4 = 4294967296 := by decide
      omega
    have en : (fromL (((frameL p ++ r).take k).take 4)).toNat = p.length := by
      rw [e4, from_fixed 4 _ (by omega) hp]
      rfl
    rw [frs, en]
    split
    · rw [if_pos (.inl (by rw [List.length_take]; omega))]
    · rfl
  · exact frs_short (by rw [List.length_take]; omega)
def okI (i : Img) : Prop := Fits (imgP i)
def okG (g : Grp) : Prop := (∀ i ∈ g.2, okI i) ∧ Fits (endP g.1)
def recsG (g : Grp) : List (List Int) := g.2.map imgP ++ [endP g.1]
theorem rec_img (i : Img) : recO (imgP i) = some (.img i.1 i.2) := by
  simp [recO, imgP, nf_nat7 i.1 true i.2 (.inl rfl)]
theorem rec_end (n : Nat) : recO (endP n) = some (.fin n) := by
  have := nf_nat7 n true [] (.inl rfl)
  rw [List.append_nil] at this
  simp [recO, endP, this]
theorem grs_imgs : ∀ (is : List Img) (ps : List (List Int)) (im : List Img), grs (is.map imgP ++ ps) im = grs ps (im ++ is)
  | [], ps, im => by simp
  | i :: is, ps, im => by
    rw [List.map_cons, List.cons_append, grs, rec_img]
    show grs (is.map imgP ++ ps) (im ++ [(i.1, i.2)]) = _
    rw [grs_imgs is ps]
    simp
theorem grs_group (g : Grp) (ps : List (List Int)) : grs (recsG g ++ ps) [] = g :: grs ps [] := by
  rw [recsG, List.append_assoc, grs_imgs, List.nil_append, List.singleton_append, grs, rec_end]
/-- the whole log -/
theorem frs_imgs : ∀ (is : List Img) (r : List Int), (∀ i ∈ is, okI i) → frs (is.flatMap (fun i => frameL (imgP i)) ++ r) = is.map imgP ++ frs r
  | [], r, _ => rfl
  | i :: is, r, h => by
    rw [List.flatMap_cons, List.append_assoc, frs_frame (h i List.mem_cons_self), frs_imgs is r fun j hj => h j (List.mem_cons_of_mem _ hj)]
    rfl
theorem frs_group {g : Grp} (h : okG g) (r : List Int) : frs (grpB g ++ r) = recsG g ++ frs r := by
  rw [grpB, List.append_assoc, frs_imgs _ _ h.1, frs_frame h.2, recsG]
  simp
theorem frs_log : ∀ {gs : List Grp} (r : List Int), (∀ g ∈ gs, okG g) → frs (logB gs ++ r) = gs.flatMap recsG ++ frs r
  | [], r, _ => rfl
  | g :: gs, r, h => by
    show frs (grpB g ++ logB gs ++ r) = _
    rw [List.append_assoc, frs_group (h g List.mem_cons_self), frs_log r fun j hj => h j (List.mem_cons_of_mem _ hj), List.flatMap_cons, List.append_assoc]
theorem grs_log : ∀ (gs : List Grp) (ps : List (List Int)), grs (gs.flatMap recsG ++ ps) [] = gs ++ grs ps []
  | [], ps => rfl
  | g :: gs, ps => by
    rw [List.flatMap_cons, List.append_assoc, grs_group, grs_log gs ps]
    rfl
theorem read_log {gs : List Grp} (h : ∀ g ∈ gs, okG g) : grs (frs (logB gs)) [] = gs := by
  have := frs_log (gs := gs) [] h
  rw [List.append_nil, frs_short (d := []) (by decide), List.append_nil] at this
  have g2 := grs_log gs []
  rw [List.append_nil] at g2
  rw [this, g2]
  exact List.append_nil gs
/-- a log that is cut -/
theorem grs_imgs_cut : ∀ (is : List Img) (n : Nat) (r : List Int) (im : List Img) (k : Nat), (∀ i ∈ is, okI i) → Fits (endP n) → k < (is.flatMap (fun i => frameL (imgP i)) ++ frameL (endP n)).length →
    grs (frs ((is.flatMap (fun i => frameL (imgP i)) ++ frameL (endP n) ++ r).take k)) im = []
  | [], n, r, im, k, _, hn, hk => by
    rw [List.flatMap_nil, List.nil_append] at hk ⊢
    rw [frs_cut hn r (by rw [← frame_len]; exact hk)]
    rfl
  | i :: is, n, r, im, k, h, hn, hk => by
    have hi := h i List.mem_cons_self
    rw [List.flatMap_cons, List.append_assoc, List.append_assoc] at *
    by_cases c : k < (imgP i).length + 8
    · rw [frs_cut hi _ c]
      rfl
    · have hl := frame_len (imgP i)
      obtain ⟨j, rfl⟩ : ∃ j, k = (frameL (imgP i)).length + j := ⟨k - (frameL (imgP i)).length, by omega⟩
      rw [List.take_length_add_append, frs_frame hi, grs, rec_img]
      show grs _ (im ++ [(i.1, i.2)]) = []
      rw [← List.append_assoc]
      refine grs_imgs_cut is n r _ j (fun x hx => h x (List.mem_cons_of_mem _ hx)) hn ?_
      rw [List.length_append] at hk
      omega
def cutG : List Grp → Nat → List Grp
  | [], _ => []
  | g :: gs, c => if (grpB g).length ≤ c then g :: cutG gs (c - (grpB g).length) else []
theorem read_cut : ∀ {gs : List Grp} (c : Nat), (∀ g ∈ gs, okG g) → grs (frs ((logB gs).take c)) [] = cutG gs c
  | [], c, _ => by
    rw [show (logB []).take c = [] by simp [logB], frs_short (by decide)]
    rfl
  | g :: gs, c, h => by
    have hg := h g List.mem_cons_self
    show grs (frs ((grpB g ++ logB gs).take c)) [] = _
    rw [cutG]
    split
    · rename_i hc
      obtain ⟨j, rfl⟩ : ∃ j, c = (grpB g).length + j := ⟨c - (grpB g).length, by omega⟩
      rw [List.take_length_add_append, frs_group hg, grs_group, read_cut j fun x hx => h x (List.mem_cons_of_mem _ hx)]
      rw [show (grpB g).length + j - (grpB g).length = j by omega]
    · rename_i hc
      exact grs_imgs_cut g.2 g.1 _ [] c hg.1 hg.2 (by show c < (grpB g).length; omega)
/-- as the law reads -/
def lrd (d : List Int) (im : List Img) : List Grp :=
  if h : 8 ≤ d.length then
    if d.length < (fromL (d.take 4)).toNat + 8 ∨ sum4 ((d.drop 4).take (fromL (d.take 4)).toNat) ≠ (d.drop ((fromL (d.take 4)).toNat + 4)).take 4 then []
    else match recO ((d.drop 4).take (fromL (d.take 4)).toNat) with
      | none => []
      | some (.img n b) => lrd (d.drop ((fromL (d.take 4)).toNat + 8)) (im ++ [(n, b)])
      | some (.fin n) => (n, im) :: lrd (d.drop ((fromL (d.take 4)).toNat + 8)) []
  else []
termination_by d.length
decreasing_by all_goals exact drop_lt (by omega)
theorem lrd_eq (d : List Int) (im : List Img) : lrd d im = grs (frs d) im := by
  generalize hn : d.length = n
  induction n using Nat.strongRecOn generalizing d im with
  | _ n ih =>
    rw [lrd, frs]
    by_cases c8 : 8 ≤ d.length
    · rw [dif_pos c8, dif_pos (by omega : 4 ≤ d.length)]
      by_cases c : d.length < (fromL (d.take 4)).toNat + 8 ∨ (d.drop ((fromL (d.take 4)).toNat + 4)).take 4 ≠ sum4 ((d.drop 4).take (fromL (d.take 4)).toNat)
      · rw [if_pos c, if_pos (c.imp id fun z => Ne.symm z)]
        rfl
      · rw [if_neg c, if_neg (fun z => c (z.imp id fun z => Ne.symm z)), grs]
        have hlt := drop_lt (d := d) (n := (fromL (d.take 4)).toNat) (by omega)
        cases recO ((d.drop 4).take (fromL (d.take 4)).toNat) with
        | none => rfl
        | some r =>
          cases r with
          | img n b => exact ih _ (by omega) _ _ rfl
          | fin n =>
            show (n, im) :: _ = (n, im) :: _
            rw [ih _ (by omega) _ _ rfl]
    · rw [dif_neg c8]
      split
      · rw [if_pos (.inl (by omega))]
        rfl
      · rfl
end M10
end

section
-- part Gk
set_option Elab.async false
set_option linter.all false
set_option maxRecDepth 100000
set_option maxHeartbeats 2000000
/-! Gk: what the laws share: ints as data, slices, heaps -/
namespace Gk
open PySem PySem.Spec PyProof.Rows L2 Fw M5 M10 LamX
section
variable {P : Program} {w : World} {K : PySem.W.Frag} {mg : Str → Option Value} {base : Heap} {X : Cx} {σ : L2.St} {H : Hp} {Q : VK} {a b : Addr} {d e : List Int} {te : TE} {vs : List Nat} {tt : TT} {g : TG} {ta : TA}
def Cin (mg : Str → Option Value) (x : Str) (n : Int) : Prop := ∃ u, mg x = some u ∧ RelV (.int n) u
structure Ex (K : PySem.W.Frag) (mg : Str → Option Value) (x : Str) (C : Addr) : Prop where
  ox : PySem.W.excIn K C [.type "ValueError", .type "Exception", .type "BaseException", .type "object"] "ValueError.__new__" = true
  og : mg x = some (.ref C)
  ok : PySem.W.keepIn K (.ref C) = true
  ob : PySem.W.subIn K (.ref C) (.type "BaseException") = some true
  ot : PySem.W.typeIn K (.ref C) = some (.type "type")
theorem same_upd {H H' : Hp} {L : Addr} {o : HO} (s : Same H H') (hL : H L = none) : Same H (upd H' L o) := fun b u e => by rw [upd_ne (ne_of_none e hL)]; exact s _ _ e
/-- a new tuple of ints -/
def GivesT (H : Hp) (Q : VK) (d : List Int) : Prop := ∀ (p : Addr) (H' : Hp), Same H H' → H p = none → H' p = some (.tup (d.map V.int)) → Q (.ref p) H'
def spFixed : Sp := fun vs H Q _ => ∃ (n : Int) (k : Nat), vs = [.int n, .int (k : Int)] ∧ k ≤ 64 ∧ GivesT H Q (fixedL n k)
def spNumF (K : PySem.W.Frag) : Sp := fun vs H Q _ => ∃ (a : Addr) (d : List Int), vs = [.ref a] ∧ SqT K H a (d.map V.int) ∧ Q (.int (fromL d)) H
theorem fromL_take {d : List Int} {i : Nat} {b : Int} (h : d[i]? = some b) : fromL (d.take (i + 1)) = fromL (d.take i) * 256 + b := by
  rw [List.take_add_one, h]
  exact fromL_snoc _ _
theorem ints_get {d : List Int} {i : Nat} {x : V} (h : (d.map V.int)[i]? = some x) : ∃ b, d[i]? = some b ∧ x = .int b := by
  rw [List.getElem?_map] at h
  cases e : d[i]? with
  | none => rw [e] at h; cases h
  | some b => rw [e] at h; exact ⟨b, rfl, (Option.some.inj h).symm⟩
/-- a new pair (value, place) -/
def Pair (H : Hp) (Q : VK) (v : V) (e : Nat) : Prop := ∀ (q : Addr) (H' : Hp), Same H H' → H q = none → H' q = some (.tup [v, .int (e : Int)]) → Q (.ref q) H'
def Fails (H : Hp) (E : XK) (C : Addr) : Prop := ∀ H', Same H H' → E (.ref C) none H'
theorem int_get {d : List Int} {i : Nat} {b : Int} (h : d[i]? = some b) : atI (d.map V.int) (i : Int) = some (.int b) := atI_nat (by rw [List.getElem?_map, h]; rfl)
theorem w_ixT {K : PySem.W.Frag} {a : Addr} {d : List Int} {i : Nat} {b : Int} {H : Hp} {Q : VK} (hS : SqT K H a (d.map V.int)) (h : d[i]? = some b) (q : Q (.int b) H) : rIxT K (.ref a) (.int (i : Int)) H Q := ⟨a, _, _, _, rfl, rfl, hS, int_get h, q⟩
theorem w_lenT {K : PySem.W.Frag} {a : Addr} {d : List Int} {H : Hp} {R : V → Hp → Prop} (hS : SqT K H a (d.map V.int)) (q : R (.int (d.length : Int)) H) : ∃ p xs, [V.ref a] = [.ref p] ∧ (SqL K H p xs ∨ SqT K H p xs) ∧ R (.int (xs.length : Int)) H :=
  ⟨a, d.map V.int, rfl, .inr hS, by rw [List.length_map]; exact q⟩
def spNat : Sp := fun vs H Q _ => ∃ n : Nat, vs = [.int (n : Int)] ∧ n < 128 ^ 200 ∧ GivesT H Q (nat7 n)
theorem ck_gen : ∀ (d : List Int) (a b : Int), d.foldl ckStep (a % 65521, b % 65521) = ((a + d.sum) % 65521, (b + d.length * a + accI 0 d) % 65521)
  | [], a, b => by simp [accI]
  | x :: r, a, b => by
    have e : ckStep (a % 65521, b % 65521) x = ((a + x) % 65521, (b + (a + x)) % 65521) := by
      unfold ckStep
      congr 1 <;> omega
    rw [List.foldl_cons, e, ck_gen r (a + x) (b + (a + x)), List.sum_cons]
    have e2 : accI 0 (x :: r) = x + (r.length * x + accI 0 r) := by
      show 0 + x + accI (0 + x) r = _
      rw [accI_add (0 + x) r, Int.zero_add]
    rw [e2, List.length_cons, Int.natCast_add, Int.add_mul, Int.mul_add, Int.natCast_one, Int.one_mul]
    congr 1 <;> congr 1 <;> omega
theorem ck_sums (d : List Int) : ck d = ((1 + d.sum) % 65521, ((d.length : Int) + accI 0 d) % 65521) := by
  have := ck_gen d 1 0
  rw [Int.mul_one, Int.zero_add] at this
  exact this
theorem sqT_same {H H' : Hp} {a : Addr} {xs : List V} (h : SqT K H a xs) (s : Same H H') : SqT K H' a xs := by
  rcases h with (h | ⟨o, h⟩) | h
  · exact .inl (.inl (s _ _ h))
  · exact .inl (.inr ⟨o, s _ _ h⟩)
  · exact .inr h
theorem sqL_same {H H' : Hp} {a : Addr} {xs : List V} (h : SqL K H a xs) (s : Same H H') : SqL K H' a xs := by
  rcases h with (h | ⟨o, h⟩) | h
  · exact .inl (.inl (s _ _ h))
  · exact .inl (.inr ⟨o, s _ _ h⟩)
  · exact .inr h
theorem w_gtupS {n : Nat} {t : TGs} {xs : List V} {Q : L2.St → Hp → Prop} (h : SqT K H a xs) (hn : xs.length = n) (q : t xs σ H Q) : gTup K n t (.ref a) σ H Q := ⟨a, xs, rfl, h, hn, q⟩
theorem sqT_ex {H H' : Hp} {a : Addr} {xs : List V} (h : SqT K H a xs) (s : ExtN H H') : SqT K H' a xs := by
  rcases h with (h | ⟨o, h⟩) | h
  · exact .inl (.inl (s _ _ h (fun ps e => by cases e)))
  · exact .inl (.inr ⟨o, s _ _ h (fun ps e => by cases e)⟩)
  · exact .inr h
theorem sqL_ex {H H' : Hp} {a : Addr} {xs : List V} (h : SqL K H a xs) (s : ExtN H H') : SqL K H' a xs := by
  rcases h with (h | ⟨o, h⟩) | h
  · exact .inl (.inl (s _ _ h (fun ps e => by cases e)))
  · exact .inl (.inr ⟨o, s _ _ h (fun ps e => by cases e)⟩)
  · exact .inr h
theorem lenR {xs : List Int} {f : Int → V} : (xs.map f).length = xs.length := List.length_map ..
theorem ints_shaped (ns : List Int) : SeqAt.shaped (.tuple (ns.map PyData.int)) = true := by
  have h1 : PyData.canLayAll0 (ns.map PyData.int) = true := by
    induction ns with
    | nil => rfl
    | cons n r ih => rw [List.map_cons, PyData.canLayAll0, ih]; rfl
  have h2 : PyData.depthAll (ns.map PyData.int) ≤ 1 := by
    induction ns with
    | nil => simp [PyData.depthAll]
    | cons n r ih =>
      have h3 := ih (by rw [List.map_cons, PyData.canLayAll0, Bool.and_eq_true] at h1; exact h1.2)
      simp only [List.map_cons, PyData.depthAll, PyData.depth]
      omega
  unfold SeqAt.shaped
  rw [Bool.and_eq_true]
  refine ⟨h1, decide_eq_true ?_⟩
  simp only [PyData.depth]
  omega
theorem ints_eqv : ∀ ns ms : List Int, PyData.eqvAll (ns.map PyData.int) (ms.map PyData.int) = decide (ns = ms)
  | [], [] => rfl
  | n :: r, [] => by simp [PyData.eqvAll]
  | [], m :: t => by simp [PyData.eqvAll]
  | n :: r, m :: t => by
    rw [List.map_cons, List.map_cons, PyData.eqvAll, ints_eqv r t, PyData.eqv]
    by_cases c : n = m <;> by_cases c2 : r = t <;> simp [c, c2]
theorem w_neInts (ha : SqT K H a (d.map V.int)) (hb : SqT K H b (e.map V.int)) (q : Q (.bl (!decide (d = e))) H) : rNeD K (.ref a) (.ref b) H Q :=
  ⟨_, _, .tup ha (dp_ints d), .tup hb (dp_ints e), ints_shaped d, ints_shaped e, by
    show Q (.bl (!PyData.eqvAll (d.map PyData.int) (e.map PyData.int))) H
    rw [ints_eqv]
    exact q⟩
theorem cut_mid (xs : List V) {i j : Nat} : cutV xs (some (i : Int)) (some (j : Int)) = (xs.drop i).take (j - i) := by
  unfold cutV
  rw [HT.sIx_nat, HT.sIx_nat]
  by_cases h : i ≤ xs.length
  · rw [Nat.min_eq_left h]
    by_cases h2 : j ≤ xs.length
    · rw [Nat.min_eq_left h2]
    · rw [Nat.min_eq_right (by omega), List.take_of_length_le (by rw [List.length_drop]; omega), List.take_of_length_le (by rw [List.length_drop]; omega)]
  · rw [Nat.min_eq_right (by omega : xs.length ≤ i), List.drop_eq_nil_of_le (Nat.le_refl _), List.drop_eq_nil_of_le (by omega), List.take_nil, List.take_nil]
theorem w_slMid {i j : Nat} (e : SqT K H a (d.map V.int)) (q : ∀ p H', Same H H' → SqT K H' p (((d.drop i).take (j - i)).map V.int) → Q (.ref p) H') : rSlA K (.ref a) (some (i : Int)) (some (j : Int)) H Q := by
  refine ⟨a, _, rfl, e, fun hw => ?_, fun _ p hp => ?_⟩
  · rw [HT.sIx_nat, HT.sIx_nat, List.length_map] at hw
    have : (d.drop i).take (j - i) = d := by
      by_cases c : d.length = 0
      · rw [List.eq_nil_of_length_eq_zero c]; simp
      · obtain rfl : i = 0 := by omega
        rw [List.drop_zero, List.take_of_length_le (by omega)]
    refine q a H (Same.refl H) ?_
    rw [this]
    exact e
  · refine q p _ (same_new hp _) (SqT.of ?_)
    rw [upd_same, cut_mid, List.map_take, List.map_drop]
def Tups (H : Hp) : List Addr → List (List Int) → Prop := Paired fun z p => H z = some (.tup (p.map V.int))
def TupsK (K : PySem.W.Frag) (H : Hp) : List Addr → List (List Int) → Prop := Paired fun z p => SqT K H z (p.map V.int)
theorem TupsK.sm {H H' : Hp} (s : Same H H') : ∀ {zs : List Addr} {ps : List (List Int)}, TupsK K H zs ps → TupsK K H' zs ps
  | _, _, .nil => .nil
  | _, _, .cons h r => .cons (sqT_same h s) (TupsK.sm s r)
/-- the object L alone is another list -/
theorem sqT_wr {H : Hp} {L a : Addr} {xs ys : List V} {o : HO} (h : SqT K H a xs) (hL : H L = some (.lst ys)) : SqT K (upd H L o) a xs := by
  rcases h with (h | ⟨u, h⟩) | h
  · exact .inl (.inl (by rw [upd_ne (fun z => by rw [z, hL] at h; cases h)]; exact h))
  · exact .inl (.inr ⟨u, by rw [upd_ne (fun z => by rw [z, hL] at h; cases h)]; exact h⟩)
  · exact .inr h
theorem TupsK.wr {H : Hp} {L : Addr} {ys : List V} {o : HO} (hL : H L = some (.lst ys)) : ∀ {zs : List Addr} {ps : List (List Int)}, TupsK K H zs ps → TupsK K (upd H L o) zs ps
  | _, _, .nil => .nil
  | _, _, .cons h r => .cons (sqT_wr h hL) (TupsK.wr hL r)
theorem map_get {α : Type} {f : α → V} {l : List α} {i : Nat} {x : V} (h : (l.map f)[i]? = some x) : ∃ b, l[i]? = some b ∧ x = f b := by
  rw [List.getElem?_map] at h
  cases e : l[i]? with
  | none => rw [e] at h; cases h
  | some b => rw [e] at h; exact ⟨b, rfl, (Option.some.inj h).symm⟩
theorem cut_drop {xs : List V} {n : Nat} : cutV xs (some (n : Int)) none = xs.drop n := by
  unfold cutV
  rw [HT.sIx_nat, HT.sIx_none]
  by_cases h : n ≤ xs.length
  · rw [Nat.min_eq_left h, List.take_of_length_le (by rw [List.length_drop]; omega)]
  · rw [Nat.min_eq_right (by omega), List.drop_eq_nil_of_le (Nat.le_refl _), List.drop_eq_nil_of_le (by omega)]
    exact List.take_nil
theorem w_slFrom {a : Addr} {d : List Int} {n : Nat} {H : Hp} {Q : VK} (e : SqT K H a (d.map V.int)) (q : ∀ p H', Same H H' → SqT K H' p ((d.drop n).map V.int) → Q (.ref p) H') : rSlA K (.ref a) (some (n : Int)) none H Q := by
  refine ⟨a, _, rfl, e, fun hw => ?_, fun _ p hp => ?_⟩
  · rw [HT.sIx_nat, List.length_map] at hw
    refine q a H (Same.refl H) ?_
    have : d.drop n = d := by
      by_cases c : d.length = 0
      · rw [List.eq_nil_of_length_eq_zero c]; simp
      · obtain rfl : n = 0 := by omega
        rfl
    rw [this]
    exact e
  · refine q p _ (same_new hp _) (SqT.of ?_)
    rw [upd_same, cut_drop, List.map_drop]
theorem tup_wr {H : Hp} {L a : Addr} {xs ys : List V} {o : HO} (h : H a = some (.tup xs)) (hL : H L = some (.lst ys)) : (upd H L o) a = some (.tup xs) := by
  rw [upd_ne (fun z => by rw [z, hL] at h; cases h)]
  exact h
theorem sum_eq (f s : Int) (hf : 0 ≤ f ∧ f < 65521) (hs : 0 ≤ s ∧ s < 65521) : fixedL (65536 * s + f) 4 = [(s * 65536 + f) / 16777216 % 256, (s * 65536 + f) / 65536 % 256, (s * 65536 + f) / 256 % 256, (s * 65536 + f) % 256] := by
  simp only [fixedL, List.nil_append, List.cons_append]
  congr 1
  · omega
  congr 1
  · omega
  congr 1
  · omega
  congr 1
  omega
theorem ck_take {d : List Int} {i : Nat} {b : Int} (h : d[i]? = some b) : ck (d.take (i + 1)) = ckStep (ck (d.take i)) b := by
  rw [List.take_add_one, h]
  simp [ck]
theorem ck_b (d : List Int) : (0 ≤ (ck d).1 ∧ (ck d).1 < 65521) ∧ 0 ≤ (ck d).2 ∧ (ck d).2 < 65521 := by
  rw [← List.reverse_reverse d]
  generalize d.reverse = e
  induction e with
  | nil => exact ⟨⟨by decide, by decide⟩, by decide, by decide⟩
  | cons b e ih =>
    rw [List.reverse_cons]
    have : ck (e.reverse ++ [b]) = ckStep (ck e.reverse) b := by simp [ck]
    rw [this]
    simp only [ckStep]
    omega
theorem len4 (n : Nat) (h : n ≤ 900) : fixedL (n : Int) 4 = [(n : Int) / 16777216, (n : Int) / 65536 % 256, (n : Int) / 256 % 256, (n : Int) % 256] := by
  simp only [fixedL, List.nil_append, List.cons_append]
  have h1 : (n : Int) / 256 / 256 / 256 % 256 = (n : Int) / 16777216 := by omega
  have h2 : (n : Int) / 256 / 256 % 256 = (n : Int) / 65536 % 256 := by omega
  rw [h1, h2]
theorem w_catInts {a b : Addr} {d e : List Int} {H : Hp} {Q : VK} (ha : SqT K H a (d.map V.int)) (hb : SqT K H b (e.map V.int)) (hl : d.length + e.length ≤ 2000) (q : ∀ p H', Same H H' → SqT K H' p ((d ++ e).map V.int) → Q (.ref p) H') : rCatA K (.ref a) (.ref b) H Q := by
  refine ⟨a, b, _, _, rfl, rfl, ha, hb, ?_, fun z => ?_, fun _ z => ?_, fun _ _ p hp => ?_⟩
  · rw [List.length_map, List.length_map]
    exact Nat.le_trans hl (by decide)
  · have := List.map_eq_nil_iff.mp z
    subst this
    exact q b H (Same.refl H) hb
  · have := List.map_eq_nil_iff.mp z
    subst this
    rw [List.append_nil] at q
    exact q a H (Same.refl H) ha
  · exact q p _ (same_new hp _) (SqT.of (by rw [upd_same, List.map_append]))
/-- a tuple of ints, new or not -/
def GivesS (K : PySem.W.Frag) (H : Hp) (Q : VK) (d : List Int) : Prop := ∀ p H', Same H H' → SqT K H' p (d.map V.int) → Q (.ref p) H'
def spSum (K : PySem.W.Frag) : Sp := fun vs H Q _ => ∃ (a : Addr) (d : List Int), vs = [.ref a] ∧ SqT K H a (d.map V.int) ∧ GivesT H Q (sum4 d)
theorem w_break {D : Ends} {σ : L2.St} {H : Hp} (h : D.bk σ H) : tBreak D σ H := h
theorem sums_eq (f s : Int) (hf : 0 ≤ f ∧ f < 65521) (hs : 0 ≤ s ∧ s < 65521) : fixedL (65536 * s + f) 4 = [s / 256, s % 256, f / 256, f % 256] := by
  simp only [fixedL, List.nil_append, List.cons_append]
  have h1 : (65536 * s + f) / 256 / 256 / 256 % 256 = s / 256 := by omega
  have h2 : (65536 * s + f) / 256 / 256 % 256 = s % 256 := by omega
  have h3 : (65536 * s + f) / 256 % 256 = f / 256 := by omega
  have h4 : (65536 * s + f) % 256 = f % 256 := by omega
  rw [h1, h2, h3, h4]
theorem w_par3 {i j l : Nat} {ta : TA} {D : Ends} {σ : L2.St} {H : Hp} (h : ta σ H fun vs H1 => ∃ u v w, vs = [u, v, w] ∧ D.nx (((σ.set i (some u)).set j (some v)).set l (some w)) H1) : tPar3 i j l ta D σ H := h
theorem w_ixZ {a : Addr} {d : List Int} {i : Nat} {b z : Int} {H : Hp} {Q : VK} (hS : SqT K H a (d.map V.int)) (hz : z = (i : Int)) (h : d[i]? = some b) (q : Q (.int b) H) : rIxT K (.ref a) (.int z) H Q := by
  subst hz
  exact w_ixT hS h q
theorem w_slZ {a : Addr} {d : List Int} {i j : Nat} {x y : Int} {H : Hp} {Q : VK} (e : SqT K H a (d.map V.int)) (hx : x = (i : Int)) (hy : y = (j : Int)) (q : ∀ p H', Same H H' → SqT K H' p (((d.drop i).take (j - i)).map V.int) → Q (.ref p) H') : rSlA K (.ref a) (some x) (some y) H Q := by
  subst hx hy
  exact w_slMid e q
theorem w_eqInts {a b : Addr} {d e : List Int} {H : Hp} {Q : VK} (ha : SqT K H a (d.map V.int)) (hb : SqT K H b (e.map V.int)) (q : Q (.bl (decide (d = e))) H) : rEqD K (.ref a) (.ref b) H Q :=
  ⟨_, _, .tup ha (dp_ints d), .tup hb (dp_ints e), ints_shaped d, ints_shaped e, by
    show Q (.bl (PyData.eqvAll (d.map PyData.int) (e.map PyData.int))) H
    rw [ints_eqv]
    exact q⟩
theorem w_catL {a b : Addr} {xs ys : List V} {H : Hp} {Q : VK} (ha : H a = some (.lst xs)) (hb : H b = some (.lst ys)) (hl : xs.length + ys.length ≤ 2000) (q : ∀ p, H p = none → Q (.ref p) (upd H p (.lst (xs ++ ys)))) : rCat (.ref a) (.ref b) H Q :=
  ⟨a, b, xs, ys, rfl, rfl, ha, hb, Nat.le_trans hl (by decide), q⟩
theorem in12 (b : Int) : inV (.int b) [.int 1, .int 2] = decide (b = 1 ∨ b = 2) := by
  by_cases c3 : b = 1
  · subst c3; rfl
  · by_cases c4 : b = 2
    · subst c4; rfl
    · rw [decide_eq_false (by omega)]
      show ((1 == b) || ((2 == b) || false)) = false
      rw [beq_eq_false_iff_ne.mpr (fun z => c3 z.symm), beq_eq_false_iff_ne.mpr (fun z => c4 z.symm)]
      rfl
/-- all objects but lists are kept -/
def Tk (H H' : Hp) : Prop := ∀ b u, H b = some u → (∀ zs, u ≠ .lst zs) → H' b = some u
theorem Tk.of {H H' : Hp} (s : Same H H') : Tk H H' := fun b u e _ => s b u e
theorem Tk.kp {d : Addr} {H H' : Hp} (k : Kp d H H') (h : Dice H d) : Tk H H' := fun b u e n => k b u (fun z => by
  obtain ⟨x, y, z', q⟩ := h
  rw [z, q] at e
  cases e
  exact n _ rfl) e
theorem Tk.wr {L : Addr} {H : Hp} {zs : List V} {o : HO} (h : H L = some (.lst zs)) : Tk H (upd H L o) := fun b u e n => by
  rw [upd_ne (fun z => by rw [z, h] at e; cases e; exact n _ rfl)]
  exact e
theorem Tk.trans {H H1 H2 : Hp} (a : Tk H H1) (b : Tk H1 H2) : Tk H H2 := fun c u e n => b c u (a c u e n) n
theorem sqT_tk {K : PySem.W.Frag} {H H' : Hp} {a : Addr} {xs : List V} (h : SqT K H a xs) (s : Tk H H') : SqT K H' a xs := by
  rcases h with (h | ⟨o, h⟩) | h
  · exact .inl (.inl (s _ _ h (fun zs e => by cases e)))
  · exact .inl (.inr ⟨o, s _ _ h (fun zs e => by cases e)⟩)
  · exact .inr h
theorem tup_tk {H H' : Hp} {a : Addr} {xs : List V} (h : H a = some (.tup xs)) (s : Tk H H') : H' a = some (.tup xs) := s _ _ h (fun zs e => by cases e)
theorem Kp.wr {d L : Addr} {H0 Hc : Hp} {o : HO} (k : Kp d H0 Hc) (h : H0 L = none) : Kp d H0 (upd Hc L o) := fun b u n e => by
  rw [upd_ne (ne_of_none e h)]
  exact k b u n e
theorem Dice.wr {d L : Addr} {Hc : Hp} {o : HO} (k : Dice Hc d) (h : L ≠ d) : Dice (upd Hc L o) d := by
  obtain ⟨a, b, c, e⟩ := k
  exact ⟨a, b, c, by rw [upd_ne h.symm]; exact e⟩
theorem Dice.sm {H H' : Hp} {d : Addr} (h : Dice H d) (s : Same H H') : Dice H' d := by
  obtain ⟨a, b, c, e⟩ := h
  exact ⟨a, b, c, s _ _ e⟩
theorem all_lay {ds : List PyData} (h : ∀ d ∈ ds, d.canLay0 = true) : PyData.canLayAll0 ds = true := by
  induction ds with
  | nil => rfl
  | cons d r ih => rw [PyData.canLayAll0, h d List.mem_cons_self, ih fun x hx => h x (List.mem_cons_of_mem _ hx)]; rfl
theorem all_depth {ds : List PyData} {k : Nat} (h : ∀ d ∈ ds, d.depth ≤ k) : PyData.depthAll ds ≤ k := by
  induction ds with
  | nil => simp [PyData.depthAll]
  | cons d r ih =>
    have h1 := h d List.mem_cons_self
    have h2 := ih fun x hx => h x (List.mem_cons_of_mem _ hx)
    rw [PyData.depthAll]
    omega
theorem all_eqv {ds : List PyData} (h : ∀ d ∈ ds, PyData.eqv d d = true) : PyData.eqvAll ds ds = true := by
  induction ds with
  | nil => rfl
  | cons d r ih => rw [PyData.eqvAll, h d List.mem_cons_self, ih fun x hx => h x (List.mem_cons_of_mem _ hx)]; rfl
/-- what may be compared with itself -/
def Fine (k : Nat) (d : PyData) : Prop := d.canLay0 = true ∧ d.depth ≤ k ∧ PyData.eqv d d = true
theorem Fine.int (n : Int) : Fine 0 (.int n) := ⟨rfl, by simp [PyData.depth], by simp [PyData.eqv]⟩
theorem Fine.le {j k : Nat} {d : PyData} (h : Fine j d) (hk : j ≤ k) : Fine k d := ⟨h.1, Nat.le_trans h.2.1 hk, h.2.2⟩
theorem Fine.tup {k : Nat} {ds : List PyData} (h : ∀ d ∈ ds, Fine k d) : Fine (k + 1) (.tuple ds) := by
  refine ⟨all_lay fun d hd => (h d hd).1, ?_, all_eqv fun d hd => (h d hd).2.2⟩
  have := all_depth fun d hd => (h d hd).2.1
  rw [PyData.depth]
  omega
theorem Fine.lst {k : Nat} {ds : List PyData} (h : ∀ d ∈ ds, Fine k d) : Fine (k + 1) (.list ds) := by
  refine ⟨all_lay fun d hd => (h d hd).1, ?_, all_eqv fun d hd => (h d hd).2.2⟩
  have := all_depth fun d hd => (h d hd).2.1
  rw [PyData.depth]
  omega
theorem Fine.shaped {k : Nat} {d : PyData} (h : Fine k d) (hk : k ≤ 64) : SeqAt.shaped d = true := by
  unfold SeqAt.shaped
  rw [Bool.and_eq_true]
  exact ⟨h.1, decide_eq_true (Nat.le_trans h.2.1 hk)⟩
theorem fine_ints (ns : List Int) : Fine 1 (.tuple (ns.map PyData.int)) := Fine.tup fun d hd => by
  obtain ⟨n, _, rfl⟩ := List.mem_map.mp hd
  exact Fine.int n
theorem byt_app {a b : List Int} (ha : Byt a) (hb : Byt b) : Byt (a ++ b) := fun x hx => (List.mem_append.mp hx).elim (ha x) (hb x)
theorem byt_take {a : List Int} (h : Byt a) (k : Nat) : Byt (a.take k) := fun b hb => h b (List.mem_of_mem_take hb)
theorem byt_cons {x : Int} {a : List Int} (hx : 0 ≤ x ∧ x < 256) (ha : Byt a) : Byt (x :: a) := fun b hb => by
  rcases List.mem_cons.mp hb with rfl | hb
  · exact hx
  · exact ha b hb
theorem flat_byt {α : Type} {f : α → List Int} : ∀ {l : List α}, (∀ x ∈ l, Byt (f x)) → Byt (l.flatMap f)
  | [], _ => fun b hb => by cases hb
  | x :: r, h => by
    rw [List.flatMap_cons]
    exact byt_app (h x List.mem_cons_self) (flat_byt fun y hy => h y (List.mem_cons_of_mem _ hy))
theorem w_iEnum {R : It → Hp → Prop} (h : ta σ H fun vs H1 => ∃ a xs, vs = [.ref a] ∧ SqL K H1 a xs ∧ R (Ite K a) H1) : iEnum K ta σ H R := h
/-- a comprehension over enumerate of a list -/
theorem w_lcEn {p : Addr} {xs : List V} {R : Addr → Hp → Prop} (hS : SqL K H p xs) (h : ∀ D, H D = none → ∃ Pv : Nat → Hp → Prop, Pv 0 (upd H D (.lst [])) ∧ (∀ i H2, i ≤ xs.length → Pv i H2 → SqL K H2 p xs) ∧
      (∀ (i : Nat) x T H2, xs[i]? = some x → Pv i H2 → H2 T = none → g (.ref T) (wipe σ vs) (upd H2 T (.tup [.int (i : Nat), x])) fun σ2 H2 => wipe σ2 vs = wipe σ vs ∧ tt σ2 H2 fun b H3 =>
        if b = true then te σ2 H3 fun y H4 => ∃ acc, H4 D = some (.lst acc) ∧ acc.length < sizeLine ∧ Pv (i + 1) (upd H4 D (.lst (acc ++ [y]))) else Pv (i + 1) H3) ∧ (∀ H2, Pv xs.length H2 → R D H2)) :
    ∃ a ys, [V.ref p] = [V.ref a] ∧ SqL K H a ys ∧ ∀ D, H D = none → ∃ W : Nat → Nat → Hp → Prop, (∃ m, W 0 m (upd H D (.lst []))) ∧ ∀ i m H, W i m H →
      ((Ite K a).stop i H ∧ R D H) ∨ ((Ite K a).go i H ∧ ∃ Nx : Hp → Prop, (∀ H', Nx H' → ∃ m', m' < m ∧ W (i + 1) m' H') ∧ ∀ x H', (Ite K a).yld i H x H' → g x (wipe σ vs) H' fun σ2 H2 => wipe σ2 vs = wipe σ vs ∧ tt σ2 H2 fun b H3 =>
        if b = true then te σ2 H3 fun y H4 => ∃ acc, H4 D = some (.lst acc) ∧ acc.length < sizeLine ∧ Nx (upd H4 D (.lst (acc ++ [y]))) else Nx H3) := by
  refine ⟨p, xs, rfl, hS, fun D hD => ?_⟩
  obtain ⟨Pv, h0, hl, hs, hd⟩ := h D hD
  refine ⟨fun i m H => m + i = xs.length ∧ Pv i H, ⟨xs.length, rfl, h0⟩, ?_⟩
  rintro i m H2 ⟨hm, p2⟩
  have q := hl i H2 (by omega) p2
  by_cases h1 : i < xs.length
  · refine .inr ⟨⟨xs, xs[i], q, List.getElem?_eq_getElem h1⟩, Pv (i + 1), fun H' p' => ⟨m - 1, by omega, by omega, p'⟩, ?_⟩
    rintro v H' ⟨T, x, rfl, hT, rfl, hx⟩
    exact hs i x T H2 (hx xs q) p2 hT
  · obtain rfl : i = xs.length := by omega
    exact .inl ⟨⟨xs, q, Nat.le_refl _⟩, hd H2 p2⟩
theorem cut_to10 (xs : List V) (n : Nat) : cutV xs none (some (n : Int)) = xs.take n := by
  unfold cutV
  rw [HT.sIx_nat, HT.sIx_none, List.drop_zero, Nat.sub_zero]
  by_cases h : n ≤ xs.length
  · rw [Nat.min_eq_left h]
  · rw [Nat.min_eq_right (by omega), List.take_length, List.take_of_length_le (by omega)]
theorem w_slTo {a : Addr} {d : List Int} {n : Nat} {H : Hp} {Q : VK} (e : SqT K H a (d.map V.int)) (q : ∀ p H', Same H H' → SqT K H' p ((d.take n).map V.int) → Q (.ref p) H') : rSlA K (.ref a) none (some (n : Int)) H Q := by
  refine ⟨a, _, rfl, e, fun hw => ?_, fun _ p hp => ?_⟩
  · rw [HT.sIx_nat, List.length_map] at hw
    have : d.take n = d := List.take_of_length_le (by omega)
    refine q a H (Same.refl H) ?_
    rw [this]
    exact e
  · refine q p _ (same_new hp _) (SqT.of ?_)
    rw [upd_same, cut_to10, List.map_take]
theorem Fine.str {x : Str} (h : PyData.strOk x = true) : Fine 0 (.str x) := ⟨by rw [PyData.canLay0]; exact h, by simp [PyData.depth], by simp [PyData.eqv]⟩
/-- two tuples of the same data -/
theorem w_neSame {a b : Addr} {xs ys : List V} {ds : List PyData} {k : Nat} (ha : SqT K H a xs) (hb : SqT K H b ys) (h1 : DpAll K H xs ds) (h2 : DpAll K H ys ds) (f : Fine k (.tuple ds)) (hk : k ≤ 64) (q : Q (.bl false) H) : rNeD K (.ref a) (.ref b) H Q :=
  ⟨_, _, .tup ha h1, .tup hb h2, f.shaped hk, f.shaped hk, by
    rw [f.2.2]
    exact q⟩
theorem w_eqSame {a b : Addr} {xs ys : List V} {ds : List PyData} {k : Nat} (ha : SqT K H a xs) (hb : SqT K H b ys) (h1 : DpAll K H xs ds) (h2 : DpAll K H ys ds) (f : Fine k (.tuple ds)) (hk : k ≤ 64) (q : Q (.bl true) H) : rEqD K (.ref a) (.ref b) H Q :=
  ⟨_, _, .tup ha h1, .tup hb h2, f.shaped hk, f.shaped hk, by
    rw [f.2.2]
    exact q⟩
theorem fine_pair {x : Str} {n : Int} (h : PyData.strOk x = true) : Fine 1 (.tuple [.str x, .int n]) := Fine.tup fun d hd => by
  rcases List.mem_cons.mp hd with rfl | hd
  · exact Fine.str h
  · rw [List.mem_singleton.mp hd]; exact Fine.int n
theorem passLam {A : Around} {outer : List Env} {s : Shared} {H : Hp} {E : XK} {scope : Scope} {f c' : Addr} : Passes (L2.CX (lamCx X A outer s H E scope f c').prog (lamCx X A outer s H E scope f c').w) (lamCx X A outer s H E scope f c') E := passes_call (takes_of rfl rfl rfl rfl) fun _ _ _ _ h => h
theorem op_neDK (K0 : PySem.W.Frag) (hK : X.K = K0) (hu : X.A.units + 64 < cLine) : OpR X (compareOp .NotEq) (rNeD K0) := by
  subst hK
  exact op_neD hu
theorem op_eqDK (K0 : PySem.W.Frag) (hK : X.K = K0) (hu : X.A.units + 64 < cLine) : OpR X (compareOp .Eq) (rEqD K0) := by
  subst hK
  exact op_eqD hu
theorem tabs_kp {T : List (Addr × Str)} {H H' : Hp} {d : Addr} (t : Tabs T H) (k : Kp d H H') (hd : Dice H d) : Tabs T H' := fun p hp => by
  obtain ⟨ps, h1, h2, h3⟩ := t p hp
  obtain ⟨x, y, z, e⟩ := hd
  refine ⟨ps, k _ _ (fun n => by rw [n, e] at h1; cases h1) h1, h2, fun pos cv hc => ?_⟩
  obtain ⟨c, e1, e2⟩ := h3 pos cv hc
  refine ⟨c, e1, k _ _ (fun n => ?_) e2⟩
  rw [n, e] at e2
  unfold CodeO at e2
  cases e2
theorem ne_dice {H : Hp} {L d : Addr} (h : H L = none) (k : Dice H d) : L ≠ d := fun z => by
  obtain ⟨a, b, c, e⟩ := k
  rw [z, e] at h
  cases h
theorem free_kp {d p : Addr} {H0 Hc : Hp} (k : Kp d H0 Hc) (hd : Dice Hc d) (hp : Hc p = none) : H0 p = none := (newl (o := .lst []) k hd hp rfl).2.2.2.2.1
theorem w_ifRest {c : TT} {a b : TS} {D : Ends} {σ : L2.St} {H : Hp} (I : L2.St → Hp → Prop) (h1 : ∀ N : L2.St → Hp → Prop, (∀ σ' H', I σ' H' → N σ' H') → tIfS c a b { D with nx := N } σ H) (h2 : ∀ σ' H', I σ' H' → D.nx σ' H') : tIfS c a b D σ H := h1 D.nx h2
theorem lst_kp {H H' : Hp} {L d : Addr} {o : HO} (k : Kp d H H') (h : H L = some o) (n : L ≠ d) : H' L = some o := k _ _ n h
theorem ext_lst {H H' : Hp} {L : Addr} {xs : List V} (x : ExtN H H') (h : H L = some (.lst xs)) : H' L = some (.lst xs) := x _ _ h fun q z => by cases z
theorem ext_tup {H H' : Hp} {L : Addr} {xs : List V} (x : ExtN H H') (h : H L = some (.tup xs)) : H' L = some (.tup xs) := x _ _ h fun q z => by cases z
theorem Tups.sm {H H' : Hp} (s : Same H H') : ∀ {zs : List Addr} {ps : List (List Int)}, Tups H zs ps → Tups H' zs ps
  | _, _, .nil => .nil
  | _, _, .cons h r => .cons (s _ _ h) (Tups.sm s r)
theorem Tups.ex {H H' : Hp} (s : ExtN H H') : ∀ {zs : List Addr} {ps : List (List Int)}, Tups H zs ps → Tups H' zs ps
  | _, _, .nil => .nil
  | _, _, .cons h r => .cons (ext_tup s h) (Tups.ex s r)
theorem w_lamT {cLF : Addr} {ret : Str} {tl : XK → Hp → VK → Prop} {H : Hp} {Q : VK} (h : tl (fun cls _ H' => ∃ b, PySem.W.exmOne K cls (.ref cLF) = some b ∧ (b = true → Q (.str ret) H') ∧ (b = false → False)) H Q) : TTold K cLF ret tl H Q := h
theorem sIx_neg {n k : Nat} {z : Int} (hz : z = -(k : Int)) (h0 : 0 < k) (h : k ≤ n) (d0 : Nat) : HT.sIx n d0 (some z) = n - k := by
  show (if z < 0 then (z + (n : Int)).toNat else min z.toNat n) = n - k
  rw [if_pos (by omega)]
  omega
theorem w_slToN {n : Nat} {z : Int} (hz : z = -(n : Int)) (h0 : 0 < n) (hn : n ≤ d.length) (e : SqT K H a (d.map V.int)) (q : ∀ p H', Same H H' → SqT K H' p ((d.take (d.length - n)).map V.int) → Q (.ref p) H') : rSlA K (.ref a) none (some z) H Q := by
  have hl : n ≤ (d.map V.int).length := by rw [List.length_map]; exact hn
  refine ⟨a, _, rfl, e, fun hw => ?_, fun _ p hp => ?_⟩
  · rw [sIx_neg hz h0 hl, List.length_map] at hw
    omega
  · refine q p _ (same_new hp _) (SqT.of ?_)
    rw [upd_same]
    unfold cutV
    rw [sIx_neg hz h0 hl, HT.sIx_none, List.drop_zero, Nat.sub_zero, List.map_take, List.length_map]
theorem w_slFromN {n : Nat} {z : Int} (hz : z = -(n : Int)) (h0 : 0 < n) (hn : n ≤ d.length) (e : SqT K H a (d.map V.int)) (q : ∀ p H', Same H H' → SqT K H' p ((d.drop (d.length - n)).map V.int) → Q (.ref p) H') : rSlA K (.ref a) (some z) none H Q := by
  have hl : n ≤ (d.map V.int).length := by rw [List.length_map]; exact hn
  refine ⟨a, _, rfl, e, fun hw => ?_, fun _ p hp => ?_⟩
  · rw [sIx_neg hz h0 hl, List.length_map] at hw
    have : d.drop (d.length - n) = d := by rw [show d.length - n = 0 by omega]; rfl
    refine q a H (Same.refl H) ?_
    rw [this]
    exact e
  · refine q p _ (same_new hp _) (SqT.of ?_)
    rw [upd_same]
    unfold cutV
    rw [sIx_neg hz h0 hl, HT.sIx_none, List.map_drop, List.length_map, List.take_of_length_le (by rw [List.length_drop, List.length_map]; omega)]
theorem tup_once (l : Addr) (items : Array Value) (n : Nat) (dd : Option Addr) (sl : Array (Option Value)) (u : Tok) :
    Meets (Builtin.«tuple.__mul__» ⟨[.ref l, .int 1 u], []⟩) (fun _ R s => s.heap.get? l = some { cls := .type "tuple", dict := dd, data := .seq items n, slots := sl } ∧ R (.ok (.ret (.ref l))) s) :=
  .of_wp fun prog w A R s h => by
    obtain ⟨hp, g, d, tk, os⟩ := s
    obtain ⟨hl, h⟩ := h
    have f1 := AutoSeq1.idx_int
    wp_walk using wpAny_loadPart' hl
    exact ⟨_, rfl, h⟩
theorem rep_one {α : Type} (x : α) (n : Nat) : (List.replicate n [x]).flatten = List.replicate n x := by
  induction n with
  | zero => rfl
  | succ n ih => rw [List.replicate_succ, List.flatten_cons, ih, List.replicate_succ]; rfl
/-- t * k, for k from 1 on: once is t itself -/
def rRepA (K : PySem.W.Frag) : R2 := fun x y H Q => ∃ l k xs, x = .ref l ∧ y = .int k ∧ SqT K H l xs ∧ xs ≠ [] ∧ 1 ≤ k ∧ k ≤ 1000 ∧ xs.length ≤ 1000 ∧ (k = 1 → Q (.ref l) H) ∧ (2 ≤ k → ∀ p, H p = none → Q (.ref p) (upd H p (.tup (List.replicate k.toNat xs).flatten)))
theorem op_repA : OpR X (binaryOp .Mult) (rRepA X.K) := by
  intro pins s σ H x y v u Q I rx ry h
  obtain ⟨l, k, xs, rfl, rfl, hT, hne, h1, h2, hz, q1, q2⟩ := h
  by_cases c : 2 ≤ k
  · exact op_repT pins s σ H _ _ v u Q I rx ry ⟨l, k, xs, rfl, rfl, hT, hne, c, h2, hz, q2 c⟩
  obtain rfl : k = 1 := by omega
  cases rx
  obtain ⟨t, rfl⟩ := ry
  obtain ⟨its, r, ⟨⟨cls, dd, data, sl⟩, ho, hc, n, hd⟩, hs⟩ := I.tuple hT
  simp only at hc hd
  subst hc hd
  refine wpAny_binaryOp_repeat_ref (T := "tuple") (U := "int") (by decide) ⟨_, ho, rfl⟩ (fun s' => typeIs_int s' 1 t) noFill_tuple_mul F.fills_int_mul F.slot_int_rmul repeat_tuple F.slot_int_index.lookup
    (call_meets F.slot_int_rmul (typeIs_int s 1 t) F.entry_int_rmul (F.args_int_rmul_2 _ _) (int_rmul_tuple 1 t l its.toArray n dd sl)
      ⟨ho, rfl, ⟨_, ho, rfl⟩, call_meets F.slot_tuple_mul ⟨_, ho, rfl⟩ F.entry_tuple_mul (F.args_tuple_mul_2 _ _) (tup_once l its.toArray n dd sl t) ⟨ho, ?_⟩⟩)
  exact ⟨.ref l, H, I, rfl, q1 rfl⟩
theorem op_repAK (K : PySem.W.Frag) (h : X.K = K) : OpR X (binaryOp .Mult) (rRepA K) := by subst h; exact op_repA
theorem w_repInts {z k : Int} (ha : SqT K H a [.int z]) (h1 : 1 ≤ k) (h2 : k ≤ 1000) (q : ∀ p H', Same H H' → SqT K H' p ((List.replicate k.toNat z).map V.int) → Q (.ref p) H') : rRepA K (.ref a) (.int k) H Q := by
  refine ⟨a, k, _, rfl, rfl, ha, List.cons_ne_nil _ _, h1, h2, (by show 1 ≤ 1000; decide), fun z => ?_, fun _ p hp => ?_⟩
  · subst z
    exact q a H (fun _ _ h => h) ha
  · refine q p _ (same_new hp _) (SqT.of ?_)
    rw [upd_same, rep_one, List.map_replicate]
theorem w_rU {f : Int → V} {i : Int} (q : Q (f i) H) : rU f (.int i) H Q := ⟨i, rfl, q⟩
theorem w_slToZ {n : Nat} {z : Int} (hz : z = (n : Int)) (e : SqT K H a (d.map V.int)) (q : ∀ p H', Same H H' → SqT K H' p ((d.take n).map V.int) → Q (.ref p) H') : rSlA K (.ref a) none (some z) H Q := by
  subst hz
  exact w_slTo e q
theorem w_slFromZ {n : Nat} {z : Int} (hz : z = (n : Int)) (e : SqT K H a (d.map V.int)) (q : ∀ p H', Same H H' → SqT K H' p ((d.drop n).map V.int) → Q (.ref p) H') : rSlA K (.ref a) (some z) none H Q := by
  subst hz
  exact w_slFrom e q
def spCk2 (K : PySem.W.Frag) : Sp := fun vs H Q _ => ∃ (a : Addr) (d : List Int), vs = [.ref a] ∧ (SqL K H a (d.map V.int) ∨ SqT K H a (d.map V.int)) ∧ GivesT H Q (sum4 d)
end
end Gk
end

section
-- part Fll
set_option Elab.async false
set_option linter.all false
set_option maxRecDepth 100000
set_option maxHeartbeats 2000000
/-! Fll: lambdas as values: made, held in a list, handed to a def that calls them -/
namespace LmV
open PySem PySem.Spec PyProof.Rows L2 LamX
structure LamK where
  params : Arguments
  body : Expr
  scope : Scope
  q : Str
  cl : List (Str × Addr)
  c : Addr
/-- at f: such a lambda -/
def LamO (f : Addr) (m : LamK) : HO := .ext fun h => ∃ pm ctv : Value, h.get? f = some (PySem.W.kla_obj "<lambda>" m.q m.params m.body m.scope m.cl pm m.c ctv)
theorem lamO_ne {f : Addr} {m : LamK} (ps : Array Value) : LamO f m ≠ .tbl ps := fun z => by
  unfold LamO at z
  cases z
section
variable {X : Cx} {pins : List (Addr × Obj)} {σ : L2.St} {H : Hp} {s : Shared}
theorem inv_lam {m : LamK} {t' : Nat} {pm ctv : Value} (I : Inv X pins σ H s) : Inv X pins σ (upd H s.heap.objs.size (LamO s.heap.objs.size m)) { s with heap := s.heap.push (PySem.W.kla_obj "<lambda>" m.q m.params m.body m.scope m.cl pm m.c ctv), toks := t' } := by
  refine I.laid (a := s.heap.objs.size) (fun b u e => Heap.get?_push_of_some _ e) (Nat.le_refl _) ?_
  have e : (s.heap.push (PySem.W.kla_obj "<lambda>" m.q m.params m.body m.scope m.cl pm m.c ctv)).get? s.heap.objs.size = some (PySem.W.kla_obj "<lambda>" m.q m.params m.body m.scope m.cl pm m.c ctv) := Heap.get?_push_size _ rfl
  exact ⟨⟨pm, ctv, e⟩, ⟨_, e⟩, fun h1 h2 ⟨p, t, z⟩ st => ⟨p, t, st _ z⟩⟩
/-- the lambda is made, and known from now on -/
theorem lam_make3 {T : List (Addr × Str)} {c P : Addr} {params : Arguments} {body : Expr} {scope : Scope} {pos : Pos} {E : Value → Shared → Prop} {Q : Value → Shared → Prop} (I : Inv X pins σ H s) (TB : TabB X.base X.mg c P) (hcode : X.env.code = .ref c)
    (hm : (P, X.env.qual ++ "<lambda>") ∈ T) (hu : ∀ p ∈ T, p.1 = P → p.2 = X.env.qual ++ "<lambda>") (hT : Tabs T H) (hdef : defaultsOf params X.env = ([], [])) (hfree : ∀ y ∈ scope.names, y.2 = .free → ∃ c, X.env.cells.lookup y.1 = some c)
    (h : ∀ (f c' : Addr) (H1 : Hp) (z : Shared), Inv X pins σ H1 z → ExtN H H1 → Tabs T H1 → H f = none → H1 f = some (LamO f ⟨params, body, scope, X.env.qual ++ "<lambda>", cloFrom X.env.cells scope.names [], c'⟩) → H1 c' = some (CodeO c' (X.env.qual ++ "<lambda>")) → Q (.ref f) z) :
    wpAny (model X.prog X.w) X.A (eval (.Lambda params body scope pos) X.env) Q E s := by
  obtain ⟨ps, hP, htr, hnm⟩ := hT _ hm
  refine PySem.W.kla_eval hdef ?_
  have hPs : s.heap.get? P = some { cls := .none, data := .fields ps } := I.hok P _ hP
  have bP : s.heap.BuiltinsAt X.mg P := TB.bm.keeps I.bk
  cases hc : codeAmong pos ps.toList with
  | none =>
    refine PySem.W.kla_makeFunction (mg := X.mg) (c := c) (P := P) (ps := ps) (closure_ok hfree) I.ok.glob (I.mod.glob.keeps I.bk) hcode (TB.code.keeps I.bk) hPs htr hc TB.gP bP fun c' ctv h' tk hx hge hlt hrec htb => ?_
    obtain ⟨c2, oc, vs, t, e2, hoc, hd, hv⟩ := hrec
    cases e2
    have nC : H c' = none := I.hok.fresh hge
    have I1 := inv_table (t' := tk) (more := #[rawInt pos.line, rawInt pos.col, .ref c']) (h' := h') I hP (fun b o hb e => hx b o hb e) htb hge ⟨oc, vs, t, hoc, hd, hv⟩
    have hE : ExtN H (upd (upd H P (.tbl (ps ++ #[rawInt pos.line, rawInt pos.col, .ref c']))) c' (CodeO c' (X.env.qual ++ "<lambda>"))) := fun b u e n => by
      rw [upd_ne (ne_of_none e nC), upd_ne (fun z => n ps (Option.some.inj (e.symm.trans (by rw [z]; exact hP))))]
      exact e
    have eL : (ps ++ #[rawInt pos.line, rawInt pos.col, .ref c']).toList = ps.toList ++ [rawInt pos.line, rawInt pos.col, .ref c'] := by simp
    have T1 : Tabs T (upd (upd H P (.tbl (ps ++ #[rawInt pos.line, rawInt pos.col, .ref c']))) c' (CodeO c' (X.env.qual ++ "<lambda>"))) := fun p hp => by
      by_cases hb : p.1 = P
      · rw [hu p hp hb, hb]
        refine ⟨_, by rw [upd_ne (ne_of_none hP nC), upd_same], by rw [eL]; exact PySem.TriplesOk_snoc _ _ _ _ htr, fun p' cv hcv => ?_⟩
        rw [eL] at hcv
        rcases among_app _ htr hcv with z | z
        · obtain ⟨c0, e1, e2⟩ := hnm p' cv z
          exact ⟨c0, e1, hE _ _ e2 codeO_ne⟩
        · exact ⟨c', z, upd_same⟩
      · obtain ⟨ps', a1, a2, a3⟩ := hT p hp
        refine ⟨ps', by rw [upd_ne (ne_of_none a1 nC), upd_ne hb]; exact a1, a2, fun p' cv hcv => ?_⟩
        obtain ⟨c0, e1, e2⟩ := a3 p' cv hcv
        exact ⟨c0, e1, hE _ _ e2 codeO_ne⟩
    have eC : upd (upd H P (.tbl (ps ++ #[rawInt pos.line, rawInt pos.col, .ref c']))) c' (CodeO c' (X.env.qual ++ "<lambda>")) c' = some (CodeO c' (X.env.qual ++ "<lambda>")) := upd_same
    generalize upd (upd H P (.tbl (ps ++ #[rawInt pos.line, rawInt pos.col, .ref c']))) c' (CodeO c' (X.env.qual ++ "<lambda>")) = HA at I1 hE T1 eC
    have nF : HA h'.objs.size = none := I1.hok.fresh (Nat.le_refl _)
    have I2 := inv_lam (m := ⟨params, body, scope, X.env.qual ++ "<lambda>", cloFrom X.env.cells scope.names [], c'⟩) (t' := tk) (pm := (X.mg "__name__").getD .none) (ctv := ctv) I1
    exact h h'.objs.size c' _ _ I2 (fun b o e n => (upd_ne (ne_of_none (hE b o e n) nF)).trans (hE b o e n)) (T1.ext fun b o e => (upd_ne (ne_of_none e nF)).trans e) (I.hok.fresh (Nat.le_trans hge (Nat.le_of_lt hlt))) upd_same ((upd_ne (ne_of_none eC nF)).trans eC)
  | some cv =>
    obtain ⟨c', e, hco⟩ := hnm pos cv hc
    subst e
    refine PySem.W.kla_makeFunctionHit (mg := X.mg) (c := c) (P := P) (ps := ps) (closure_ok hfree) I.ok.glob (I.mod.glob.keeps I.bk) hcode (TB.code.keeps I.bk) hPs htr hc bP fun ctv h' tk hx hsz => ?_
    have I1 : Inv X pins σ H { s with heap := h', toks := tk } := I.kept hx
    have nF : H h'.objs.size = none := I1.hok.fresh (Nat.le_refl _)
    have I2 := inv_lam (m := ⟨params, body, scope, X.env.qual ++ "<lambda>", cloFrom X.env.cells scope.names [], c'⟩) (t' := tk) (pm := (X.mg "__name__").getD .none) (ctv := ctv) I1
    exact h h'.objs.size c' _ _ I2 (fun b o e n => (upd_ne (ne_of_none e nF)).trans e) (hT.ext fun b o e => (upd_ne (ne_of_none e nF)).trans e) nF upd_same ((upd_ne (ne_of_none hco nF)).trans hco)
end
/-- what the lambda's body does -/
structure LamR (X : Cx) (params : Arguments) (body : Expr) (scope : Scope) (t : XK → TE) (k : Nat) : Prop where
  names : LamS X.env.scope scope
  bind : ∀ (q : Str) (cl : List (Str × Addr)) (pm cv ctv : Value), bindArgs (PySem.W.kla_fn "<lambda>" q params body scope cl pm cv ctv) ⟨[], []⟩ = pure []
  does : ∀ (A : Around) (outer : List Env) (s : Shared) (H : Hp) (E : XK) (f c' : Addr), Room k (A.deeper (lamEnv X scope s.heap.objs.size f c')) → PE (lamCx X A outer s H E scope f c') body (t E)
/-- at f: a lambda of the running def that does t -/
def LamV (X : Cx) (k : Nat) (H : Hp) (f : Addr) (t : XK → TE) : Prop := ∃ params body scope c', LamR X params body scope t k ∧
  H f = some (LamO f ⟨params, body, scope, X.env.qual ++ "<lambda>", cloFrom X.env.cells scope.names [], c'⟩) ∧ H c' = some (CodeO c' (X.env.qual ++ "<lambda>"))
theorem LamV.at_ {X : Cx} {k : Nat} {H H' : Hp} {f : Addr} {t : XK → TE} (v : LamV X k H f t) (e : ∀ b o, H b = some o → (∀ ps, o ≠ .tbl ps) → (∀ xs, o ≠ .lst xs) → (∀ xs, o ≠ .dK xs) → (∀ C dx fs, o ≠ .ins C dx fs) → H' b = some o) : LamV X k H' f t := by
  obtain ⟨params, body, scope, c', h1, h2, h3⟩ := v
  exact ⟨params, body, scope, c', h1, e _ _ h2 lamO_ne (fun _ z => by unfold LamO at z; cases z) (fun _ z => by unfold LamO at z; cases z) (fun _ _ _ z => by unfold LamO at z; cases z),
    e _ _ h3 codeO_ne (fun _ z => by unfold CodeO at z; cases z) (fun _ z => by unfold CodeO at z; cases z) (fun _ _ _ z => by unfold CodeO at z; cases z)⟩
theorem LamV.ex {X : Cx} {k : Nat} {H H' : Hp} {f : Addr} {t : XK → TE} (v : LamV X k H f t) (e : ExtN H H') : LamV X k H' f t := v.at_ fun b o h n _ _ _ => e b o h n
def tLamV (X : Cx) (k : Nat) (T : List (Addr × Str)) (t : XK → TE) : TE := fun σ H Q => Tabs T H ∧ ∀ (f : Addr) (H1 : Hp), ExtN H H1 → Tabs T H1 → H f = none → LamV X k H1 f t → Q (.ref f) H1
section
variable {X : Cx}
/-- lambda: body -/
theorem pe_lamV {T : List (Addr × Str)} {c P : Addr} {k : Nat} {params : Arguments} {body : Expr} {scope : Scope} {t : XK → TE} {lpos : Pos} (TB : TabB X.base X.mg c P) (hcode : X.env.code = .ref c) (hm : (P, X.env.qual ++ "<lambda>") ∈ T) (hu : ∀ p ∈ T, p.1 = P → p.2 = X.env.qual ++ "<lambda>")
    (sc : Scope) (hsc : X.env.scope = sc) (L : lamSB sc scope = true) (hdef : defaultsOf params X.env = ([], [])) (hbind : ∀ (q : Str) (cl : List (Str × Addr)) (pm cv ctv : Value), bindArgs (PySem.W.kla_fn "<lambda>" q params body scope cl pm cv ctv) ⟨[], []⟩ = pure [])
    (hbody : ∀ (A : Around) (outer : List Env) (s : Shared) (H : Hp) (E : XK) (f c' : Addr), Room k (A.deeper (lamEnv X scope s.heap.objs.size f c')) → PE (lamCx X A outer s H E scope f c') body (t E)) :
    PE X (.Lambda params body scope lpos) (tLamV X k T t) := by
  refine ⟨fun pins s σ H Q I h => ?_⟩
  obtain ⟨hT, h⟩ := h
  have LS : LamS X.env.scope scope := hsc ▸ lamS_by L
  refine lam_make3 I TB hcode hm hu hT hdef (LS.has I.ok) fun f c' H1 z I1 eN T1 nf hf hc => ?_
  exact ⟨.ref f, H1, I1, rfl, h f H1 eN T1 nf ⟨params, body, scope, c', ⟨LS, hbind, hbody⟩, hf, hc⟩⟩
section
variable {pins : List (Addr × Obj)} {σ : L2.St} {H : Hp} {s : Shared}
/-- x(), in the def that got such a lambda -/
theorem pe_act3 {CXg : CXT} {Eg : XK} {Ng : List Str} {qg : Str} {sg : Scope} {g f c' : Addr} {cdg : Value} {params : Arguments} {body : Expr} {scope : Scope} {k i : Nat} {a : Str} {pn : List (Addr × Obj)} {xe : Value → Shared → Prop} {W : WX} {E : XK} {t : XK → TE} {p1 p2 : Pos}
    (I : Inv X pins σ H s) (R : LamR X params body scope t k)
    (tk : Takes ((cxOf CXg X.prog X.w X.K X.mg X.base Ng qg sg g cdg X.A X.stack s H Eg).tr pn xe) W) (hW : ∀ cls d σ' H', E cls d H' → W cls d σ' H') (hr : Room (k + 1) (X.A.deeper (envOfC qg sg s.heap.objs.size g cdg)))
    (hN : Ng[i]? = some a) (hv : Vis sg a) (hd : (a == ("__debug__" : Str)) = false := by decide) (hcd : (a == ("__classdict__" : Str)) = false := by decide) :
    PE ((cxOf CXg X.prog X.w X.K X.mg X.base Ng qg sg g cdg X.A X.stack s H Eg).tr pn xe) (.Call (.Name a p1) [] [] p2)
      (fun σZ HZ Q => σZ[i]? = some (some (.ref f)) ∧ HZ c' = some (CodeO c' (X.env.qual ++ "<lambda>")) ∧ HZ f = some (LamO f ⟨params, body, scope, X.env.qual ++ "<lambda>", cloFrom X.env.cells scope.names [], c'⟩) ∧ t E σ HZ Q) := by
  refine ⟨fun pinsZ sZ σZ HZ Q IZ h => ?_⟩
  obtain ⟨hs, hc, hf, ht⟩ := h
  refine wpAny_Call_Name_kw (thn ((pe_var (pos := p1) (i := i) hN hv hd hcd).run pinsZ sZ σZ HZ (fun v H1 => v = .ref f ∧ H1 = HZ) IZ ⟨.ref f, hs, rfl, rfl⟩) fun u s1 ⟨v, H1, I1, r1, ev, eH⟩ => ?_)
  subst ev
  rw [eH] at I1
  obtain rfl : u = Value.ref f := r1
  obtain ⟨⟨pm, ctv, of1⟩, _, _⟩ := I1.hok f _ hf
  refine PySem.W.callWith_F0 ⟨_, _, _, _, of1⟩ ?_
  have un : Un (frs X.stack) [] H HZ s.heap s1.heap := I1.base
  obtain ⟨⟨oc, vs, tt, hoc, hdc, hvc⟩, _, _⟩ := I1.hok c' _ hc
  have rc : codeAny (model X.prog X.w) (X.A.deeper (envOfC qg sg s.heap.objs.size g cdg)) (.call (.ref f) ⟨[], []⟩) (CR (L2.CX X.prog X.w) (envOfC qg sg s.heap.objs.size g cdg :: X.stack) X.prog X.w HZ s1 Q E) s1 := by
    refine PySem.W.kla_callFunE hr.depth of1 rfl R.names.co R.names.gen rfl ⟨c', oc, vs, tt, rfl, hoc, hdc, hvc⟩ ?_
    rw [R.bind]
    refine wpAny_pure (wpAny_newFunctionEnv (fun y hy => (R.names.own y hy).2) (fun y hy => absurd hy (by simp)) (fun h₁ hns hsb => ⟨I1.nolimit.fresh _ hsb, ?_⟩) R.names.kind)
    show codeAny _ _ (.expr body (lamEnv X scope s1.heap.objs.size f c')) _ _
    have kp : ∀ b o, s1.heap.get? b = some o → h₁.get? b = some o := fun b o e => hsb.extBut b o (Nat.ne_of_lt (Heap.lt_size e)) (Heap.get?_push_of_some _ e)
    have J : Inv (lamCx X (X.A.deeper (envOfC qg sg s.heap.objs.size g cdg)) (envOfC qg sg s.heap.objs.size g cdg :: X.stack) s1 HZ E scope f c') [] σ HZ { s1 with heap := h₁, toks := s1.toks + ([] : List (Str × Value)).length } := lam_start2 I R.names I1.env0 hr.hd un hns kp
    refine PySem.W.kla_codeExpr (wpAny_mono ((R.does _ _ s1 HZ E f c' (hr.deeper _)).run [] _ _ HZ Q J ht) (fun v z ⟨w', H', J', rv, q⟩ => ⟨w', H', J'.os, J'.bare, J'.base, J'.hok, rv, q⟩) fun e z hq => hq)
  have hx : Passes (L2.CX X.prog X.w) ((cxOf CXg X.prog X.w X.K X.mg X.base Ng qg sg g cdg X.A X.stack s H Eg).tr pn xe) E := passes_call tk hW
  refine wpAny_call (codeAny_mono rc fun r z hq => ?_)
  cases r with
  | error e => exact hx pinsZ σZ HZ s1 e z I1 hq
  | ok fl =>
    cases fl with
    | ret u => exact I1.after hq
    | next => exact False.elim hq
    | brk => exact False.elim hq
    | cont => exact False.elim hq
end
/-- told(e), e such a lambda -/
def tToldV (X : Cx) (k : Nat) (CS : Addr) (ret : Str) (te : TE) : TE := fun σ H Q => te σ H fun v H1 => ∃ f t, [v] = [V.ref f] ∧ LamV X k H1 f t ∧ TTold X.K CS ret (fun E H' Q' => t E σ H' Q') H1 Q
theorem pe_toldV {x a e e2 ret : Str} {te : TE} {ex : Expr} {g CS : Addr} {k j : Nat} {pg : Arguments} {sg : Scope} {dV kV doc pm cdv ct oc : Value} {an od : Option Addr} {osl : Array (Option Value)} {Ng : List Str} {p pos p1 p2 p3 p4 p5 p6 p7 p8 : Pos}
    (hg : Gl X x) (hm : X.mg x = some (.ref g)) (hk : PySem.W.keepIn X.K (.ref g) = true) (he : PE X ex te)
    (lk : X.K.lookup g = some ⟨oc, od, .func (PySem.W.fnOf x x pg [.Try [.Return (some (.Call (.Name a p1) [] [] p2)) p3] [.ExceptHandler (some (.Name e p4)) none [.Return (some (.Constant (.str ret) j p5)) p6] p7] [] [] p8] sg dV kV doc pm an cdv ct), osl⟩) (hcg : PySem.W.codeIn X.K cdv x = true)
    (hb : L2.Binds X.K (PySem.W.fnOf x x pg [.Try [.Return (some (.Call (.Name a p1) [] [] p2)) p3] [.ExceptHandler (some (.Name e p4)) none [.Return (some (.Constant (.str ret) j p5)) p6] p7] [] [] p8] sg dV kV doc pm an cdv ct) [a] []) (Sg : FnScope Ng [a] sg) (hNg : Ng[0]? = some a) (hva : Vis sg a) (hr : Room (k + 2) X.A)
    (hge : sg.names.lookup e = some .globalImplicit) (hme : X.mg e = some (.ref CS)) (hde : (e == ("__debug__" : Str)) = false) (h0 : ∀ f : Addr, (L2.start Ng [V.ref f])[0]? = some (some (V.ref f)))
    (hdb : (x == ("__debug__" : Str)) = false := by decide) (hd : (a == ("__debug__" : Str)) = false := by decide) (hcd : (a == ("__classdict__" : Str)) = false := by decide)
    (hst : starEach [ex] X.env = (false, eval ex X.env) :: starEach [] X.env := by rfl) (hpl : (backTo pos (starEach [] X.env)).any (·.1) = false := by rfl) :
    PE X (.Call (.Name x p) [ex] [] pos) (tToldV X k CS ret te) := by
  refine ⟨fun pins s σ H Q I h => ?_⟩
  have args : PA X [ex] (tCons te tNil) := pa_cons he pa_nil hst
  refine wpAny_Call_Name_kw (ld_glob I hg hm (PySem.W.callWith_K (h₀ := X.base) I.ok.mod.kin hk (thn (args.run pos pins s σ H (fun vs H1 => ∃ f t, vs = [V.ref f] ∧ LamV X k H1 f t ∧ TTold X.K CS ret (fun E H' Q' => t E σ H' Q') H1 Q) I h) ?_) hst hpl) hdb)
  rintro us z ⟨vs, H1, I1, rv, f, t, rfl, ⟨params, body, scope, c', R, hf, hc⟩, q⟩
  refine ⟨I1.kIn, ?_⟩
  rw [Vals.ref1 rv]
  have rc : codeAny (model X.prog X.w) X.A (.call (.ref g) ⟨[.ref f], []⟩) (CR C8.CX0 X.stack X.prog X.w H1 z Q C8.E0) z := by
    refine run_ofS (N := Ng) (ps := [a]) (us := [.ref f]) (vs := [.ref f]) lk hcg Sg hr I1.env0 (hb z [.ref f] I1.kIn rfl) (.cons rfl .nil) rfl fun hr' => ?_
    have G := told_gives (X := X) (Ng := Ng) (x := x) (a := a) (e := e) (q := X.env.qual ++ "<lambda>") (ret := ret) (sg := sg) (g := g) (CS := CS) (cdg := cdv) (j := j) (p1 := p1) (p2 := p2) (p3 := p3) (p4 := p4) (p5 := p5) (p6 := p6) (p7 := p7) (p8 := p8) hge hme hde h0
    obtain ⟨t', ht', hq'⟩ := G f c' z H1 Q (fun E H' Q' => H' f = some (LamO f ⟨params, body, scope, X.env.qual ++ "<lambda>", cloFrom X.env.cells scope.names [], c'⟩) ∧ t E σ H' Q')
      (fun W pn xe E p1 p2 tk hW => pe_act3 (i := 0) I1 R tk hW hr' hNg hva hd hcd) hc ⟨hf, q⟩
    exact ⟨t', ht'.nox, hq'⟩
  refine wpAny_call (codeAny_mono rc fun r s2 hq => ?_)
  cases r with
  | error e => exact (show False from hq).elim
  | ok fl =>
    cases fl with
    | ret u => exact I1.after hq
    | next => exact False.elim hq
    | brk => exact False.elim hq
    | cont => exact False.elim hq
end
end LmV
end

section
-- part Dq
set_option Elab.async false
set_option linter.all false
set_option maxRecDepth 100000
set_option maxHeartbeats 2000000
/-! Dq: classes with defaults; dicts: copied, compared, walked; heaps of which some objects are foreign -/
namespace Dq
open PySem PySem.Spec PyProof.Rows L2 Fw Gk
/-! ### a class made by its name, defaults behind -/
structure Mcd (P : Program) (w : World) (K : PySem.W.Frag) (mg : Str → Option Value) (base : Heap) (k : Nat) (x : Str) (C : Addr) (sp : Sp) (dvs : List V) : Prop where
  ex : ∃ (f : Addr) (fd : FuncData) (ps : List Str) (ds : List Value), Mk K C f ∧ FnOk P w K mg base (L2.CX P w) k f fd ps sp ∧ mg x = some (.ref C) ∧ Binds K fd ps ds ∧ Vals dvs ds
def tMkD (C : Addr) (sp : Sp) (dvs : List V) (E : XK) (t : TA) : TE := fun σ H Q => t σ H fun vs H1 => ∀ x dx, H1 x = none → H1 dx = none → dx ≠ x → sp (.ref x :: (vs ++ dvs)) (upd (upd H1 dx (.own x)) x (.ins C dx [])) (fun v H2 => v = .non ∧ Q (.ref x) H2) E
section
variable {X : Cx} {k j : Nat} {C : Addr} {x : Str} {sp : Sp} {dvs : List V} {E : XK} {p pos : Pos} {e : Expr} {es : List Expr} {t : TA}
theorem pe_mcd (c : Mcd X.prog X.w X.K X.mg X.base k x C sp dvs) (hr : Room j X.A) (hk : k + 1 ≤ j) (hg : Gl X x) (hx : Passes (L2.CX X.prog X.w) X E) (ha : PA X (e :: es) t)
    (hdb : (x == ("__debug__" : Str)) = false := by decide) (he : starEach (e :: es) X.env = (false, eval e X.env) :: starEach es X.env := by rfl) (hpl : (backTo pos (starEach es X.env)).any (·.1) = false := by rfl) :
    PE X (.Call (.Name x p) (e :: es) [] pos) (tMkD C sp dvs E t) := by
  obtain ⟨f, fd, ps, ds, M, F, hm, b, d⟩ := c.ex
  exact ⟨fun pins s σ H Q I h => (pe_make M F (hr.mono hk) hg hm b d hx ha hdb he hpl).run pins s σ H Q I h⟩
theorem w_mkd {σ : L2.St} {H : Hp} {Q : VK} (h : t σ H fun vs H1 => ∀ x dx, H1 x = none → H1 dx = none → dx ≠ x → sp (.ref x :: (vs ++ dvs)) (upd (upd H1 dx (.own x)) x (.ins C dx [])) (fun v H2 => v = .non ∧ Q (.ref x) H2) E) : tMkD C sp dvs E t σ H Q := h
end
section
variable {P : Program} {w : World} {K : PySem.W.Frag} {mg : Str → Option Value} {base : Heap} {x qual : Str} {st : Stmt} {C : Addr} {dvs : List V}
/-- n values are given (self counted), the defaults behind the first j fill up -/
theorem mcd_mk {N ps : List Str} {k : Nat} {sp : Sp} (n j : Nat) (F : ∃ (f : Addr) (fd : FuncData), FunD K "__init__" qual (defArgs st) (defBody st) (defScope st) dvs [] f fd ∧ Mk K C f) (hm : mg x = some (.ref C)) (S : FnScope N ps (defScope st)) (hd : dvs ≠ []) (hn : n + (dvs.length - j) = ps.length)
    (b : ∀ (T : Addr) (kV doc pm : Value) (an : Option Addr) (cdv ct : Value) (us its : List Value), us.length = n → its.length = dvs.length →
      ∃ k, bindArgs (PySem.W.fnOf "__init__" qual (defArgs st) (defBody st) (defScope st) (.ref T) kV doc pm an cdv ct) ⟨us, []⟩ = seqItems? (.ref T) >>= k ∧ k (some its.toArray) = pure (ps.zip (us ++ its.drop j)))
    (len : ∀ vs H Q E, sp vs H Q E → vs.length = ps.length)
    (hbody : ∀ (f : Addr) (cdv : Value) (A : Around) (outer : List Env) (s : Shared) (H : Hp) (vs : List V) (Q : VK) (E : XK), Room k (A.deeper (envOfC qual (defScope st) s.heap.objs.size f cdv)) → sp vs H Q E →
      ∃ t, PSs (cxOf (L2.CX P w) P w K mg base N qual (defScope st) f cdv A outer s H E) (defBody st) t ∧ t { nx := fun _ H' => Q .non H', rt := Q } (start N vs) H) : Mcd P w K mg base (k + 1) x C sp (dvs.drop j) := by
  obtain ⟨f, fd, F, M⟩ := F
  obtain ⟨ds, h1, h2⟩ := F.binds1 n j hd hn b
  exact ⟨f, fd, ps, ds, M, F.ok S len (hbody f), hm, h2, h1⟩
end
/-! ### dict(d) -/
section
variable {X : Cx}
def rCopy : List V → Hp → VK → Prop := fun xs H Q => ∃ (a : Addr) (kvs : List (Key × V)), xs = [.ref a] ∧ Rd H a (.dK kvs) ∧ ∀ p, H p = none → Q (.ref p) (upd H p (.dK kvs))
theorem call_dictC : CallR X (.type "dict") rCopy := by
  intro pins s σ H xs us Q I r q
  obtain ⟨a, kvs, ex, hq, q⟩ := q
  subst ex
  obtain ⟨u, eu, rx⟩ := vals1 r
  subst eu
  cases rx
  exact d_copyOf I hq fun p s' hp I' => ⟨.ref p, _, I', rfl, q p hp⟩
/-! ### dicts compared whose values are tuples of ints -/
def BlkEq (K : PySem.W.Frag) (H : Hp) (x y : V) : Prop := ∃ (a b : Addr) (d : List Int), x = .ref a ∧ y = .ref b ∧ SqT K H a (d.map V.int) ∧ SqT K H b (d.map V.int)
theorem hits_blk {pins : List (Addr × Obj)} {σ : L2.St} {H : Hp} {s : Shared} (I : Inv X pins σ H s) {A : Around} (hu : A.units + 1 < cLine) {ls : List (Key × V)} {vb : List (Key × Value)} (rb : KV ls vb) {ks : List (Key × V)} {va : List (Key × Value)} (ra : KV ks va) :
    (∀ p ∈ ks, ∃ u, valV ls p.1 = some u ∧ BlkEq X.K H p.2 u) → PySem.W.KeqHits A s vb va true := by
  unfold KV at ra
  induction ra with
  | nil => intro _; exact .nil
  | @cons p q ps qs h t ih =>
    intro hp
    obtain ⟨h1, h2⟩ := h
    obtain ⟨u, e, a, b, d, e1, e2, sa, sb⟩ := hp p List.mem_cons_self
    have rr : RelO (some u) (valueAt vb p.1) := by rw [← e]; exact rb.val p.1
    obtain ⟨y, hy, ry⟩ := rr.some_of
    obtain ⟨key, v⟩ := q
    have h1' : p.1 = key := h1
    rw [h1'] at hy
    show PySem.W.KeqHits A s vb ((key, v) :: qs) (true && true)
    subst e2
    have h2' : RelV p.2 v := h2
    rw [e1] at h2'
    obtain ⟨as, r1⟩ := Dp.reads I _ _ _ (Dp.tup sa (dp_ints d)) h2'
    obtain ⟨bs, r2⟩ := Dp.reads I _ _ _ (Dp.tup sb (dp_ints d)) ry
    have f := fine_ints d
    have dep : (PyData.tuple (d.map PyData.int)).depth ≤ 1 := f.2.1
    have k := SeqAt.eqAt_reads _ _ A s v y as bs r1 r2 f.1 f.1 (by omega)
    rw [f.2.2] at k
    exact .hit hy k (ih fun p' hm => hp p' (List.mem_cons_of_mem _ hm))
def rNeDV (K : PySem.W.Frag) : R2 := fun x y H Q => ∃ a b ks ls, x = .ref a ∧ y = .ref b ∧ H a = some (.dK ks) ∧ H b = some (.dK ls) ∧ ks.length = ls.length ∧ (∀ p ∈ ks, ∃ u, valV ls p.1 = some u ∧ BlkEq K H p.2 u) ∧ Q (.bl false) H
theorem op_ne_dictV (hu : X.A.units + 64 < cLine) : OpR X (compareOp .NotEq) (rNeDV X.K) := by
  intro pins s σ H x y v u Q I rx ry h
  obtain ⟨a, b, ks, ls, rfl, rfl, ea, eb, hlen, hp, q⟩ := h
  obtain rfl : v = Value.ref a := rx
  obtain rfl : u = Value.ref b := ry
  obtain ⟨_, ya, va, ra, da⟩ := (show ObjOk X.prog X.w H s.heap a (.dK ks) from I.hok a _ ea)
  obtain ⟨_, yb, vb, rb, db⟩ := (show ObjOk X.prog X.w H s.heap b (.dK ls) from I.hok b _ eb)
  have hl : va.length = vb.length := by rw [← ra.length, ← rb.length]; exact hlen
  exact PySem.W.keq_ne (knd := mixKind X.prog X.w) (r := true) ya yb da db (by omega) (fun _ => hits_blk I (A := X.A.in1) (by show X.A.units + 1 + 1 < cLine; omega) rb ra hp) (fin_bl I q (by simp [hl]))
end
/-! ### steps of the walk -/
section
variable {X : Cx} {K : PySem.W.Frag} {σ : L2.St} {H : Hp} {Q : VK} {td ty tx tv tk : TE} {tt : TT} {g : TG} {vs : List Nat} {D : Ends}
theorem w_dget (h : td σ H fun x H1 => ty σ H1 fun y H2 => ∃ a v, x = .ref a ∧ DGet H2 a y (some v) ∧ Q v H2) : tDGet td ty σ H Q := h
theorem w_din (h : ty σ H fun y H1 => td σ H1 fun x H2 => ∃ a o, x = .ref a ∧ DGet H2 a y o ∧ Q (.bl o.isSome) H2) : tDIn ty td σ H Q := h
theorem w_dnotin (h : ty σ H fun y H1 => td σ H1 fun x H2 => ∃ a o, x = .ref a ∧ DGet H2 a y o ∧ Q (.bl (!o.isSome)) H2) : tDNotIn ty td σ H Q := h
theorem w_dget2 (h : td σ H fun x H1 => ∃ a, x = .ref a ∧ IsD H1 a ∧ ty σ H1 fun y H2 => tx σ H2 fun z H3 => ∃ o, DGet H3 a y o ∧ Q (o.getD z) H3) : tDGet2 td ty tx σ H Q := h
theorem w_dnew (h : ∀ p, H p = none → Q (.ref p) (upd H p (.dK []))) : tDNewK σ H Q := h
theorem w_fldaug {ta : TE} {rd : V → V → Hp → VK → Prop} {f : Str} (h : ta σ H fun x H1 => ∃ a C dx fs v, x = .ref a ∧ H1 a = some (.ins C dx fs) ∧ Cls K C ∧ NoAttr K C f ∧ fs.lookup f = some v ∧
  tv σ H1 fun y H2 => rd v y H2 fun z H3 => ∃ dx' fs', H3 a = some (.ins C dx' fs') ∧ fs'.length < 1000 ∧ D.nx σ (upd H3 a (.ins C dx' (putF f z fs')))) : sFldAug K ta tv rd f D σ H := h
/-- {k: v for k in d} -/
theorem w_dcK {i : Nat} {d : Addr} {kvs : List (Key × V)} (hv : σ[i]? = some (some (.ref d))) (hd : H d = some (.dK kvs)) (h : ∀ o D, upd H d (.frz o (.dK kvs)) D = none → ∃ Pv : Nat → Hp → Prop, Pv 0 (upd (upd H d (.frz o (.dK kvs))) D (.dK [])) ∧ (∀ i H, i ≤ kvs.length → Pv i H → H d = some (.frz o (.dK kvs))) ∧
      (∀ i k v H, kvs[i]? = some (k, v) → Pv i H → g (kV k) (wipe σ vs) H fun σ2 H2 => wipe σ2 vs = wipe σ vs ∧ tt σ2 H2 fun b H3 =>
        if b = true then tk σ2 H3 fun y H4 => tv σ2 H4 fun z H5 => ∃ kvs k, y = kV k ∧ H5 D = some (.dK kvs) ∧ kvs.length < sizeLine ∧ Pv (i + 1) (upd H5 D (.dK (putK kvs k z))) else Pv (i + 1) H3) ∧
      (∀ H, Pv kvs.length H → Q (.ref D) (upd H d (.dK kvs)))) : tLockE (tDc (iKeys (tVar i)) g tt tk tv vs) σ H Q := by
  refine ⟨d, .dK kvs, hd, trivial, fun o => ?_⟩
  refine ⟨.ref d, hv, d, o, rfl, .inl ⟨kvs, upd_same, fun D hD => ?_⟩⟩
  obtain ⟨Pv, h0, hl, hs, hq⟩ := h o D hD
  refine ⟨fun i m H => m = kvs.length - i ∧ i ≤ kvs.length ∧ Pv i H, ⟨kvs.length, by simp, Nat.zero_le _, h0⟩, ?_⟩
  rintro i m H ⟨rfl, hi, p⟩
  have q := hl i H hi p
  by_cases hlt : i < kvs.length
  · refine .inr ⟨walk_keys.goes i H hlt q, Pv (i + 1), fun H' p' => ⟨kvs.length - (i + 1), by omega, rfl, hlt, p'⟩, fun x H' y => ?_⟩
    obtain ⟨rfl, k, v, e, rfl⟩ := walk_keys.yields i H x H' hlt q y
    exact hs i k v _ e p
  · have e : i = kvs.length := by omega
    subst e
    exact .inl ⟨walk_keys.stops H q, q, hq H p⟩
end
section
variable {K : PySem.W.Frag} {σ : L2.St} {H : Hp}
theorem for_enumL {g : TG} {tb : TS} {D : Ends} {a : Addr} {xs : List V} (Pv : Nat → L2.St → Hp → Prop) (h0 : Pv 0 σ H) (hq : ∀ i σ H, Pv i σ H → SqL K H a xs)
    (hs : ∀ (i : Nat) (x : V) (T : Addr) (σ : L2.St) (H : Hp), xs[i]? = some x → Pv i σ H → H T = none → g (.ref T) σ (upd H T (.tup [.int (i : Nat), x])) fun σ2 H2 => tb { D with nx := Pv (i + 1), ct := Pv (i + 1), bk := D.nx } σ2 H2)
    (hd : ∀ σ H, Pv xs.length σ H → D.nx σ H) :
    ∃ W : Nat → Nat → L2.St → Hp → Prop, (∃ m, W 0 m σ H) ∧ ∀ i m σ H, W i m σ H →
      ((Ite K a).stop i H ∧ D.nx σ H) ∨ ((Ite K a).go i H ∧ ∃ N : L2.St → Hp → Prop, (∀ σ' H', N σ' H' → ∃ m', m' < m ∧ W (i + 1) m' σ' H') ∧ ∀ x H', (Ite K a).yld i H x H' → g x σ H' fun σ2 H2 => tb { D with nx := N, ct := N, bk := D.nx } σ2 H2) :=
  for_it walk_enum Pv h0 (fun i σ H _ p => hq i σ H p) (fun i v σ H H' _ p y => by
    obtain ⟨T, x, y, rfl, hT, rfl, e1, e2⟩ := y
    cases e1
    exact hs i _ T σ H e2 p hT) hd
end
/-! ### foreign objects -/
/-- all but the objects of L are kept -/
def Fr (L : List Addr) (H H' : Hp) : Prop := ∀ b o, b ∉ L → H b = some o → H' b = some o
theorem Fr.refl (L : List Addr) (H : Hp) : Fr L H H := fun _ _ _ h => h
theorem Fr.trans {L : List Addr} {H H1 H2 : Hp} (a : Fr L H H1) (b : Fr L H1 H2) : Fr L H H2 := fun c o n h => b c o n (a c o n h)
theorem Fr.of {L : List Addr} {H H' : Hp} (s : Same H H') : Fr L H H' := fun b o _ e => s b o e
theorem Fr.up {L : List Addr} {H H' : Hp} {a : Addr} {o : HO} (k : Fr L H H') (h : a ∈ L) : Fr L H (upd H' a o) := fun b u n e => by
  rw [upd_ne (fun z : b = a => n (by rw [z]; exact h))]
  exact k b u n e
theorem Fr.new {L : List Addr} {H H' : Hp} {a : Addr} {o : HO} (k : Fr L H H') (h : H a = none) : Fr L H (upd H' a o) := fun b u n e => by
  rw [upd_ne (ne_of_none e h)]
  exact k b u n e
theorem Fr.le {L M : List Addr} {H H' : Hp} (k : Fr L H H') (h : ∀ a ∈ L, a ∈ M) : Fr M H H' := fun b u n e => k b u (fun z => n (h b z)) e
/-- tuples stay -/
def Tu (H H' : Hp) : Prop := ∀ a xs, H a = some (.tup xs) → H' a = some (.tup xs)
end Dq
namespace Dq
open PySem PySem.Spec PyProof.Rows L2 Fw Gk
section
variable {H : Hp} {Q : VK} {v : V}
theorem w_isNb {b : Bool} (hd : decide (v = V.non) = b) (q : Q (.bl b) H) : rIsN v V.non H Q := ⟨rfl, by rw [hd]; exact q⟩
theorem w_notNb {b : Bool} (hd : decide (v = V.non) = b) (q : Q (.bl (!b)) H) : rNotN v V.non H Q := ⟨rfl, by rw [hd]; exact q⟩
theorem w_notN0 (q : Q (.bl false) H) : rNotN .non V.non H Q := w_notNb rfl q
theorem w_isN0 (q : Q (.bl true) H) : rIsN .non V.non H Q := w_isNb rfl q
theorem w_notNR {a : Addr} (q : Q (.bl true) H) : rNotN (.ref a) V.non H Q := w_notNb (b := false) (decide_eq_false (fun z => by cases z)) q
theorem w_isNR {a : Addr} (q : Q (.bl false) H) : rIsN (.ref a) V.non H Q := w_isNb (decide_eq_false (fun z => by cases z)) q
theorem w_notNI {a : Int} (q : Q (.bl true) H) : rNotN (.int a) V.non H Q := w_notNb (b := false) (decide_eq_false (fun z => by cases z)) q
theorem w_isNI {a : Int} (q : Q (.bl false) H) : rIsN (.int a) V.non H Q := w_isNb (decide_eq_false (fun z => by cases z)) q
theorem look1 {f g : Str} {x : V} {r : List (Str × V)} (h : (g == f) = true) : List.lookup g ((f, x) :: r) = some x := by rw [List.lookup_cons, h]
theorem look0 {f g : Str} {x : V} {r : List (Str × V)} (h : (g == f) = false) : List.lookup g ((f, x) :: r) = r.lookup g := by rw [List.lookup_cons, h]
theorem w_aSub {i j : Int} (q : Q (.int (i - j)) H) : rSub (.int i) (.int j) H Q := ⟨i, j, rfl, rfl, q⟩
theorem w_aAdd {i j : Int} (q : Q (.int (i + j)) H) : rAdd (.int i) (.int j) H Q := ⟨i, j, rfl, rfl, q⟩
theorem w_orV {ta tb : TE} {σ : L2.St} (h : ta σ H fun x H1 => ∃ c, x = .bl c ∧ if c = true then Q (.bl true) H1 else tb σ H1 Q) : tOrV ta tb σ H Q := h
theorem w_andV {ta tb : TE} {σ : L2.St} (h : ta σ H fun x H1 => ∃ c, x = .bl c ∧ if c = true then tb σ H1 Q else Q (.bl false) H1) : tAndV ta tb σ H Q := h
theorem w_js {t : TE} {ts : List TE} {acc : Str} {σ : L2.St} {R : Str → Hp → Prop} (h : t σ H fun x H1 => ∃ y : Str, x = .str y ∧ (acc ++ y).length ≤ sizeLine ∧ tJs ts (acc ++ y) σ H1 R) : tJs (t :: ts) acc σ H R := h
theorem w_js0 {acc : Str} {σ : L2.St} {R : Str → Hp → Prop} (q : R acc H) : tJs [] acc σ H R := q
theorem w_fm {te : TE} {σ : L2.St} (h : te σ H fun x H1 => (∃ y : Str, x = .str y ∧ y.length ≤ sizeLine ∧ Q (.str y) H1) ∨ ∃ i : Int, x = .int i ∧ i.natAbs.log2 < 1920 ∧ Q (.str (toString i)) H1) : tFmt te σ H Q := h
theorem fmt_n {n : Nat} (h : n < 10 ^ 7) {acc : Str} (ha : acc.length ≤ 1000) {R : Str → Prop} {B : Prop} (q : ∀ z, R z) : B ∨ ∃ i : Int, V.int (n : Int) = .int i ∧ i.natAbs.log2 < 1920 ∧ ∃ y : Str, V.str (toString i) = .str y ∧ (acc ++ y).length ≤ sizeLine ∧ R (acc ++ y) := by
  refine .inr ⟨(n : Int), rfl, ?_, ⟨_, rfl, ?_, q _⟩⟩
  · by_cases h0 : n = 0
    · subst h0
      decide
    · rw [Int.natAbs_natCast]
      have := (Nat.log2_lt h0 (k := 24)).mpr (Nat.lt_of_lt_of_le h (by decide))
      omega
  · rw [str_len_app]
    exact Nat.le_trans (Nat.add_le_add ha (num_short h)) (by decide)
theorem fmt_j {n : Nat} (h : n < 10 ^ 7) {acc : Str} (ha : acc.length ≤ 1000) {σ : L2.St} {R : Str → Hp → Prop} {B : Prop} (q : ∀ z, R z H) : B ∨ ∃ i : Int, V.int (n : Int) = .int i ∧ i.natAbs.log2 < 1920 ∧ ∃ y : Str, V.str (toString i) = .str y ∧ (acc ++ y).length ≤ sizeLine ∧ tJs [] (acc ++ y) σ H R :=
  fmt_n (R := fun z => tJs [] z σ H R) h ha fun z => q z
theorem w_ifV {tt : TT} {ta tb : TE} {σ : L2.St} {R : VK} (G : V → Hp → Prop) (h1 : ∀ R' : VK, (∀ v H', G v H' → R' v H') → tIf tt ta tb σ H R') (h2 : ∀ v H', G v H' → R v H') : tIf tt ta tb σ H R := h1 R h2
theorem putF_ne {f g : Str} {v x : V} {r : List (Str × V)} (h : (g == f) = false) : putF f v ((g, x) :: r) = (g, x) :: putF f v r := by
  rw [putF, if_neg (fun z => by rw [z] at h; simp at h)]
theorem putF_eq {f : Str} {v x : V} {r : List (Str × V)} : putF f v ((f, x) :: r) = (f, v) :: r := by rw [putF, if_pos rfl]
theorem pc1 {p : Str × V} {r s : List (Str × V)} (h : r = s) : p :: r = p :: s := by rw [h]
end
end Dq
end

section
-- part K09M
set_option Elab.async false
set_option linter.all false
set_option maxRecDepth 100000
set_option maxHeartbeats 2000000
/-! K09M: disks as data; which objects stay -/
namespace M9
open PySem PySem.Spec PyProof.Rows L2 Fw Gk LamX
/-- may be written -/
def Mt : HO → Prop
  | .lst _ => True
  | .dK _ => True
  | .ins _ _ _ => True
  | _ => False
/-- what stays when objects of M are written: everything else, and whatever can't be written -/
def Cs (M : List Addr) (H H' : Hp) : Prop := ∀ b o, H b = some o → (b ∉ M ∨ ¬ Mt o) → H' b = some o
/-- .. but tables -/
def Ch (M : List Addr) (H H' : Hp) : Prop := ∀ b o, H b = some o → (∀ ps, o ≠ .tbl ps) → (b ∉ M ∨ ¬ Mt o) → H' b = some o
theorem Cs.ch {M : List Addr} {H H' : Hp} (s : Cs M H H') : Ch M H H' := fun b o e _ h => s b o e h
theorem Cs.refl (M : List Addr) (H : Hp) : Cs M H H := fun _ _ h _ => h
theorem Cs.trans {M : List Addr} {H H1 H2 : Hp} (a : Cs M H H1) (b : Cs M H1 H2) : Cs M H H2 := fun c o h n => b c o (a c o h n) n
theorem Cs.of {M : List Addr} {H H' : Hp} (s : Same H H') : Cs M H H' := fun b o e _ => s b o e
theorem Cs.le {M N : List Addr} {H H' : Hp} (s : Cs M H H') (h : ∀ a ∈ M, a ∈ N) : Cs N H H' := fun b o e n => s b o e (n.imp (fun n z => n (h b z)) id)
theorem Cs.wr {M : List Addr} {H H' : Hp} {a : Addr} {u o : HO} (s : Cs M H H') (h : a ∈ M) (e : H' a = some u) (m : Mt u) : Cs M H (upd H' a o) := fun b v eb n => by
  have k := s b v eb n
  refine (upd_ne fun z => ?_).trans k
  rw [z] at n k
  rw [e] at k
  cases k
  exact n.elim (fun n => n h) fun n => n m
theorem Cs.new {M : List Addr} {H H' : Hp} {a : Addr} {o : HO} (s : Cs M H H') (e : H' a = none) : Cs M H (upd H' a o) := fun b v eb n => by
  have k := s b v eb n
  exact (upd_ne (ne_of_none k e)).trans k
/-- a new object is written again -/
theorem Cs.own {M : List Addr} {H H' : Hp} {a : Addr} {o : HO} (s : Cs M H H') (e : H a = none) : Cs M H (upd H' a o) := fun b v eb n => (upd_ne (ne_of_none eb e)).trans (s b v eb n)
theorem Ch.refl (M : List Addr) (H : Hp) : Ch M H H := fun _ _ h _ _ => h
theorem Ch.trans {M : List Addr} {H H1 H2 : Hp} (a : Ch M H H1) (b : Ch M H1 H2) : Ch M H H2 := fun c o h t n => b c o (a c o h t n) t n
theorem Ch.of {M : List Addr} {H H' : Hp} (s : Same H H') : Ch M H H' := (Cs.of s).ch
theorem Ch.ex {M : List Addr} {H H' : Hp} (s : ExtN H H') : Ch M H H' := fun b o e t _ => s b o e t
theorem Ch.le {M N : List Addr} {H H' : Hp} (s : Ch M H H') (h : ∀ a ∈ M, a ∈ N) : Ch N H H' := fun b o e t n => s b o e t (n.imp (fun n z => n (h b z)) id)
theorem Cs.free {M : List Addr} {H H' : Hp} {p : Addr} (s : Cs M H H') (h : ∀ a ∈ M, ∃ o, H' a = some o) (e : H' p = none) : H p = none := by
  cases q : H p with
  | none => rfl
  | some o =>
    by_cases n : p ∈ M
    · obtain ⟨u, z⟩ := h p n
      rw [e] at z
      cases z
    · have z := s p o q (.inl n)
      rw [e] at z
      cases z
theorem Cs.kp {d : Addr} {H H' : Hp} (k : Kp d H H') (h : Dice H d) : Cs [d] H H' := fun b o e n => k b o (fun z => by
  obtain ⟨x, y, z', e'⟩ := h
  rw [z, e'] at e
  cases e
  exact n.elim (fun n => n (by rw [z]; exact List.mem_singleton.mpr rfl)) fun n => n trivial) e
theorem Ch.at_ {M : List Addr} {H H' : Hp} {a : Addr} {o : HO} (s : Ch M H H') (e : H a = some o) (t : ∀ ps, o ≠ .tbl ps) (n : a ∉ M) : H' a = some o := s a o e t (.inl n)
theorem Ch.lst {M : List Addr} {H H' : Hp} {a : Addr} {xs : List V} (s : Ch M H H') (e : H a = some (.lst xs)) (n : a ∉ M) : H' a = some (.lst xs) := s.at_ e (fun _ z => by cases z) n
theorem Ch.dk {M : List Addr} {H H' : Hp} {a : Addr} {xs : List (Key × V)} (s : Ch M H H') (e : H a = some (.dK xs)) (n : a ∉ M) : H' a = some (.dK xs) := s.at_ e (fun _ z => by cases z) n
theorem Ch.ins {M : List Addr} {H H' : Hp} {a C dx : Addr} {fs : List (Str × V)} (s : Ch M H H') (e : H a = some (.ins C dx fs)) (n : a ∉ M) : H' a = some (.ins C dx fs) := s.at_ e (fun _ z => by cases z) n
theorem Ch.tup {M : List Addr} {H H' : Hp} {a : Addr} {xs : List V} (s : Ch M H H') (e : H a = some (.tup xs)) : H' a = some (.tup xs) := s a _ e (fun _ z => by cases z) (.inr id)
theorem Ch.sqT {K : PySem.W.Frag} {M : List Addr} {H H' : Hp} {a : Addr} {xs : List V} (s : Ch M H H') (h : SqT K H a xs) : SqT K H' a xs := by
  rcases h with (h | ⟨o, h⟩) | h
  · exact .inl (.inl (s.tup h))
  · exact .inl (.inr ⟨o, s a _ h (fun _ z => by cases z) (.inr id)⟩)
  · exact .inr h
theorem Tabs.cs {T : List (Addr × Str)} {M : List Addr} {H H' : Hp} (t : Tabs T H) (s : Cs M H H') : Tabs T H' := fun p hp => by
  obtain ⟨ps, h1, h2, h3⟩ := t p hp
  refine ⟨ps, s _ _ h1 (.inr id), h2, fun pos cv hc => ?_⟩
  obtain ⟨c0, e1, e2⟩ := h3 pos cv hc
  exact ⟨c0, e1, s _ _ e2 (.inr fun z => by unfold CodeO at z; exact z)⟩
/-! ### blocks -/
def BlkA (K : PySem.W.Frag) (H : Hp) (a : Addr) (d : List Int) : Prop := SqT K H a (d.map V.int) ∧ d.length = 8
/-- a dict of blocks, as data -/
abbrev Bs := List (Key × List Int)
def BsR (K : PySem.W.Frag) (H : Hp) : List (Key × V) → Bs → Prop := Paired fun p m => p.1 = m.1 ∧ ∃ a, p.2 = .ref a ∧ BlkA K H a m.2
theorem BlkA.ch {K : PySem.W.Frag} {M : List Addr} {H H' : Hp} {a : Addr} {d : List Int} (s : Ch M H H') (h : BlkA K H a d) : BlkA K H' a d := ⟨s.sqT h.1, h.2⟩
theorem BsR.ch {K : PySem.W.Frag} {M : List Addr} {H H' : Hp} (s : Ch M H H') : ∀ {kvs : List (Key × V)} {ms : Bs}, BsR K H kvs ms → BsR K H' kvs ms
  | _, _, .nil => .nil
  | _, _, .cons h r => .cons ⟨h.1, h.2.elim fun a h => ⟨a, h.1, h.2.ch s⟩⟩ (BsR.ch s r)
def valM (ms : Bs) (k : Key) : Option (List Int) := (ms.find? fun m => decide (m.1 = k)).map (·.2)
def putM (ms : Bs) (k : Key) (d : List Int) : Bs := if (ms.any fun m => decide (m.1 = k)) = true then ms.map fun m => if m.1 = k then (m.1, d) else m else ms ++ [(k, d)]
theorem bsR_val {K : PySem.W.Frag} {H : Hp} (k : Key) : ∀ {kvs : List (Key × V)} {ms : Bs}, BsR K H kvs ms → (valV kvs k = none ∧ valM ms k = none) ∨ ∃ a d, valV kvs k = some (.ref a) ∧ valM ms k = some d ∧ BlkA K H a d
  | _, _, .nil => .inl ⟨rfl, rfl⟩
  | p :: kvs, m :: ms, .cons h r => by
    obtain ⟨h1, a, h2, h3⟩ := h
    by_cases e : p.1 = k
    · refine .inr ⟨a, m.2, ?_, ?_, h3⟩
      · rw [valV_pos e, h2]
      · unfold valM
        rw [List.find?_cons, decide_eq_true (h1 ▸ e)]
        rfl
    · rw [valV_neg e]
      have : valM (m :: ms) k = valM ms k := by
        unfold valM
        rw [List.find?_cons, decide_eq_false (h1 ▸ e)]
      rw [this]
      exact bsR_val k r
theorem bsR_any {K : PySem.W.Frag} {H : Hp} (k : Key) : ∀ {kvs : List (Key × V)} {ms : Bs}, BsR K H kvs ms → (kvs.any fun p => decide (p.1 = k)) = ms.any fun m => decide (m.1 = k)
  | _, _, .nil => rfl
  | p :: kvs, m :: ms, .cons h r => by rw [List.any_cons, List.any_cons, h.1, bsR_any k r]
theorem bsR_repl {K : PySem.W.Frag} {H : Hp} {k : Key} {a : Addr} {d : List Int} (h : BlkA K H a d) : ∀ {kvs : List (Key × V)} {ms : Bs}, BsR K H kvs ms → BsR K H (kvs.map fun p => if p.1 = k then (p.1, .ref a) else p) (ms.map fun m => if m.1 = k then (m.1, d) else m)
  | _, _, .nil => .nil
  | p :: kvs, m :: ms, .cons g r => by
    rw [List.map_cons, List.map_cons]
    refine .cons ?_ (bsR_repl h r)
    by_cases e : p.1 = k
    · rw [if_pos e, if_pos (g.1 ▸ e)]
      exact ⟨g.1, a, rfl, h⟩
    · rw [if_neg e, if_neg (g.1 ▸ e)]
      exact g
theorem BsR.put {K : PySem.W.Frag} {H : Hp} {k : Key} {a : Addr} {d : List Int} (h : BlkA K H a d) {kvs : List (Key × V)} {ms : Bs} (r : BsR K H kvs ms) : BsR K H (putK kvs k (.ref a)) (putM ms k d) := by
  unfold putK putM
  rw [bsR_any k r]
  split
  · exact bsR_repl h r
  · exact Paired.snoc r ⟨rfl, a, rfl, h⟩
theorem keys_put (kvs : List (Key × V)) (k : Key) (v : V) : (putK kvs k v).map (·.1) = if (kvs.any fun p => decide (p.1 = k)) = true then kvs.map (·.1) else kvs.map (·.1) ++ [k] := by
  unfold putK
  split
  · rw [List.map_map]
    refine List.map_congr_left fun p _ => ?_
    show (if p.1 = k then (p.1, v) else p).1 = p.1
    split <;> rfl
  · rw [List.map_append]; rfl
theorem nodup_put {kvs : List (Key × V)} {k : Key} {v : V} (h : (kvs.map (·.1)).Nodup) : ((putK kvs k v).map (·.1)).Nodup := by
  rw [keys_put]
  split
  · exact h
  · rename_i z
    refine List.nodup_append.mpr ⟨h, List.nodup_cons.mpr ⟨List.not_mem_nil, List.nodup_nil⟩, fun a ha b hb e => z ?_⟩
    rw [List.mem_singleton.mp hb] at e
    obtain ⟨p, hp, e2⟩ := List.mem_map.mp ha
    exact List.any_eq_true.mpr ⟨p, hp, decide_eq_true (e2.trans e)⟩
theorem len_put (kvs : List (Key × V)) (k : Key) (v : V) : (putK kvs k v).length ≤ kvs.length + 1 := length_putK kvs k v
/-! ### writes -/
/-- the writes that wait: block, the address of its bytes -/
abbrev Wq := List (Int × Addr)
def putW (ws : Wq) (kvs : List (Key × V)) : List (Key × V) := ws.foldl (fun k p => putK k (.inl p.1) (.ref p.2)) kvs
theorem putW_snoc (ws : Wq) (p : Int × Addr) (kvs : List (Key × V)) : putW (ws ++ [p]) kvs = putK (putW ws kvs) (.inl p.1) (.ref p.2) := by
  unfold putW
  rw [List.foldl_append]
  rfl
theorem val_putW (k : Key) : ∀ (ws : Wq) (kvs : List (Key × V)), valV (putW ws kvs) k = (valV (putW ws []) k).or (valV kvs k)
  | [], kvs => rfl
  | p :: ws, kvs => by
    show valV (putW ws (putK kvs (.inl p.1) (.ref p.2))) k = (valV (putW ws (putK [] (.inl p.1) (.ref p.2))) k).or (valV kvs k)
    rw [val_putW k ws (putK kvs (.inl p.1) (.ref p.2)), val_putW k ws (putK [] (.inl p.1) (.ref p.2)), valV_put, valV_put]
    cases valV (putW ws []) k with
    | some v => rfl
    | none =>
      split
      · rfl
      · rfl
theorem nodup_putW : ∀ (ws : Wq) {kvs : List (Key × V)}, (kvs.map (·.1)).Nodup → ((putW ws kvs).map (·.1)).Nodup
  | [], _, h => h
  | _ :: ws, _, h => nodup_putW ws (nodup_put h)
theorem len_putW : ∀ (ws : Wq) (kvs : List (Key × V)), (putW ws kvs).length ≤ kvs.length + ws.length
  | [], _ => Nat.le_refl _
  | p :: ws, kvs => by
    have h1 := len_putW ws (putK kvs (.inl p.1) (.ref p.2))
    have h2 := len_put kvs (.inl p.1) (.ref p.2)
    have e : (p :: ws).length = ws.length + 1 := rfl
    rw [e]
    exact Nat.le_trans h1 (by omega)
/-- every value is a block -/
def AllB (K : PySem.W.Frag) (H : Hp) (kvs : List (Key × V)) : Prop := ∃ ms, BsR K H kvs ms
theorem AllB.ch {K : PySem.W.Frag} {M : List Addr} {H H' : Hp} {kvs : List (Key × V)} (s : Ch M H H') (h : AllB K H kvs) : AllB K H' kvs := h.elim fun ms h => ⟨ms, h.ch s⟩
def WsB (K : PySem.W.Frag) (H : Hp) (ws : Wq) : Prop := ∀ p ∈ ws, ∃ d, BlkA K H p.2 d
theorem WsB.ch {K : PySem.W.Frag} {M : List Addr} {H H' : Hp} {ws : Wq} (s : Ch M H H') (h : WsB K H ws) : WsB K H' ws := fun p hp => (h p hp).elim fun d h => ⟨d, h.ch s⟩
theorem AllB.put {K : PySem.W.Frag} {H : Hp} {kvs : List (Key × V)} {k : Key} {a : Addr} {d : List Int} (h : AllB K H kvs) (b : BlkA K H a d) : AllB K H (putK kvs k (.ref a)) := h.elim fun ms h => ⟨_, h.put b⟩
theorem AllB.putW {K : PySem.W.Frag} {H : Hp} : ∀ {ws : Wq} {kvs : List (Key × V)}, AllB K H kvs → WsB K H ws → AllB K H (putW ws kvs)
  | [], _, h, _ => h
  | p :: ws, kvs, h, w => by
    obtain ⟨d, b⟩ := w p List.mem_cons_self
    exact AllB.putW (kvs := putK kvs (.inl p.1) (.ref p.2)) (h.put b) fun q hq => w q (List.mem_cons_of_mem _ hq)
/-- the list's pairs -/
def Prs (K : PySem.W.Frag) (H : Hp) (zs : List Addr) (ws : Wq) : Prop := Paired (fun z p => SqT K H z [.int p.1, .ref p.2]) zs ws
theorem Prs.ch {K : PySem.W.Frag} {M : List Addr} {H H' : Hp} (s : Ch M H H') : ∀ {zs : List Addr} {ws : Wq}, Prs K H zs ws → Prs K H' zs ws
  | _, _, .nil => .nil
  | _, _, .cons h r => .cons (s.sqT h) (Prs.ch s r)
/-! ### a disk -/
structure DS where
  bs : List (Key × V)
  wr : List (Key × V)
  ws : Wq
  lg : List Int
  tl : List Int
  fu : Option Int
  dd : Bool
  st : Int
def fuV : Option Int → V
  | none => .non
  | some i => .int i
def DS.ok (S : DS) : Bool := !S.dd && !decide (S.fu = some 0)
def DS.step (S : DS) : DS := if S.dd = true then S else if S.fu = some 0 then { S with dd := true } else { S with fu := S.fu.map (· - 1), st := S.st + 1 }
abbrev F9 (v1 v2 v3 v4 v5 v6 v7 v8 v9 : V) : List (Str × V) := [(("block_size" : Str), v1), (("blocks" : Str), v2), (("log" : Str), v3), (("waiting" : Str), v4), (("written" : Str), v5), (("log_tail" : Str), v6), (("fuse" : Str), v7), (("dead" : Str), v8), (("steps" : Str), v9)]
abbrev flds (bA lA qA wA tA : Addr) (S : DS) : List (Str × V) := F9 (.int 8) (.ref bA) (.ref lA) (.ref qA) (.ref wA) (.ref tA) (fuV S.fu) (.bl S.dd) (.int S.st)
--[("block_size", .int 8), ("blocks", .ref bA), ("log", .ref lA), ("waiting", .ref qA), ("written", .ref wA), ("log_tail", .ref tA), ("fuse", fuV S.fu), ("dead", .bl S.dd), ("steps", .int S.st)]
theorem step_bs (S : DS) : S.step.bs = S.bs := by unfold DS.step; split; · rfl
                                                  split <;> rfl
theorem step_wr (S : DS) : S.step.wr = S.wr := by unfold DS.step; split; · rfl
                                                  split <;> rfl
theorem step_ws (S : DS) : S.step.ws = S.ws := by unfold DS.step; split; · rfl
                                                  split <;> rfl
theorem step_lg (S : DS) : S.step.lg = S.lg := by unfold DS.step; split; · rfl
                                                  split <;> rfl
theorem step_tl (S : DS) : S.step.tl = S.tl := by unfold DS.step; split; · rfl
                                                  split <;> rfl
def DS.write (S : DS) (n : Int) (a : Addr) : DS := { S.step with ws := S.ws ++ [(n, a)], wr := putK S.wr (.inl n) (.ref a) }
def DS.sync (S : DS) : DS := { S.step with bs := putW S.ws S.bs, ws := [], wr := [] }
structure DskO (K : PySem.W.Frag) (C : Addr) (H : Hp) (x bA qA wA : Addr) (S : DS) : Prop where
  ex : ∃ (dx lA tA : Addr) (zs : List Addr), H x = some (.ins C dx (flds bA lA qA wA tA S)) ∧ SqT K H lA (S.lg.map V.int) ∧ SqT K H tA (S.tl.map V.int) ∧ H qA = some (.lst (zs.map V.ref)) ∧ Prs K H zs S.ws
  bs : H bA = some (.dK S.bs)
  wr : H wA = some (.dK S.wr)
  ne : bA ≠ wA
  ab : AllB K H S.bs
  aw : AllB K H S.wr
  aq : WsB K H S.ws
  nd : (S.bs.map (·.1)).Nodup
theorem DskO.ch {K : PySem.W.Frag} {C : Addr} {M : List Addr} {H H' : Hp} {x bA qA wA : Addr} {S : DS} (h : DskO K C H x bA qA wA S) (s : Ch M H H') (nx : x ∉ M) (nb : bA ∉ M) (nq : qA ∉ M) (nw : wA ∉ M) : DskO K C H' x bA qA wA S := by
  obtain ⟨⟨dx, lA, tA, zs, h1, h2, h3, h4, h5⟩, a, b, c, d, e, f, g⟩ := h
  exact ⟨⟨dx, lA, tA, zs, s.ins h1 nx, s.sqT h2, s.sqT h3, s.lst h4 nq, h5.ch s⟩, s.dk a nb, s.dk b nw, c, d.ch s, e.ch s, f.ch s, g⟩
theorem DskO.sm {K : PySem.W.Frag} {C : Addr} {H H' : Hp} {x bA qA wA : Addr} {S : DS} (h : DskO K C H x bA qA wA S) (s : Same H H') : DskO K C H' x bA qA wA S :=
  h.ch (M := []) (Ch.of s) List.not_mem_nil List.not_mem_nil List.not_mem_nil List.not_mem_nil
theorem DskO.upx {K : PySem.W.Frag} {C : Addr} {H H' : Hp} {x bA qA wA dx lA tA : Addr} {S S' : DS} (h : DskO K C H x bA qA wA S) (s : Cs [x] H H') (hx : H' x = some (.ins C dx (flds bA lA qA wA tA S'))) (h1 : SqT K H' lA (S'.lg.map V.int)) (h2 : SqT K H' tA (S'.tl.map V.int))
    (e1 : S'.bs = S.bs) (e2 : S'.wr = S.wr) (e3 : S'.ws = S.ws) : DskO K C H' x bA qA wA S' := by
  obtain ⟨⟨dx0, lA0, tA0, zs, g1, g2, g3, g4, g5⟩, a, b, c, d, e, f, g⟩ := h
  have nb : bA ∉ [x] := fun z => absurd (List.mem_singleton.mp z) (ne_of a g1 (fun z => by cases z))
  have nw : wA ∉ [x] := fun z => absurd (List.mem_singleton.mp z) (ne_of b g1 (fun z => by cases z))
  have nq : qA ∉ [x] := fun z => absurd (List.mem_singleton.mp z) (ne_of g4 g1 (fun z => by cases z))
  refine ⟨⟨dx, lA, tA, zs, hx, h1, h2, s.ch.lst g4 nq, ?_⟩, ?_, ?_, c, ?_, ?_, ?_, ?_⟩
  · rw [e3]; exact g5.ch s.ch
  · rw [e1]; exact s.ch.dk a nb
  · rw [e2]; exact s.ch.dk b nw
  · rw [e1]; exact d.ch s.ch
  · rw [e2]; exact e.ch s.ch
  · rw [e3]; exact f.ch s.ch
  · rw [e1]; exact g
/-! ### the law's own account -/
abbrev mdK (kA uA lA tA : Addr) : List (Key × V) := [(.inr ("kept" : Str), .ref kA), (.inr ("waiting" : Str), .ref uA), (.inr ("log" : Str), .ref lA), (.inr ("tail" : Str), .ref tA)]
section
variable {kA uA lA tA a : Addr}
theorem val_ng {k j : Key} {x : V} {r : List (Key × V)} (h : ¬ k = j) : valV ((k, x) :: r) j = valV r j := valV_neg h
theorem md_kept : valV (mdK kA uA lA tA) (.inr ("kept" : Str)) = some (.ref kA) := valV_pos rfl
theorem md_waiting : valV (mdK kA uA lA tA) (.inr ("waiting" : Str)) = some (.ref uA) := (val_ng (by decide +kernel)).trans (valV_pos rfl)
theorem md_log : valV (mdK kA uA lA tA) (.inr ("log" : Str)) = some (.ref lA) := (val_ng (by decide +kernel)).trans ((val_ng (by decide +kernel)).trans (valV_pos rfl))
theorem md_tail : valV (mdK kA uA lA tA) (.inr ("tail" : Str)) = some (.ref tA) := (val_ng (by decide +kernel)).trans ((val_ng (by decide +kernel)).trans ((val_ng (by decide +kernel)).trans (valV_pos rfl)))
theorem put_hd {k j : Key} {x v : V} {r : List (Key × V)} (h : ¬ k = j) (hr : (r.any fun p => decide (p.1 = j)) = true) : putK ((k, x) :: r) j v = (k, x) :: putK r j v := by
  unfold putK
  rw [List.any_cons, hr, Bool.or_true, if_pos rfl, if_pos rfl, List.map_cons]
  show (if k = j then (k, v) else (k, x)) :: _ = _
  rw [if_neg h]
theorem put_at {j : Key} {x v : V} {r : List (Key × V)} (hr : (r.any fun p => decide (p.1 = j)) = false) : putK ((j, x) :: r) j v = (j, v) :: r := by
  unfold putK
  rw [List.any_cons, decide_eq_true rfl, Bool.true_or, if_pos rfl, List.map_cons]
  show (if j = j then (j, v) else (j, x)) :: _ = _
  rw [if_pos rfl]
  congr 1
  induction r with
  | nil => rfl
  | cons p r ih =>
    rw [List.any_cons, Bool.or_eq_false_iff] at hr
    rw [List.map_cons, ih hr.2, if_neg (of_decide_eq_false hr.1)]
theorem mp_waiting : putK (mdK kA uA lA tA) (.inr ("waiting" : Str)) (.ref a) = mdK kA a lA tA := (put_hd (by decide +kernel) (by simp)).trans (congrArg _ (put_at (by simp; decide +kernel)))
theorem mp_log : putK (mdK kA uA lA tA) (.inr ("log" : Str)) (.ref a) = mdK kA uA a tA := (put_hd (by decide +kernel) (by simp)).trans (congrArg _ ((put_hd (by decide +kernel) (by simp)).trans (congrArg _ (put_at (by simp; decide +kernel)))))
theorem mp_tail : putK (mdK kA uA lA tA) (.inr ("tail" : Str)) (.ref a) = mdK kA uA lA a := (put_hd (by decide +kernel) (by simp)).trans (congrArg _ ((put_hd (by decide +kernel) (by simp)).trans (congrArg _ ((put_hd (by decide +kernel) (by simp)).trans (congrArg _ (put_at (by simp)))))))
end
structure MdO (K : PySem.W.Frag) (H : Hp) (m kA uA : Addr) (S : DS) : Prop where
  ex : ∃ (lA tA : Addr) (ys : List Addr), H m = some (.dK (mdK kA uA lA tA)) ∧ SqT K H lA (S.lg.map V.int) ∧ SqT K H tA (S.tl.map V.int) ∧ H uA = some (.lst (ys.map V.ref)) ∧ Prs K H ys S.ws
  bs : H kA = some (.dK S.bs)
theorem MdO.ch {K : PySem.W.Frag} {M : List Addr} {H H' : Hp} {m kA uA : Addr} {S : DS} (h : MdO K H m kA uA S) (s : Ch M H H') (nm : m ∉ M) (nk : kA ∉ M) (nu : uA ∉ M) : MdO K H' m kA uA S := by
  obtain ⟨⟨lA, tA, ys, h1, h2, h3, h4, h5⟩, a⟩ := h
  exact ⟨⟨lA, tA, ys, s.dk h1 nm, s.sqT h2, s.sqT h3, s.lst h4 nu, h5.ch s⟩, s.dk a nk⟩
/-- the disk and the account of it -/
structure Own (K : PySem.W.Frag) (C : Addr) (H : Hp) (x m : Addr) (L : List Addr) (S : DS) : Prop where
  ex : ∃ bA qA wA kA uA : Addr, L = [x, bA, qA, wA, m, kA, uA] ∧ DskO K C H x bA qA wA S ∧ MdO K H m kA uA S
  nd : L.Nodup
  wr : S.wr = putW S.ws []
theorem Own.ch {K : PySem.W.Frag} {C : Addr} {M : List Addr} {H H' : Hp} {x m : Addr} {L : List Addr} {S : DS} (h : Own K C H x m L S) (s : Ch M H H') (n : ∀ a ∈ L, a ∉ M) : Own K C H' x m L S := by
  obtain ⟨⟨bA, qA, wA, kA, uA, rfl, h1, h2⟩, a, b⟩ := h
  exact ⟨⟨bA, qA, wA, kA, uA, rfl, h1.ch s (n _ (by simp)) (n _ (by simp)) (n _ (by simp)) (n _ (by simp)), h2.ch s (n _ (by simp)) (n _ (by simp)) (n _ (by simp))⟩, a, b⟩
/-! ### what a crash leaves -/
def left1 (ms : Bs) (n : Int) (d : List Int) (c : Int) : Bs := if c = 1 then putM ms (.inl n) d else if c = 2 then putM ms (.inl n) (d.take 4 ++ ((valM ms (.inl n)).getD (List.replicate 8 0)).drop 4) else ms
def leftN (ms : Bs) (ws : List (Int × List Int)) (cs : List Int) : Nat → Bs
  | 0 => ms
  | i + 1 => match ws[i]? with
    | none => leftN ms ws cs i
    | some p => left1 (leftN ms ws cs i) p.1 p.2 (cs.getD i 0)
theorem leftN_succ {ms : Bs} {ws : List (Int × List Int)} {cs : List Int} {i : Nat} {p : Int × List Int} (h : ws[i]? = some p) : leftN ms ws cs (i + 1) = left1 (leftN ms ws cs i) p.1 p.2 (cs.getD i 0) := by rw [leftN, h]
/-- the writes as data -/
def WsR (K : PySem.W.Frag) (H : Hp) (ws : Wq) (ds : List (Int × List Int)) : Prop := Paired (fun p q => p.1 = q.1 ∧ BlkA K H p.2 q.2) ws ds
theorem WsR.ch {K : PySem.W.Frag} {M : List Addr} {H H' : Hp} (s : Ch M H H') : ∀ {ws : Wq} {ds : List (Int × List Int)}, WsR K H ws ds → WsR K H' ws ds
  | _, _, .nil => .nil
  | _, _, .cons h r => .cons ⟨h.1, h.2.ch s⟩ (WsR.ch s r)
theorem wsR_of {K : PySem.W.Frag} {H : Hp} : ∀ {ws : Wq}, WsB K H ws → ∃ ds, WsR K H ws ds
  | [], _ => ⟨[], .nil⟩
  | p :: ws, h => by
    obtain ⟨d, hd⟩ := h p List.mem_cons_self
    obtain ⟨ds, r⟩ := wsR_of (ws := ws) fun q hq => h q (List.mem_cons_of_mem _ hq)
    exact ⟨(p.1, d) :: ds, .cons ⟨rfl, hd⟩ r⟩
theorem mem_bsR {K : PySem.W.Frag} {H : Hp} {kvs : List (Key × V)} {ms : Bs} (r : BsR K H kvs ms) {p : Key × V} (h : p ∈ kvs) : ∃ m ∈ ms, p.1 = m.1 ∧ ∃ a, p.2 = .ref a ∧ BlkA K H a m.2 := by
  induction r with
  | nil => cases h
  | cons g r ih =>
    rcases List.mem_cons.mp h with rfl | h
    · exact ⟨_, List.mem_cons_self, g⟩
    · obtain ⟨m, h1, h2⟩ := ih h
      exact ⟨m, List.mem_cons_of_mem _ h1, h2⟩
theorem bsR_keys {K : PySem.W.Frag} {H : Hp} : ∀ {kvs : List (Key × V)} {ms : Bs}, BsR K H kvs ms → kvs.map (·.1) = ms.map (·.1)
  | _, _, .nil => rfl
  | _, _, .cons h r => by rw [List.map_cons, List.map_cons, h.1, bsR_keys r]
theorem valM_nodup : ∀ {ms : Bs}, (ms.map (·.1)).Nodup → ∀ m ∈ ms, valM ms m.1 = some m.2
  | [], _, m, h => absurd h List.not_mem_nil
  | q :: r, nd, m, h => by
    rw [List.map_cons, List.nodup_cons] at nd
    unfold valM
    rw [List.find?_cons]
    rcases List.mem_cons.mp h with e | h'
    · rw [e, decide_eq_true rfl]; rfl
    · rw [decide_eq_false (fun z => nd.1 (List.mem_map.mpr ⟨m, h', z.symm⟩))]
      exact valM_nodup nd.2 m h'
/-- the same blocks at other addresses: equal dicts -/
theorem bsR_eq {K : PySem.W.Frag} {H : Hp} {ks ls : List (Key × V)} {ms : Bs} (r1 : BsR K H ks ms) (r2 : BsR K H ls ms) (nd : (ks.map (·.1)).Nodup) : ks.length = ls.length ∧ ∀ p ∈ ks, ∃ u, valV ls p.1 = some u ∧ Dq.BlkEq K H p.2 u := by
  refine ⟨(Paired.length r1).trans (Paired.length r2).symm, fun p hp => ?_⟩
  obtain ⟨m, hm, e, a, ea, ba⟩ := mem_bsR r1 hp
  rw [bsR_keys r1] at nd
  have v := valM_nodup nd m hm
  rcases bsR_val p.1 r2 with ⟨_, g⟩ | ⟨b, d, g1, g2, g3⟩
  · rw [e, v] at g; cases g
  · rw [e, v] at g2
    cases g2
    exact ⟨_, g1, a, b, m.2, ea, rfl, ba.1, g3.1⟩
end M9
end

section
-- part K09A
set_option Elab.async false
set_option linter.all false
set_option maxRecDepth 100000
set_option maxHeartbeats 800000
open PySem PySem.Spec PyProof.Rows L2 Fw
local macro_rules | `(tactic| walk_at "e1") => `(tactic| first
  | ((with_reducible refine' w_var ?hv ?_); (case hv => rfl))
  | with_reducible refine w_c ?_
  | with_reducible refine w_op ?_
  | with_reducible refine w_un ?_
  | with_reducible refine w_cons ?_
  | with_reducible refine w_nil ?_
  | with_reducible refine w_cl ?_
  | with_reducible refine w_cb ?_
  | with_reducible refine w_gname ?_
  | with_reducible refine w_gsub ?_
  | with_reducible refine w_test ?_
  | with_reducible refine w_B ?_
  | with_reducible refine w_bl ?_
  | with_reducible refine w_and ?_
  | with_reducible refine w_or ?_
  | with_reducible refine w_not ?_
  | with_reducible refine w_if ?_
  | with_reducible refine w_I0 ?_
  | with_reducible refine Gk.w_rU ?_
  | with_reducible refine Dq.w_orV ?_
  | with_reducible refine Dq.w_andV ?_
  | with_reducible refine Gk.w_iEnum ?_
  | with_reducible refine Dq.w_dget ?_
  | with_reducible refine Dq.w_din ?_
  | with_reducible refine Dq.w_dnotin ?_
  | with_reducible refine Dq.w_dget2 ?_
  | with_reducible refine Dq.w_dnew ?_
  | with_reducible refine Dq.w_fldaug ?_
  | with_reducible refine Dq.w_mkd ?_
  | with_reducible refine Dq.w_notN0 ?_
  | with_reducible refine Dq.w_isN0 ?_
  | with_reducible refine Dq.w_notNR ?_
  | with_reducible refine Dq.w_isNR ?_
  | with_reducible refine Dq.w_notNI ?_
  | with_reducible refine Dq.w_isNI ?_
  | with_reducible refine L2.w_neOs ?_
  | with_reducible refine w_ipI ?_
  | with_reducible refine w_eqS ?_
  | with_reducible refine w_neS ?_
  | with_reducible refine w_eqI ?_
  | with_reducible refine w_neI ?_
  | with_reducible refine w_eqB ?_
  | with_reducible refine w_neB ?_
  | ((with_reducible refine w_eq ?hs ?_); (case hs => rfl))
  | ((with_reducible refine w_ne ?hs ?_); (case hs => rfl))
  | with_reducible refine w_fld ?_
  | with_reducible refine w_bm ?_
  | with_reducible refine w_bm0 ?_
  | with_reducible refine w_sl ?_
  | with_reducible refine w_part ?_
  | with_reducible refine w_partI ?_
  | with_reducible refine w_nopart ?_
  | ((with_reducible refine' w_ixL ?hh ?ha ?_); (case hh => first | assumption | exact upd_same); (case ha => rfl))
  | ((with_reducible refine' w_setLu ?ha ?_); (case ha => rfl))
  | ((with_reducible refine' w_setL ?hh ?ha ?_); (case hh => first | assumption | exact upd_same); (case ha => rfl))
  | with_reducible refine w_iteT ?_
  | with_reducible refine w_iteF ?_
  | with_reducible refine w_lst ?_
  | with_reducible refine w_tup ?_
  | ((with_reducible refine w_new ?hz ?_); (case hz => rfl))
  | with_reducible refine w_lc ?_
  | with_reducible refine w_iL ?_
  | with_reducible refine w_iT ?_
  | with_reducible refine w_iR1 ?_
  | with_reducible refine w_iR2 ?_
  | with_reducible refine w_yes ?_
  | with_reducible refine w_iStr ?_
  | with_reducible exact tyS
  | with_reducible refine And.intro tyS ?_
  | ((with_reducible refine w_find3 ?_); (first | rw [find3_one] | rw [starts3] | skip))
  | ((with_reducible refine w_2s ?_); (try rw [find_one]))
  | ((with_reducible refine w_inS ?_); rw [S_list])
  | ((with_reducible refine w_lenS ?hz ?_); (case hz => first | assumption | omega | decide); rw [SX.S_len])
  | ((with_reducible refine w_addS ?hz ?_); (case hz => first | assumption | omega | decide); rw [vS_cat])
  | with_reducible refine w_mk ?_
  | with_reducible refine w_me ?_
  | with_reducible refine w_sfld ?_
  | ((with_reducible refine' w_gtup ?hh ?hn ?_); (case hh => first | assumption | exact upd_same); (case hn => rfl))
  | with_reducible refine w_gcons ?_
  | with_reducible refine w_gnil ?_
  | with_reducible refine w_repl ?_
  | with_reducible refine w_star ?_
  | with_reducible refine w_revL ?_
  | with_reducible refine w_isiS ?_
  | with_reducible refine w_isiI ?_
  | with_reducible refine w_isiN ?_
  | with_reducible refine w_chain ?_
  | with_reducible refine w_iEnumT ?_
  | with_reducible refine w_iZip3 ?_
  | with_reducible refine w_iZip ?_
  | with_reducible refine w_lenR3 ?_
  | with_reducible refine w_x1i ?_
  | with_reducible refine w_x1b ?_
  | with_reducible refine w_x1s ?_
  | with_reducible refine w_int1i ?_
  | with_reducible refine w_int1b ?_
  | ((with_reducible refine w_mod ?hc ?_); (case hc => omega))
  | ((with_reducible refine w_fdivW ?hc ?hd ?_); (case hc => omega); (case hd => omega))
  | ((with_reducible refine w_mul ?hc ?_); (case hc => first | exact Or.inr ⟨by decide, by decide⟩ | exact Or.inl ⟨by decide, by decide⟩))
  | ((with_reducible refine w_pow ?hc ?_); (case hc => exact ⟨by decide, by decide, by decide⟩)))
local macro_rules | `(tactic| walk_at "s1") => `(tactic| first
  | with_reducible refine w_seq ?_
  | with_reducible refine w_asg ?_
  | with_reducible refine w_ret ?_
  | with_reducible refine w_par ?_
  | with_reducible refine w_drop ?_
  | with_reducible refine w_next ?_
  | with_reducible refine w_ifs ?_
  | ((with_reducible refine' w_aug ?hv ?_); (case hv => rfl))
  | with_reducible refine w_for ?_
  | walk_at "e1")
local macro_rules | `(tactic| walk_at "e") => `(tactic| repeat walk_at "e1")
local macro_rules | `(tactic| walk_at "g") => `(tactic| repeat walk_at "s1")

namespace K09
open Dc Gk
def top (i : Nat) : Stmt := PySem.Challenge.pw_tablestack_k09_disks_and_what_a_crash_le.main.body.getD i (.Pass ⟨0, 0, 0, 0⟩)
-- _law_dice: 0:cell
abbrev s__law_dice : Stmt := top 8
theorem sc__law_dice : FnScope ["cell"] ["cell"] (defScope s__law_dice) := ⟨rfl, rfl, rfl, by decide +kernel, rfl, by decide +kernel, by decide +kernel⟩
-- _law_roll: 0:dice 1:many 2:found
abbrev s__law_roll : Stmt := top 9
theorem sc__law_roll : FnScope ["dice", "many", "found"] ["dice", "many"] (defScope s__law_roll) := ⟨rfl, rfl, rfl, by decide +kernel, rfl, by decide +kernel, by decide +kernel⟩
-- _law_rounds: 0:script 1:most 2:cells 3:cell
abbrev s__law_rounds : Stmt := top 10
theorem sc__law_rounds : FnScope ["script", "most", "cells", "cell"] ["script", "most"] (defScope s__law_rounds) := ⟨rfl, rfl, rfl, by decide +kernel, rfl, by decide +kernel, by decide +kernel⟩
structure Wl (K : PySem.W.Frag) (mg : Str → Option Value) : Prop where
  n_abs : mg "abs" = none
  n_int : mg "int" = none
  n_str : mg "str" = none
  n_len : mg "len" = none
  n_range : mg "range" = none
  d__law_dice : FnP K mg "_law_dice" s__law_dice
  d__law_roll : FnP K mg "_law_roll" s__law_roll
  d__law_rounds : FnP K mg "_law_rounds" s__law_rounds
section
variable {P : Program} {w : World} {K : PySem.W.Frag} {mg : Str → Option Value} {base : Heap}
theorem ok__law_dice (W : Wl K mg) : Cl P w K mg base 1 "_law_dice" spDice := by
  refine cl_mk W.d__law_dice sc__law_dice (fun _ _ _ _ _ _ us hl => match us, hl with | [_], _ => rfl) (fun vs H Q E h => ?_) (fun f cdv A outer s H vs Q E hr h => ?_)
  · obtain ⟨c, rfl, _⟩ := h; rfl
  obtain ⟨c, rfl, q⟩ := h
  refine ⟨_, (pss_cons (ps_if (pt_chain op_lt op_lt (pe_op op_sub pe_int pe_int) (pv 0) pe_int)
    (pss_one (ps_ret (pe_lst (pa_cons (pe_callB call_abs rfl W.n_abs (by decide +kernel) (pa_cons (pv 0) pa_nil)) (pa_cons pe_int (pa_cons pe_int pa_nil))))))
    pss_nil)
    (pss_one (ps_ret (pe_lst (pa_cons (pv 0) (pa_cons (pe_op op_add pe_int (pe_op op_mod (pe_callTy call_int1 rfl W.n_int (by decide +kernel) (pa_cons (pv 0) pa_nil)) pe_int)) (pa_cons (pe_callTy call_int1 rfl W.n_int (by decide +kernel) (pa_cons (pe_cmpR op_ge (pv 0) (pe_op op_pow pe_int pe_int) (nomark _)) pa_nil)) pa_nil))))))), ?_⟩
  walk_at "g"
  refine w_iteD (fun c1 => ?_) (fun c1 => ?_)
  · walk_at "g"
    refine w_iteD (fun c2 => ?_) (fun c2 => ?_)
    · walk_at "g"
      exact fun p hp => q p _ _ _ hp
    · walk_at "g"
      exact fun p hp => q p _ _ _ hp
  · walk_at "g"
    exact fun p hp => q p _ _ _ hp
theorem ok__law_roll (W : Wl K mg) : Cl P w K mg base 1 "_law_roll" spRoll := by
  refine cl_mk W.d__law_roll sc__law_roll (fun _ _ _ _ _ _ us hl => match us, hl with | [_, _], _ => rfl) (fun vs H Q E h => ?_) (fun f cdv A outer s H vs Q E hr h => ?_)
  · obtain ⟨d, m, a, b, c, rfl, _⟩ := h; rfl
  obtain ⟨d, m, a, b, c, rfl, hd, h0, h1, q⟩ := h
  refine ⟨_, (pss_cons (ps_if (PW.pt (pw_or (pt_cmpR op_eq (pe_ix ix_list (pv 0) pe_int (fun _ _ => rfl)) pe_int (nomark _)) (pw_or1 (PW.pt (pw_and (pt_cmpR op_eq (pe_ix ix_list (pv 0) pe_int (fun _ _ => rfl)) pe_int (nomark _)) (pw_and1 (pt_cmpR op_gt (pe_ix ix_list (pv 0) pe_int (fun _ _ => rfl)) pe_int (nomark _))))))))
    (pss_cons (ps_set (i := 2) sc__law_roll.nd rfl (Or.inl rfl) (pe_op op_mod (pe_callTy call_int1 rfl W.n_int (by decide +kernel) (pa_cons (pe_ix ix_list (pv 0) pe_int (fun _ _ => rfl)) pa_nil)) (pv 1)))
    (pss_cons (ps_asg (pe_op op_fdivW (pe_ix ix_list (pv 0) pe_int (fun _ _ => rfl)) (pv 1)) (pg_sub (pv 0) pe_int set_list))
    (pss_one (ps_ret (pv 2)))))
    pss_nil)
    (pss_cons (ps_asg pe_int (pg_sub (pv 0) pe_int set_list))
    (pss_cons (ps_asg (pe_op op_mod (pe_callTy call_int1 rfl W.n_int (by decide +kernel) (pa_cons (pe_op op_add (pe_op op_add (pe_op op_mul (pe_ix ix_list (pv 0) pe_int (fun _ _ => rfl)) pe_int) (pe_op op_mul (pe_ix ix_list (pv 0) pe_int (fun _ _ => rfl)) pe_int)) pe_int) pa_nil)) pe_int) (pg_sub (pv 0) pe_int set_list))
    (pss_cons (ps_asg (pe_op op_add (pe_ix ix_list (pv 0) pe_int (fun _ _ => rfl)) pe_int) (pg_sub (pv 0) pe_int set_list))
    (pss_one (ps_ret (pe_op op_mod (pe_callTy call_int1 rfl W.n_int (by decide +kernel) (pa_cons (pe_op op_fdivW (pe_ix ix_list (pv 0) pe_int (fun _ _ => rfl)) pe_int) pa_nil)) (pv 1)))))))), ?_⟩
  have fin : ∀ z a' b' c' : Int, Q (.int (z % m)) (upd H d (.lst [.int a', .int b', .int c'])) := fun z a' b' c' => q _ a' b' c' (mod_b h0).1 (mod_b h0).2
  walk_at "g"
  refine w_iteD (fun c1 => ?_) (fun c1 => ?_)
  · walk_at "g"
    exact fin _ _ _ _
  · walk_at "g"
    refine w_iteD (fun c2 => ?_) (fun c2 => ?_)
    · walk_at "g"
      refine w_iteD (fun c3 => ?_) (fun c3 => ?_)
      · walk_at "g"
        exact fin _ _ _ _
      · walk_at "g"
        exact fin _ _ _ _
    · walk_at "g"
      exact fin _ _ _ _
theorem ok__law_rounds (W : Wl K mg) (c__law_dice : Cl P w K mg base 1 "_law_dice" spDice) : Cl P w K mg base 2 "_law_rounds" (spRounds K) := by
  refine cl_mk W.d__law_rounds sc__law_rounds (fun _ _ _ _ _ _ us hl => match us, hl with | [_, _], _ => rfl) (fun vs H Q E h => ?_) (fun f cdv A outer s H vs Q E hr h => ?_)
  · obtain ⟨a, ns, m, rfl, _⟩ := h; rfl
  obtain ⟨a, ns, m, rfl, hS, h63, q⟩ := h
  refine ⟨_, (pss_cons (ps_set (i := 2) sc__law_rounds.nd rfl (Or.inl rfl) (pe_slice sl_list (pv 0) po_none (po_some (pv 1))))
    (pss_cons (ps_if (pt_cmpR (op_eqD (hu64 hr)) (pv 2) (pe_lst pa_nil) (nomark _))
    (pss_one (ps_set (i := 2) sc__law_rounds.nd rfl (Or.inl rfl) (pe_lst (pa_cons pe_int pa_nil))))
    pss_nil)
    (pss_one (ps_ret (pe_lc (own := [("cell", 3)]) rfl sc__law_rounds.nd (pi_list (pv 2)) (blkOk_by (own := [("cell", 3)]) (N := ["script", "most", "cells", "cell"]) (sc := defScope s__law_rounds) (by decide +kernel)) (fun _ _ _ _ _ => (pg_name (i := 3) sc__law_rounds.nd rfl (by first | exact Or.inl rfl | exact Or.inr rfl))) (fun _ _ _ _ _ => pts_nil) (fun _ _ _ _ _ => (pe_cl c__law_dice hr (by decide) rfl passL (pa_cons (pv 3) pa_nil)))))))), ?_⟩
  walk_at "g"
  refine ⟨a, _, rfl, hS, fun p1 hp1 => ?_⟩
  obtain ⟨ms, em, hm⟩ := cut_ints ns none (some m)
  rw [em]
  have hz : ms.length ≤ 63 := Nat.le_trans hm h63
  have s1 : Same H (upd H p1 (.lst (ms.map V.int))) := same_new hp1 _
  -- the list is walked
  have rest : ∀ (H1 : Hp) (p : Addr) (zs : List Int), Same H H1 → H1 p = some (.lst (zs.map V.int)) → zs.length ≤ 63 → ∀ (c : Option V),
      tRet (tLc (iList K (tVar 2)) (gName 3) tYes (tCl spDice E0 (tCons (tVar 3) tNil)) (List.map (fun x => x.snd) [((Str.ofString "cell" : Str), 3)])) { nx := fun x H' => Q V.non H', rt := Q } [some (.ref a), some (.int m), some (.ref p), c] H1 := by
    intro H1 p zs e1 hp hzs c
    walk_at "g"
    refine w_lcL (SqL.of hp) (fun D hD => ⟨fun i H2 => ∃ ds : List Addr, ds.length = i ∧ Same H1 H2 ∧ H2 D = some (.lst (ds.map V.ref)) ∧ ∀ d ∈ ds, Dice H2 d ∧ H1 d = none ∧ d ≠ D,
      ⟨[], rfl, same_new hD _, upd_same, fun d hd => by cases hd⟩, fun i H2 _ ⟨ds, _, e, _⟩ => SqL.of (e _ _ hp), ?_, ?_⟩)
    · rintro i x H2 hi ⟨ds, el, e2, eD, hds⟩
      have hi2 : i < zs.length := by
        have := (List.getElem?_eq_some_iff.mp hi).1
        rwa [List.length_map] at this
      obtain ⟨z, rfl⟩ : ∃ z, x = V.int z := by
        rw [List.getElem?_map] at hi
        cases e : zs[i]? with
        | none => rw [e] at hi; cases hi
        | some z => rw [e] at hi; exact ⟨z, (Option.some.inj hi).symm⟩
      walk_at "g"
      refine ⟨rfl, ?_⟩
      walk_at "g"
      refine ⟨z, rfl, fun d a b e hd => ?_⟩
      have nd : D ≠ d := ne_of_none eD hd
      refine ⟨ds.map V.ref, by rw [upd_ne nd]; exact eD, by rw [List.length_map, el]; exact Nat.lt_of_lt_of_le (Nat.lt_of_lt_of_le hi2 hzs) (by decide), ds ++ [d], by rw [List.length_append, el]; rfl, fun b o hb => ?_, by rw [upd_same, List.map_append]; rfl, fun b hb => ?_⟩
      · rw [upd_ne (ne_of_none hb hD), upd_ne (ne_of_none (e2 _ _ hb) hd)]
        exact e2 _ _ hb
      · rcases List.mem_append.mp hb with hb | hb
        · obtain ⟨h1, h2, h3⟩ := hds b hb
          obtain ⟨a', b', c', h1⟩ := h1
          exact ⟨⟨a', b', c', by rw [upd_ne h3, upd_ne (ne_of_none h1 hd)]; exact h1⟩, h2, h3⟩
        · rcases List.mem_singleton.mp hb with rfl
          exact ⟨⟨_, _, _, by rw [upd_ne nd.symm, upd_same]⟩, e2.free hd, nd.symm⟩
    · rintro H2 ⟨ds, el, e2, eD, hds⟩
      rw [List.length_map] at el
      exact q D H2 ds (e1.trans e2) (e1.free hD) eD (fun d hd => ⟨(hds d hd).1, e1.free (hds d hd).2.1⟩) (by omega)
  walk_at "g"
  intro p2 hp2
  refine ⟨_, _, .lst (SqL.of (same_new hp2 _ _ _ upd_same)) (dp_ints ms), .lst (SqL.of upd_same) .nil, shaped_ints ms, rfl, ?_⟩
  rw [eqv_nil]
  walk_at "g"
  have s2 := s1.trans (same_new hp2 (.lst []))
  refine w_iteD (fun c1 => ?_) (fun c1 => ?_)
  · walk_at "g"
    intro p3 hp3
    exact rest _ p3 [0] (s2.trans (same_new hp3 _)) upd_same (by decide) none
  · exact rest _ p1 ms s2 (same_new hp2 _ _ _ upd_same) hz none
end
end K09
end

section
-- part K09B
set_option Elab.async false
set_option linter.all false
set_option maxRecDepth 100000
set_option maxHeartbeats 800000
open PySem PySem.Spec PyProof.Rows L2 Fw
local macro_rules | `(tactic| walk_at "e1") => `(tactic| first
  | ((with_reducible refine' w_var ?hv ?_); (case hv => rfl))
  | with_reducible refine w_c ?_
  | with_reducible refine w_op ?_
  | with_reducible refine w_un ?_
  | with_reducible refine w_cons ?_
  | with_reducible refine w_nil ?_
  | with_reducible refine w_cl ?_
  | with_reducible refine w_cb ?_
  | with_reducible refine w_gname ?_
  | with_reducible refine w_gsub ?_
  | with_reducible refine w_test ?_
  | with_reducible refine w_B ?_
  | with_reducible refine w_bl ?_
  | with_reducible refine w_and ?_
  | with_reducible refine w_or ?_
  | with_reducible refine w_not ?_
  | with_reducible refine w_if ?_
  | with_reducible refine w_I0 ?_
  | with_reducible refine Gk.w_rU ?_
  | with_reducible refine Dq.w_orV ?_
  | with_reducible refine Dq.w_andV ?_
  | with_reducible refine Gk.w_iEnum ?_
  | with_reducible refine Dq.w_dget ?_
  | with_reducible refine Dq.w_din ?_
  | with_reducible refine Dq.w_dnotin ?_
  | with_reducible refine Dq.w_dget2 ?_
  | with_reducible refine Dq.w_dnew ?_
  | with_reducible refine Dq.w_fldaug ?_
  | with_reducible refine Dq.w_mkd ?_
  | with_reducible refine Dq.w_notN0 ?_
  | with_reducible refine Dq.w_isN0 ?_
  | with_reducible refine Dq.w_notNR ?_
  | with_reducible refine Dq.w_isNR ?_
  | with_reducible refine Dq.w_notNI ?_
  | with_reducible refine Dq.w_isNI ?_
  | with_reducible refine L2.w_neOs ?_
  | with_reducible refine w_ipI ?_
  | with_reducible refine w_eqS ?_
  | with_reducible refine w_neS ?_
  | with_reducible refine w_eqI ?_
  | with_reducible refine w_neI ?_
  | with_reducible refine w_eqB ?_
  | with_reducible refine w_neB ?_
  | ((with_reducible refine w_eq ?hs ?_); (case hs => rfl))
  | ((with_reducible refine w_ne ?hs ?_); (case hs => rfl))
  | with_reducible refine w_fld ?_
  | with_reducible refine w_bm ?_
  | with_reducible refine w_bm0 ?_
  | with_reducible refine w_sl ?_
  | with_reducible refine w_part ?_
  | with_reducible refine w_partI ?_
  | with_reducible refine w_nopart ?_
  | ((with_reducible refine' w_ixL ?hh ?ha ?_); (case hh => first | assumption | exact upd_same); (case ha => rfl))
  | ((with_reducible refine' w_setLu ?ha ?_); (case ha => rfl))
  | ((with_reducible refine' w_setL ?hh ?ha ?_); (case hh => first | assumption | exact upd_same); (case ha => rfl))
  | with_reducible refine w_iteT ?_
  | with_reducible refine w_iteF ?_
  | with_reducible refine w_lst ?_
  | with_reducible refine w_tup ?_
  | ((with_reducible refine w_new ?hz ?_); (case hz => rfl))
  | with_reducible refine w_lc ?_
  | with_reducible refine w_iL ?_
  | with_reducible refine w_iT ?_
  | with_reducible refine w_iR1 ?_
  | with_reducible refine w_iR2 ?_
  | with_reducible refine w_yes ?_
  | with_reducible refine w_iStr ?_
  | with_reducible exact tyS
  | with_reducible refine And.intro tyS ?_
  | ((with_reducible refine w_find3 ?_); (first | rw [find3_one] | rw [starts3] | skip))
  | ((with_reducible refine w_2s ?_); (try rw [find_one]))
  | ((with_reducible refine w_inS ?_); rw [S_list])
  | ((with_reducible refine w_lenS ?hz ?_); (case hz => first | assumption | omega | decide); rw [SX.S_len])
  | ((with_reducible refine w_addS ?hz ?_); (case hz => first | assumption | omega | decide); rw [vS_cat])
  | with_reducible refine w_mk ?_
  | with_reducible refine w_me ?_
  | with_reducible refine w_sfld ?_
  | ((with_reducible refine' w_gtup ?hh ?hn ?_); (case hh => first | assumption | exact upd_same); (case hn => rfl))
  | with_reducible refine w_gcons ?_
  | with_reducible refine w_gnil ?_
  | with_reducible refine w_repl ?_
  | with_reducible refine w_star ?_
  | with_reducible refine w_revL ?_
  | with_reducible refine w_isiS ?_
  | with_reducible refine w_isiI ?_
  | with_reducible refine w_isiN ?_
  | with_reducible refine w_chain ?_
  | with_reducible refine w_iEnumT ?_
  | with_reducible refine w_iZip3 ?_
  | with_reducible refine w_iZip ?_
  | with_reducible refine w_lenR3 ?_
  | with_reducible refine w_x1i ?_
  | with_reducible refine w_x1b ?_
  | with_reducible refine w_x1s ?_
  | with_reducible refine w_int1i ?_
  | with_reducible refine w_int1b ?_
  | ((with_reducible refine w_mod ?hc ?_); (case hc => omega))
  | ((with_reducible refine w_fdivW ?hc ?hd ?_); (case hc => omega); (case hd => omega))
  | ((with_reducible refine w_mul ?hc ?_); (case hc => first | exact Or.inr ⟨by decide, by decide⟩ | exact Or.inl ⟨by decide, by decide⟩))
  | ((with_reducible refine w_pow ?hc ?_); (case hc => exact ⟨by decide, by decide, by decide⟩)))
local macro_rules | `(tactic| walk_at "s1") => `(tactic| first
  | with_reducible refine w_seq ?_
  | with_reducible refine w_asg ?_
  | with_reducible refine w_ret ?_
  | with_reducible refine w_par ?_
  | with_reducible refine w_drop ?_
  | with_reducible refine w_next ?_
  | with_reducible refine w_ifs ?_
  | ((with_reducible refine' w_aug ?hv ?_); (case hv => rfl))
  | with_reducible refine w_for ?_
  | walk_at "e1")
local macro_rules | `(tactic| walk_at "e") => `(tactic| repeat walk_at "e1")
local macro_rules | `(tactic| walk_at "g") => `(tactic| repeat walk_at "s1")

namespace K09
open Dc Gk M9
-- Disk.__init__: 0:self 1:block_size 2:blocks 3:log 4:number
abbrev s_Disk___init__ : Stmt := inClass (top 6) 0
theorem sc_Disk___init__ : FnScope ["self", "block_size", "blocks", "log", "number"] ["self", "block_size", "blocks", "log"] (defScope s_Disk___init__) := ⟨rfl, rfl, rfl, by decide +kernel, rfl, by decide +kernel, by decide +kernel⟩
-- Disk.arm: 0:self 1:steps
abbrev s_Disk_arm : Stmt := inClass (top 6) 1
theorem sc_Disk_arm : FnScope ["self", "steps"] ["self", "steps"] (defScope s_Disk_arm) := ⟨rfl, rfl, rfl, by decide +kernel, rfl, by decide +kernel, by decide +kernel⟩
-- Disk.step: 0:self
abbrev s_Disk_step : Stmt := inClass (top 6) 2
theorem sc_Disk_step : FnScope ["self"] ["self"] (defScope s_Disk_step) := ⟨rfl, rfl, rfl, by decide +kernel, rfl, by decide +kernel, by decide +kernel⟩
-- Disk.has_block: 0:self 1:number
abbrev s_Disk_has_block : Stmt := inClass (top 6) 3
theorem sc_Disk_has_block : FnScope ["self", "number"] ["self", "number"] (defScope s_Disk_has_block) := ⟨rfl, rfl, rfl, by decide +kernel, rfl, by decide +kernel, by decide +kernel⟩
-- Disk.read_block: 0:self 1:number
abbrev s_Disk_read_block : Stmt := inClass (top 6) 4
theorem sc_Disk_read_block : FnScope ["self", "number"] ["self", "number"] (defScope s_Disk_read_block) := ⟨rfl, rfl, rfl, by decide +kernel, rfl, by decide +kernel, by decide +kernel⟩
-- Disk.write_block: 0:self 1:number 2:data
abbrev s_Disk_write_block : Stmt := inClass (top 6) 5
theorem sc_Disk_write_block : FnScope ["self", "number", "data"] ["self", "number", "data"] (defScope s_Disk_write_block) := ⟨rfl, rfl, rfl, by decide +kernel, rfl, by decide +kernel, by decide +kernel⟩
-- Disk.sync_blocks: 0:self 1:number 2:data
abbrev s_Disk_sync_blocks : Stmt := inClass (top 6) 6
theorem sc_Disk_sync_blocks : FnScope ["self", "number", "data"] ["self"] (defScope s_Disk_sync_blocks) := ⟨rfl, rfl, rfl, by decide +kernel, rfl, by decide +kernel, by decide +kernel⟩
-- Disk.append_log: 0:self 1:data
abbrev s_Disk_append_log : Stmt := inClass (top 6) 7
theorem sc_Disk_append_log : FnScope ["self", "data"] ["self", "data"] (defScope s_Disk_append_log) := ⟨rfl, rfl, rfl, by decide +kernel, rfl, by decide +kernel, by decide +kernel⟩
-- Disk.sync_log: 0:self
abbrev s_Disk_sync_log : Stmt := inClass (top 6) 8
theorem sc_Disk_sync_log : FnScope ["self"] ["self"] (defScope s_Disk_sync_log) := ⟨rfl, rfl, rfl, by decide +kernel, rfl, by decide +kernel, by decide +kernel⟩
-- Disk.clear_log: 0:self
abbrev s_Disk_clear_log : Stmt := inClass (top 6) 9
theorem sc_Disk_clear_log : FnScope ["self"] ["self"] (defScope s_Disk_clear_log) := ⟨rfl, rfl, rfl, by decide +kernel, rfl, by decide +kernel, by decide +kernel⟩
-- Disk.read_log: 0:self
abbrev s_Disk_read_log : Stmt := inClass (top 6) 10
theorem sc_Disk_read_log : FnScope ["self"] ["self"] (defScope s_Disk_read_log) := ⟨rfl, rfl, rfl, by decide +kernel, rfl, by decide +kernel, by decide +kernel⟩
-- Disk.restarted: 0:self 1:choices 2:kept 3:blocks 4:place 5:number 6:data 7:choice 8:half 9:before
abbrev s_Disk_restarted : Stmt := inClass (top 6) 11
theorem sc_Disk_restarted : FnScope ["self", "choices", "kept", "blocks", "place", "number", "data", "choice", "half", "before"] ["self", "choices", "kept"] (defScope s_Disk_restarted) := ⟨rfl, rfl, rfl, by decide +kernel, rfl, by decide +kernel, by decide +kernel⟩
structure Wd (K : PySem.W.Frag) (mg : Str → Option Value) (cDF cD aE : Addr) : Prop extends Wl K mg where
  n_tuple : mg "tuple" = none
  n_dict : mg "dict" = none
  n_max : mg "max" = none
  n_enumerate : mg "enumerate" = none
  e_DiskFault : Ex K mg "DiskFault" cDF
  k_cl : Cls K cD
  k_block_size : NoAttr K cD "block_size"
  k_blocks : NoAttr K cD "blocks"
  k_log : NoAttr K cD "log"
  k_waiting : NoAttr K cD "waiting"
  k_written : NoAttr K cD "written"
  k_log_tail : NoAttr K cD "log_tail"
  k_fuse : NoAttr K cD "fuse"
  k_dead : NoAttr K cD "dead"
  k_steps : NoAttr K cD "steps"
  k_g : mg "Disk" = some (.ref cD)
  k_i : ∃ (f : Addr) (fd : FuncData), FunD K "__init__" "Disk.__init__" (defArgs s_Disk___init__) (defBody s_Disk___init__) (defScope s_Disk___init__) [.non, .ref aE] [] f fd ∧ Mk K cD f
  k_e : ∀ H : Hp, SqT K H aE []
  k_arm : FnM K cD "arm" "Disk.arm" s_Disk_arm
  k_step : FnM K cD "step" "Disk.step" s_Disk_step
  k_has_block : FnM K cD "has_block" "Disk.has_block" s_Disk_has_block
  k_read_block : FnM K cD "read_block" "Disk.read_block" s_Disk_read_block
  k_write_block : FnM K cD "write_block" "Disk.write_block" s_Disk_write_block
  k_sync_blocks : FnM K cD "sync_blocks" "Disk.sync_blocks" s_Disk_sync_blocks
  k_append_log : FnM K cD "append_log" "Disk.append_log" s_Disk_append_log
  k_sync_log : FnM K cD "sync_log" "Disk.sync_log" s_Disk_sync_log
  k_clear_log : FnM K cD "clear_log" "Disk.clear_log" s_Disk_clear_log
  k_read_log : FnM K cD "read_log" "Disk.read_log" s_Disk_read_log
  k_restarted : FnM K cD "restarted" "Disk.restarted" s_Disk_restarted
  c_KEPT : Cin mg "KEPT" 1
  c_HALF : Cin mg "HALF" 2
section
variable {v1 v2 v3 v4 v5 v6 v7 v8 v9 y : V} {K K' : PySem.W.Frag} {mg : Str → Option Value} {cDF cD aE : Addr} {H : Hp} {Q : VK} {x dx : Addr} {σ : L2.St} {D : Ends} {i : Nat} {tv : TE} {rd : V → V → Hp → VK → Prop}
theorem l_block_size : (F9 v1 v2 v3 v4 v5 v6 v7 v8 v9).lookup ("block_size" : Str) = some v1 := Dq.look1 (by decide +kernel)
theorem g_block_size (W : Wd K mg cDF cD aE) (hK : K' = K) (hs : σ[i]? = some (some (.ref x))) (hx : H x = some (.ins cD dx (F9 v1 v2 v3 v4 v5 v6 v7 v8 v9))) (q : Q v1 H) : tFld K' (tVar i) ("block_size" : Str) σ H Q := by
  subst hK
  exact ⟨_, hs, x, cD, dx, _, _, rfl, hx, W.k_cl, W.k_block_size, l_block_size, q⟩
theorem put_block_size : putF ("block_size" : Str) y (F9 v1 v2 v3 v4 v5 v6 v7 v8 v9) = F9 y v2 v3 v4 v5 v6 v7 v8 v9 := Dq.putF_eq
theorem i_block_size : putF ("block_size" : Str) y [] = [(("block_size" : Str), y)] := rfl
theorem l_blocks : (F9 v1 v2 v3 v4 v5 v6 v7 v8 v9).lookup ("blocks" : Str) = some v2 := (Dq.look0 (by decide +kernel)).trans (Dq.look1 (by decide +kernel))
theorem g_blocks (W : Wd K mg cDF cD aE) (hK : K' = K) (hs : σ[i]? = some (some (.ref x))) (hx : H x = some (.ins cD dx (F9 v1 v2 v3 v4 v5 v6 v7 v8 v9))) (q : Q v2 H) : tFld K' (tVar i) ("blocks" : Str) σ H Q := by
  subst hK
  exact ⟨_, hs, x, cD, dx, _, _, rfl, hx, W.k_cl, W.k_blocks, l_blocks, q⟩
theorem put_blocks : putF ("blocks" : Str) y (F9 v1 v2 v3 v4 v5 v6 v7 v8 v9) = F9 v1 y v3 v4 v5 v6 v7 v8 v9 := (Dq.putF_ne (by decide +kernel)).trans (Dq.pc1 (Dq.putF_eq))
theorem i_blocks : putF ("blocks" : Str) y [(("block_size" : Str), v1)] = [(("block_size" : Str), v1), (("blocks" : Str), y)] := (Dq.putF_ne (by decide +kernel)).trans (Dq.pc1 (rfl))
theorem l_log : (F9 v1 v2 v3 v4 v5 v6 v7 v8 v9).lookup ("log" : Str) = some v3 := (Dq.look0 (by decide +kernel)).trans ((Dq.look0 (by decide +kernel)).trans (Dq.look1 (by decide +kernel)))
theorem g_log (W : Wd K mg cDF cD aE) (hK : K' = K) (hs : σ[i]? = some (some (.ref x))) (hx : H x = some (.ins cD dx (F9 v1 v2 v3 v4 v5 v6 v7 v8 v9))) (q : Q v3 H) : tFld K' (tVar i) ("log" : Str) σ H Q := by
  subst hK
  exact ⟨_, hs, x, cD, dx, _, _, rfl, hx, W.k_cl, W.k_log, l_log, q⟩
theorem put_log : putF ("log" : Str) y (F9 v1 v2 v3 v4 v5 v6 v7 v8 v9) = F9 v1 v2 y v4 v5 v6 v7 v8 v9 := (Dq.putF_ne (by decide +kernel)).trans (Dq.pc1 ((Dq.putF_ne (by decide +kernel)).trans (Dq.pc1 (Dq.putF_eq))))
theorem i_log : putF ("log" : Str) y [(("block_size" : Str), v1), (("blocks" : Str), v2)] = [(("block_size" : Str), v1), (("blocks" : Str), v2), (("log" : Str), y)] := (Dq.putF_ne (by decide +kernel)).trans (Dq.pc1 ((Dq.putF_ne (by decide +kernel)).trans (Dq.pc1 (rfl))))
theorem l_waiting : (F9 v1 v2 v3 v4 v5 v6 v7 v8 v9).lookup ("waiting" : Str) = some v4 := (Dq.look0 (by decide +kernel)).trans ((Dq.look0 (by decide +kernel)).trans ((Dq.look0 (by decide +kernel)).trans (Dq.look1 (by decide +kernel))))
theorem g_waiting (W : Wd K mg cDF cD aE) (hK : K' = K) (hs : σ[i]? = some (some (.ref x))) (hx : H x = some (.ins cD dx (F9 v1 v2 v3 v4 v5 v6 v7 v8 v9))) (q : Q v4 H) : tFld K' (tVar i) ("waiting" : Str) σ H Q := by
  subst hK
  exact ⟨_, hs, x, cD, dx, _, _, rfl, hx, W.k_cl, W.k_waiting, l_waiting, q⟩
theorem put_waiting : putF ("waiting" : Str) y (F9 v1 v2 v3 v4 v5 v6 v7 v8 v9) = F9 v1 v2 v3 y v5 v6 v7 v8 v9 := (Dq.putF_ne (by decide +kernel)).trans (Dq.pc1 ((Dq.putF_ne (by decide +kernel)).trans (Dq.pc1 ((Dq.putF_ne (by decide +kernel)).trans (Dq.pc1 (Dq.putF_eq))))))
theorem i_waiting : putF ("waiting" : Str) y [(("block_size" : Str), v1), (("blocks" : Str), v2), (("log" : Str), v3)] = [(("block_size" : Str), v1), (("blocks" : Str), v2), (("log" : Str), v3), (("waiting" : Str), y)] := (Dq.putF_ne (by decide +kernel)).trans (Dq.pc1 ((Dq.putF_ne (by decide +kernel)).trans (Dq.pc1 ((Dq.putF_ne (by decide +kernel)).trans (Dq.pc1 (rfl))))))
theorem l_written : (F9 v1 v2 v3 v4 v5 v6 v7 v8 v9).lookup ("written" : Str) = some v5 := (Dq.look0 (by decide +kernel)).trans ((Dq.look0 (by decide +kernel)).trans ((Dq.look0 (by decide +kernel)).trans ((Dq.look0 (by decide +kernel)).trans (Dq.look1 (by decide +kernel)))))
theorem g_written (W : Wd K mg cDF cD aE) (hK : K' = K) (hs : σ[i]? = some (some (.ref x))) (hx : H x = some (.ins cD dx (F9 v1 v2 v3 v4 v5 v6 v7 v8 v9))) (q : Q v5 H) : tFld K' (tVar i) ("written" : Str) σ H Q := by
  subst hK
  exact ⟨_, hs, x, cD, dx, _, _, rfl, hx, W.k_cl, W.k_written, l_written, q⟩
theorem put_written : putF ("written" : Str) y (F9 v1 v2 v3 v4 v5 v6 v7 v8 v9) = F9 v1 v2 v3 v4 y v6 v7 v8 v9 := (Dq.putF_ne (by decide +kernel)).trans (Dq.pc1 ((Dq.putF_ne (by decide +kernel)).trans (Dq.pc1 ((Dq.putF_ne (by decide +kernel)).trans (Dq.pc1 ((Dq.putF_ne (by decide +kernel)).trans (Dq.pc1 (Dq.putF_eq))))))))
theorem i_written : putF ("written" : Str) y [(("block_size" : Str), v1), (("blocks" : Str), v2), (("log" : Str), v3), (("waiting" : Str), v4)] = [(("block_size" : Str), v1), (("blocks" : Str), v2), (("log" : Str), v3), (("waiting" : Str), v4), (("written" : Str), y)] := (Dq.putF_ne (by decide +kernel)).trans (Dq.pc1 ((Dq.putF_ne (by decide +kernel)).trans (Dq.pc1 ((Dq.putF_ne (by decide +kernel)).trans (Dq.pc1 ((Dq.putF_ne (by decide +kernel)).trans (Dq.pc1 (rfl))))))))
theorem l_log_tail : (F9 v1 v2 v3 v4 v5 v6 v7 v8 v9).lookup ("log_tail" : Str) = some v6 := (Dq.look0 (by decide +kernel)).trans ((Dq.look0 (by decide +kernel)).trans ((Dq.look0 (by decide +kernel)).trans ((Dq.look0 (by decide +kernel)).trans ((Dq.look0 (by decide +kernel)).trans (Dq.look1 (by decide +kernel))))))
theorem g_log_tail (W : Wd K mg cDF cD aE) (hK : K' = K) (hs : σ[i]? = some (some (.ref x))) (hx : H x = some (.ins cD dx (F9 v1 v2 v3 v4 v5 v6 v7 v8 v9))) (q : Q v6 H) : tFld K' (tVar i) ("log_tail" : Str) σ H Q := by
  subst hK
  exact ⟨_, hs, x, cD, dx, _, _, rfl, hx, W.k_cl, W.k_log_tail, l_log_tail, q⟩
theorem put_log_tail : putF ("log_tail" : Str) y (F9 v1 v2 v3 v4 v5 v6 v7 v8 v9) = F9 v1 v2 v3 v4 v5 y v7 v8 v9 := (Dq.putF_ne (by decide +kernel)).trans (Dq.pc1 ((Dq.putF_ne (by decide +kernel)).trans (Dq.pc1 ((Dq.putF_ne (by decide +kernel)).trans (Dq.pc1 ((Dq.putF_ne (by decide +kernel)).trans (Dq.pc1 ((Dq.putF_ne (by decide +kernel)).trans (Dq.pc1 (Dq.putF_eq))))))))))
theorem i_log_tail : putF ("log_tail" : Str) y [(("block_size" : Str), v1), (("blocks" : Str), v2), (("log" : Str), v3), (("waiting" : Str), v4), (("written" : Str), v5)] = [(("block_size" : Str), v1), (("blocks" : Str), v2), (("log" : Str), v3), (("waiting" : Str), v4), (("written" : Str), v5), (("log_tail" : Str), y)] := (Dq.putF_ne (by decide +kernel)).trans (Dq.pc1 ((Dq.putF_ne (by decide +kernel)).trans (Dq.pc1 ((Dq.putF_ne (by decide +kernel)).trans (Dq.pc1 ((Dq.putF_ne (by decide +kernel)).trans (Dq.pc1 ((Dq.putF_ne (by decide +kernel)).trans (Dq.pc1 (rfl))))))))))
theorem l_fuse : (F9 v1 v2 v3 v4 v5 v6 v7 v8 v9).lookup ("fuse" : Str) = some v7 := (Dq.look0 (by decide +kernel)).trans ((Dq.look0 (by decide +kernel)).trans ((Dq.look0 (by decide +kernel)).trans ((Dq.look0 (by decide +kernel)).trans ((Dq.look0 (by decide +kernel)).trans ((Dq.look0 (by decide +kernel)).trans (Dq.look1 (by decide +kernel)))))))
theorem g_fuse (W : Wd K mg cDF cD aE) (hK : K' = K) (hs : σ[i]? = some (some (.ref x))) (hx : H x = some (.ins cD dx (F9 v1 v2 v3 v4 v5 v6 v7 v8 v9))) (q : Q v7 H) : tFld K' (tVar i) ("fuse" : Str) σ H Q := by
  subst hK
  exact ⟨_, hs, x, cD, dx, _, _, rfl, hx, W.k_cl, W.k_fuse, l_fuse, q⟩
theorem put_fuse : putF ("fuse" : Str) y (F9 v1 v2 v3 v4 v5 v6 v7 v8 v9) = F9 v1 v2 v3 v4 v5 v6 y v8 v9 := (Dq.putF_ne (by decide +kernel)).trans (Dq.pc1 ((Dq.putF_ne (by decide +kernel)).trans (Dq.pc1 ((Dq.putF_ne (by decide +kernel)).trans (Dq.pc1 ((Dq.putF_ne (by decide +kernel)).trans (Dq.pc1 ((Dq.putF_ne (by decide +kernel)).trans (Dq.pc1 ((Dq.putF_ne (by decide +kernel)).trans (Dq.pc1 (Dq.putF_eq))))))))))))
theorem i_fuse : putF ("fuse" : Str) y [(("block_size" : Str), v1), (("blocks" : Str), v2), (("log" : Str), v3), (("waiting" : Str), v4), (("written" : Str), v5), (("log_tail" : Str), v6)] = [(("block_size" : Str), v1), (("blocks" : Str), v2), (("log" : Str), v3), (("waiting" : Str), v4), (("written" : Str), v5), (("log_tail" : Str), v6), (("fuse" : Str), y)] := (Dq.putF_ne (by decide +kernel)).trans (Dq.pc1 ((Dq.putF_ne (by decide +kernel)).trans (Dq.pc1 ((Dq.putF_ne (by decide +kernel)).trans (Dq.pc1 ((Dq.putF_ne (by decide +kernel)).trans (Dq.pc1 ((Dq.putF_ne (by decide +kernel)).trans (Dq.pc1 ((Dq.putF_ne (by decide +kernel)).trans (Dq.pc1 (rfl))))))))))))
theorem l_dead : (F9 v1 v2 v3 v4 v5 v6 v7 v8 v9).lookup ("dead" : Str) = some v8 := (Dq.look0 (by decide +kernel)).trans ((Dq.look0 (by decide +kernel)).trans ((Dq.look0 (by decide +kernel)).trans ((Dq.look0 (by decide +kernel)).trans ((Dq.look0 (by decide +kernel)).trans ((Dq.look0 (by decide +kernel)).trans ((Dq.look0 (by decide +kernel)).trans (Dq.look1 (by decide +kernel))))))))
theorem g_dead (W : Wd K mg cDF cD aE) (hK : K' = K) (hs : σ[i]? = some (some (.ref x))) (hx : H x = some (.ins cD dx (F9 v1 v2 v3 v4 v5 v6 v7 v8 v9))) (q : Q v8 H) : tFld K' (tVar i) ("dead" : Str) σ H Q := by
  subst hK
  exact ⟨_, hs, x, cD, dx, _, _, rfl, hx, W.k_cl, W.k_dead, l_dead, q⟩
theorem put_dead : putF ("dead" : Str) y (F9 v1 v2 v3 v4 v5 v6 v7 v8 v9) = F9 v1 v2 v3 v4 v5 v6 v7 y v9 := (Dq.putF_ne (by decide +kernel)).trans (Dq.pc1 ((Dq.putF_ne (by decide +kernel)).trans (Dq.pc1 ((Dq.putF_ne (by decide +kernel)).trans (Dq.pc1 ((Dq.putF_ne (by decide +kernel)).trans (Dq.pc1 ((Dq.putF_ne (by decide +kernel)).trans (Dq.pc1 ((Dq.putF_ne (by decide +kernel)).trans (Dq.pc1 ((Dq.putF_ne (by decide +kernel)).trans (Dq.pc1 (Dq.putF_eq))))))))))))))
theorem i_dead : putF ("dead" : Str) y [(("block_size" : Str), v1), (("blocks" : Str), v2), (("log" : Str), v3), (("waiting" : Str), v4), (("written" : Str), v5), (("log_tail" : Str), v6), (("fuse" : Str), v7)] = [(("block_size" : Str), v1), (("blocks" : Str), v2), (("log" : Str), v3), (("waiting" : Str), v4), (("written" : Str), v5), (("log_tail" : Str), v6), (("fuse" : Str), v7), (("dead" : Str), y)] := (Dq.putF_ne (by decide +kernel)).trans (Dq.pc1 ((Dq.putF_ne (by decide +kernel)).trans (Dq.pc1 ((Dq.putF_ne (by decide +kernel)).trans (Dq.pc1 ((Dq.putF_ne (by decide +kernel)).trans (Dq.pc1 ((Dq.putF_ne (by decide +kernel)).trans (Dq.pc1 ((Dq.putF_ne (by decide +kernel)).trans (Dq.pc1 ((Dq.putF_ne (by decide +kernel)).trans (Dq.pc1 (rfl))))))))))))))
theorem l_steps : (F9 v1 v2 v3 v4 v5 v6 v7 v8 v9).lookup ("steps" : Str) = some v9 := (Dq.look0 (by decide +kernel)).trans ((Dq.look0 (by decide +kernel)).trans ((Dq.look0 (by decide +kernel)).trans ((Dq.look0 (by decide +kernel)).trans ((Dq.look0 (by decide +kernel)).trans ((Dq.look0 (by decide +kernel)).trans ((Dq.look0 (by decide +kernel)).trans ((Dq.look0 (by decide +kernel)).trans (Dq.look1 (by decide +kernel)))))))))
theorem g_steps (W : Wd K mg cDF cD aE) (hK : K' = K) (hs : σ[i]? = some (some (.ref x))) (hx : H x = some (.ins cD dx (F9 v1 v2 v3 v4 v5 v6 v7 v8 v9))) (q : Q v9 H) : tFld K' (tVar i) ("steps" : Str) σ H Q := by
  subst hK
  exact ⟨_, hs, x, cD, dx, _, _, rfl, hx, W.k_cl, W.k_steps, l_steps, q⟩
theorem put_steps : putF ("steps" : Str) y (F9 v1 v2 v3 v4 v5 v6 v7 v8 v9) = F9 v1 v2 v3 v4 v5 v6 v7 v8 y := (Dq.putF_ne (by decide +kernel)).trans (Dq.pc1 ((Dq.putF_ne (by decide +kernel)).trans (Dq.pc1 ((Dq.putF_ne (by decide +kernel)).trans (Dq.pc1 ((Dq.putF_ne (by decide +kernel)).trans (Dq.pc1 ((Dq.putF_ne (by decide +kernel)).trans (Dq.pc1 ((Dq.putF_ne (by decide +kernel)).trans (Dq.pc1 ((Dq.putF_ne (by decide +kernel)).trans (Dq.pc1 ((Dq.putF_ne (by decide +kernel)).trans (Dq.pc1 (Dq.putF_eq))))))))))))))))
theorem i_steps : putF ("steps" : Str) y [(("block_size" : Str), v1), (("blocks" : Str), v2), (("log" : Str), v3), (("waiting" : Str), v4), (("written" : Str), v5), (("log_tail" : Str), v6), (("fuse" : Str), v7), (("dead" : Str), v8)] = [(("block_size" : Str), v1), (("blocks" : Str), v2), (("log" : Str), v3), (("waiting" : Str), v4), (("written" : Str), v5), (("log_tail" : Str), v6), (("fuse" : Str), v7), (("dead" : Str), v8), (("steps" : Str), y)] := (Dq.putF_ne (by decide +kernel)).trans (Dq.pc1 ((Dq.putF_ne (by decide +kernel)).trans (Dq.pc1 ((Dq.putF_ne (by decide +kernel)).trans (Dq.pc1 ((Dq.putF_ne (by decide +kernel)).trans (Dq.pc1 ((Dq.putF_ne (by decide +kernel)).trans (Dq.pc1 ((Dq.putF_ne (by decide +kernel)).trans (Dq.pc1 ((Dq.putF_ne (by decide +kernel)).trans (Dq.pc1 ((Dq.putF_ne (by decide +kernel)).trans (Dq.pc1 (rfl))))))))))))))))
theorem m_none {m : Str} (h : ([("block_size" : Str), "blocks", "log", "waiting", "written", "log_tail", "fuse", "dead", "steps"].all fun f => !(m == f)) = true) : (F9 v1 v2 v3 v4 v5 v6 v7 v8 v9).lookup m = none := by
  simp only [List.all_cons, List.all_nil, Bool.and_true, Bool.and_eq_true, Bool.not_eq_true'] at h
  obtain ⟨h1, h2, h3, h4, h5, h6, h7, h8, h9⟩ := h
  exact (Dq.look0 h1).trans ((Dq.look0 h2).trans ((Dq.look0 h3).trans ((Dq.look0 h4).trans ((Dq.look0 h5).trans ((Dq.look0 h6).trans ((Dq.look0 h7).trans ((Dq.look0 h8).trans ((Dq.look0 h9).trans (rfl)))))))))
end
end K09
end

section
-- part K09C
set_option Elab.async false
set_option linter.all false
set_option maxRecDepth 100000
set_option maxHeartbeats 800000
open PySem PySem.Spec PyProof.Rows L2 Fw
local macro_rules | `(tactic| walk_at "e1") => `(tactic| first
  | ((with_reducible refine' w_var ?hv ?_); (case hv => rfl))
  | with_reducible refine w_c ?_
  | with_reducible refine w_op ?_
  | with_reducible refine w_un ?_
  | with_reducible refine w_cons ?_
  | with_reducible refine w_nil ?_
  | with_reducible refine w_cl ?_
  | with_reducible refine w_cb ?_
  | with_reducible refine w_gname ?_
  | with_reducible refine w_gsub ?_
  | with_reducible refine w_test ?_
  | with_reducible refine w_B ?_
  | with_reducible refine w_bl ?_
  | with_reducible refine w_and ?_
  | with_reducible refine w_or ?_
  | with_reducible refine w_not ?_
  | with_reducible refine w_if ?_
  | with_reducible refine w_I0 ?_
  | with_reducible refine Gk.w_rU ?_
  | with_reducible refine Dq.w_orV ?_
  | with_reducible refine Dq.w_js ?_
  | with_reducible refine Dq.w_js0 ?_
  | with_reducible refine Dq.w_fm ?_
  | with_reducible refine Dq.w_andV ?_
  | with_reducible refine Gk.w_iEnum ?_
  | with_reducible refine Dq.w_dget ?_
  | with_reducible refine Dq.w_din ?_
  | with_reducible refine Dq.w_dnotin ?_
  | with_reducible refine Dq.w_dget2 ?_
  | with_reducible refine Dq.w_dnew ?_
  | with_reducible refine Dq.w_fldaug ?_
  | with_reducible refine Dq.w_aSub ?_
  | with_reducible refine Dq.w_aAdd ?_
  | with_reducible refine Dq.w_mkd ?_
  | with_reducible refine Dq.w_notN0 ?_
  | with_reducible refine Dq.w_isN0 ?_
  | with_reducible refine Dq.w_notNR ?_
  | with_reducible refine Dq.w_isNR ?_
  | with_reducible refine Dq.w_notNI ?_
  | with_reducible refine Dq.w_isNI ?_
  | with_reducible refine L2.w_neOs ?_
  | with_reducible refine w_ipI ?_
  | with_reducible refine w_eqS ?_
  | with_reducible refine w_neS ?_
  | with_reducible refine w_eqI ?_
  | with_reducible refine w_neI ?_
  | with_reducible refine w_eqB ?_
  | with_reducible refine w_neB ?_
  | ((with_reducible refine w_eq ?hs ?_); (case hs => rfl))
  | ((with_reducible refine w_ne ?hs ?_); (case hs => rfl))
  | with_reducible refine w_fld ?_
  | with_reducible refine w_bm ?_
  | with_reducible refine w_bm0 ?_
  | with_reducible refine w_sl ?_
  | with_reducible refine w_part ?_
  | with_reducible refine w_partI ?_
  | with_reducible refine w_nopart ?_
  | ((with_reducible refine' w_ixL ?hh ?ha ?_); (case hh => first | assumption | exact upd_same); (case ha => rfl))
  | ((with_reducible refine' w_setLu ?ha ?_); (case ha => rfl))
  | ((with_reducible refine' w_setL ?hh ?ha ?_); (case hh => first | assumption | exact upd_same); (case ha => rfl))
  | with_reducible refine w_iteT ?_
  | with_reducible refine w_iteF ?_
  | with_reducible refine w_lst ?_
  | with_reducible refine w_tup ?_
  | ((with_reducible refine w_new ?hz ?_); (case hz => rfl))
  | with_reducible refine w_lc ?_
  | with_reducible refine w_iL ?_
  | with_reducible refine w_iT ?_
  | with_reducible refine w_iR1 ?_
  | with_reducible refine w_iR2 ?_
  | with_reducible refine w_yes ?_
  | with_reducible refine w_iStr ?_
  | with_reducible exact tyS
  | with_reducible refine And.intro tyS ?_
  | ((with_reducible refine w_find3 ?_); (first | rw [find3_one] | rw [starts3] | skip))
  | ((with_reducible refine w_2s ?_); (try rw [find_one]))
  | ((with_reducible refine w_inS ?_); rw [S_list])
  | ((with_reducible refine w_lenS ?hz ?_); (case hz => first | assumption | omega | decide); rw [SX.S_len])
  | ((with_reducible refine w_addS ?hz ?_); (case hz => first | assumption | omega | decide); rw [vS_cat])
  | with_reducible refine w_mk ?_
  | with_reducible refine w_me ?_
  | with_reducible refine w_sfld ?_
  | ((with_reducible refine' w_gtup ?hh ?hn ?_); (case hh => first | assumption | exact upd_same); (case hn => rfl))
  | with_reducible refine w_gcons ?_
  | with_reducible refine w_gnil ?_
  | with_reducible refine w_repl ?_
  | with_reducible refine w_star ?_
  | with_reducible refine w_revL ?_
  | with_reducible refine w_isiS ?_
  | with_reducible refine w_isiI ?_
  | with_reducible refine w_isiN ?_
  | with_reducible refine w_chain ?_
  | with_reducible refine w_iEnumT ?_
  | with_reducible refine w_iZip3 ?_
  | with_reducible refine w_iZip ?_
  | with_reducible refine w_lenR3 ?_
  | with_reducible refine w_x1i ?_
  | with_reducible refine w_x1b ?_
  | with_reducible refine w_x1s ?_
  | with_reducible refine w_int1i ?_
  | with_reducible refine w_int1b ?_
  | ((with_reducible refine w_mod ?hc ?_); (case hc => omega))
  | ((with_reducible refine w_fdivW ?hc ?hd ?_); (case hc => omega); (case hd => omega))
  | ((with_reducible refine w_mul ?hc ?_); (case hc => first | exact Or.inr ⟨by decide, by decide⟩ | exact Or.inl ⟨by decide, by decide⟩))
  | ((with_reducible refine w_pow ?hc ?_); (case hc => exact ⟨by decide, by decide, by decide⟩)))
local macro_rules | `(tactic| walk_at "f1") => `(tactic| first
  | ((with_reducible refine' K09.g_block_size ?hW ?hK ?hs ?hx ?_); (case hW => assumption); (case hK => rfl); (case hs => rfl); (case hx => first | assumption | exact upd_same))
  | ((with_reducible refine' K09.g_blocks ?hW ?hK ?hs ?hx ?_); (case hW => assumption); (case hK => rfl); (case hs => rfl); (case hx => first | assumption | exact upd_same))
  | ((with_reducible refine' K09.g_log ?hW ?hK ?hs ?hx ?_); (case hW => assumption); (case hK => rfl); (case hs => rfl); (case hx => first | assumption | exact upd_same))
  | ((with_reducible refine' K09.g_waiting ?hW ?hK ?hs ?hx ?_); (case hW => assumption); (case hK => rfl); (case hs => rfl); (case hx => first | assumption | exact upd_same))
  | ((with_reducible refine' K09.g_written ?hW ?hK ?hs ?hx ?_); (case hW => assumption); (case hK => rfl); (case hs => rfl); (case hx => first | assumption | exact upd_same))
  | ((with_reducible refine' K09.g_log_tail ?hW ?hK ?hs ?hx ?_); (case hW => assumption); (case hK => rfl); (case hs => rfl); (case hx => first | assumption | exact upd_same))
  | ((with_reducible refine' K09.g_fuse ?hW ?hK ?hs ?hx ?_); (case hW => assumption); (case hK => rfl); (case hs => rfl); (case hx => first | assumption | exact upd_same))
  | ((with_reducible refine' K09.g_dead ?hW ?hK ?hs ?hx ?_); (case hW => assumption); (case hK => rfl); (case hs => rfl); (case hx => first | assumption | exact upd_same))
  | ((with_reducible refine' K09.g_steps ?hW ?hK ?hs ?hx ?_); (case hW => assumption); (case hK => rfl); (case hs => rfl); (case hx => first | assumption | exact upd_same))
  | walk_at "e1")
local macro_rules | `(tactic| walk_at "s1") => `(tactic| first
  | with_reducible refine w_seq ?_
  | with_reducible refine w_asg ?_
  | with_reducible refine w_ret ?_
  | with_reducible refine w_par ?_
  | with_reducible refine w_drop ?_
  | with_reducible refine w_next ?_
  | with_reducible refine w_ifs ?_
  | ((with_reducible refine' w_aug ?hv ?_); (case hv => rfl))
  | with_reducible refine w_for ?_
  | walk_at "f1")
local macro_rules | `(tactic| walk_at "e") => `(tactic| repeat walk_at "e1")
local macro_rules | `(tactic| walk_at "g") => `(tactic| repeat walk_at "s1")

namespace K09
open Dc Gk M9
section
variable {P : Program} {w : World} {K : PySem.W.Frag} {mg : Str → Option Value} {base : Heap} {cDF cD aE : Addr}
def spStep (K : PySem.W.Frag) (cDF cD : Addr) : Sp := fun vs H Q E => ∃ (x bA qA wA : Addr) (S : DS), vs = [.ref x] ∧ DskO K cD H x bA qA wA S ∧
  (∀ H', Cs [x] H H' → DskO K cD H' x bA qA wA S.step → S.ok = true → Q .non H') ∧ (∀ H', Cs [x] H H' → DskO K cD H' x bA qA wA S.step → S.ok = false → E (.ref cDF) none H')
theorem mem1 {x : Addr} : x ∈ [x] := List.mem_singleton.mpr rfl
theorem ok_step (W : Wd K mg cDF cD aE) : Me P w K mg base 1 cD "step" (spStep K cDF cD) := by
  refine me_mk W.k_step W.k_cl sc_Disk_step (fun _ _ _ _ _ _ us hl => match us, hl with | [_], _ => rfl) (fun vs H Q E h => ?_) (fun f cdv A outer s H vs Q E hr h => ?_)
  · obtain ⟨x, bA, qA, wA, S, rfl, _⟩ := h; rfl
  obtain ⟨x, bA, qA, wA, ⟨bs, wr, ws, lg, tl, fu, dd, st⟩, rfl, hd, q, qE⟩ := h
  obtain ⟨dx, lA, tA, zs, hx, h2, h3, h4, h5⟩ := hd.ex
  have inc : ∀ H' fu', Cs [x] H H' → H' x = some (.ins cD dx (F9 (.int 8) (.ref bA) (.ref lA) (.ref qA) (.ref wA) (.ref tA) (fuV fu') (.bl false) (.int (st + 1)))) → DskO K cD H' x bA qA wA ⟨bs, wr, ws, lg, tl, fu', false, st + 1⟩ := fun H' fu' s e =>
    hd.upx s e (s.ch.sqT h2) (s.ch.sqT h3) rfl rfl rfl
  refine ⟨_, (pss_cons (ps_if (pt_val (pe_fld (pv 0) rfl))
    (pss_one (ps_raise rfl (takes_of rfl rfl rfl rfl) (pmk_own PySem.F.excBase_ValueError W.e_DiskFault.ox W.e_DiskFault.og W.e_DiskFault.ok (raises_own W.e_DiskFault.ob W.e_DiskFault.ot) rfl)))
    pss_nil)
    (pss_cons (ps_if (PW.pt (pw_and (pt_cmpR op_notN1 (pe_fld (pv 0) rfl) pe_non (nomark _)) (pw_and1 (pt_cmpR op_eq (pe_fld (pv 0) rfl) pe_int (nomark _)))))
    (pss_cons (ps_fld (pv 0) pe_bl rfl)
    (pss_one (ps_raise rfl (takes_of rfl rfl rfl rfl) (pmk_own PySem.F.excBase_ValueError W.e_DiskFault.ox W.e_DiskFault.og W.e_DiskFault.ok (raises_own W.e_DiskFault.ob W.e_DiskFault.ot) rfl))))
    pss_nil)
    (pss_cons (ps_if (pt_cmpR op_notN1 (pe_fld (pv 0) rfl) pe_non (nomark _))
    (pss_one (ps_fldaug (pv 0) pe_int in_sub))
    pss_nil)
    (pss_one (ps_fldaug (pv 0) pe_int in_add))))), ?_⟩
  walk_at "g"
  cases dd with
  | true =>
    walk_at "g"
    exact qE H (Cs.refl _ _) hd rfl
  | false =>
    cases fu with
    | none =>
      change H x = some (.ins cD dx (F9 (.int 8) (.ref bA) (.ref lA) (.ref qA) (.ref wA) (.ref tA) .non (.bl false) (.int st))) at hx
      walk_at "g"
      refine ⟨_, _, _, _, _, rfl, hx, W.k_cl, W.k_steps, l_steps, ?_⟩
      walk_at "g"
      refine ⟨_, _, hx, by show 9 < 1000; decide, ?_⟩
      rw [put_steps]
      have s := (Cs.refl [x] H).wr (o := .ins cD dx (F9 (.int 8) (.ref bA) (.ref lA) (.ref qA) (.ref wA) (.ref tA) .non (.bl false) (.int (st + 1)))) mem1 hx trivial
      exact q _ s (inc _ none s upd_same) rfl
    | some i =>
      change H x = some (.ins cD dx (F9 (.int 8) (.ref bA) (.ref lA) (.ref qA) (.ref wA) (.ref tA) (.int i) (.bl false) (.int st))) at hx
      walk_at "g"
      refine w_iteD (fun c1 => ?_) (fun c1 => ?_)
      · subst c1
        walk_at "g"
        refine ⟨_, _, _, _, rfl, hx, W.k_cl, W.k_dead, by show 9 < 1000; decide, ?_⟩
        rw [put_dead]
        have s := (Cs.refl [x] H).wr (o := .ins cD dx (F9 (.int 8) (.ref bA) (.ref lA) (.ref qA) (.ref wA) (.ref tA) (.int 0) (.bl true) (.int st))) mem1 hx trivial
        exact qE _ s (hd.upx s (S' := ⟨bs, wr, ws, lg, tl, some 0, true, st⟩) upd_same (s.ch.sqT h2) (s.ch.sqT h3) rfl rfl rfl) rfl
      · walk_at "g"
        refine ⟨_, _, _, _, _, rfl, hx, W.k_cl, W.k_fuse, l_fuse, ?_⟩
        walk_at "g"
        refine ⟨_, _, hx, by show 9 < 1000; decide, ?_⟩
        rw [put_fuse]
        have s := (Cs.refl [x] H).wr (o := .ins cD dx (F9 (.int 8) (.ref bA) (.ref lA) (.ref qA) (.ref wA) (.ref tA) (.int (i - 1)) (.bl false) (.int st))) mem1 hx trivial
        have hx1 : upd H x (.ins cD dx (F9 (.int 8) (.ref bA) (.ref lA) (.ref qA) (.ref wA) (.ref tA) (.int (i - 1)) (.bl false) (.int st))) x = _ := upd_same
        generalize upd H x (.ins cD dx (F9 (.int 8) (.ref bA) (.ref lA) (.ref qA) (.ref wA) (.ref tA) (.int (i - 1)) (.bl false) (.int st))) = H1 at s hx1
        walk_at "g"
        refine ⟨_, _, _, _, _, rfl, hx1, W.k_cl, W.k_steps, l_steps, ?_⟩
        walk_at "g"
        refine ⟨_, _, hx1, by show 9 < 1000; decide, ?_⟩
        rw [put_steps]
        have s2 := s.wr (o := .ins cD dx (F9 (.int 8) (.ref bA) (.ref lA) (.ref qA) (.ref wA) (.ref tA) (.int (i - 1)) (.bl false) (.int (st + 1)))) mem1 hx1 trivial
        have e1 : DS.step ⟨bs, wr, ws, lg, tl, some i, false, st⟩ = ⟨bs, wr, ws, lg, tl, some (i - 1), false, st + 1⟩ := by
          unfold DS.step
          rw [if_neg Bool.false_ne_true, if_neg (fun z => c1 (Option.some.inj z))]
          rfl
        have e2 : DS.ok ⟨bs, wr, ws, lg, tl, some i, false, st⟩ = true := by
          unfold DS.ok
          rw [decide_eq_false (fun z => c1 (Option.some.inj z))]
          rfl
        exact q _ s2 (e1 ▸ inc _ (some (i - 1)) s2 upd_same) e2
end
end K09
end

section
-- part K09D
set_option Elab.async false
set_option linter.all false
set_option maxRecDepth 100000
set_option maxHeartbeats 800000
open PySem PySem.Spec PyProof.Rows L2 Fw
local macro_rules | `(tactic| walk_at "e1") => `(tactic| first
  | ((with_reducible refine' w_var ?hv ?_); (case hv => rfl))
  | with_reducible refine w_c ?_
  | with_reducible refine w_op ?_
  | with_reducible refine w_un ?_
  | with_reducible refine w_cons ?_
  | with_reducible refine w_nil ?_
  | with_reducible refine w_cl ?_
  | with_reducible refine w_cb ?_
  | with_reducible refine w_gname ?_
  | with_reducible refine w_gsub ?_
  | with_reducible refine w_test ?_
  | with_reducible refine w_B ?_
  | with_reducible refine w_bl ?_
  | with_reducible refine w_and ?_
  | with_reducible refine w_or ?_
  | with_reducible refine w_not ?_
  | with_reducible refine w_if ?_
  | with_reducible refine w_I0 ?_
  | with_reducible refine Gk.w_rU ?_
  | with_reducible refine Dq.w_orV ?_
  | with_reducible refine Dq.w_js ?_
  | with_reducible refine Dq.w_js0 ?_
  | with_reducible refine Dq.w_fm ?_
  | with_reducible refine Dq.w_andV ?_
  | with_reducible refine Gk.w_iEnum ?_
  | with_reducible refine Dq.w_dget ?_
  | with_reducible refine Dq.w_din ?_
  | with_reducible refine Dq.w_dnotin ?_
  | with_reducible refine Dq.w_dget2 ?_
  | with_reducible refine Dq.w_dnew ?_
  | with_reducible refine Dq.w_fldaug ?_
  | with_reducible refine Dq.w_aSub ?_
  | with_reducible refine Dq.w_aAdd ?_
  | with_reducible refine Dq.w_mkd ?_
  | with_reducible refine Dq.w_notN0 ?_
  | with_reducible refine Dq.w_isN0 ?_
  | with_reducible refine Dq.w_notNR ?_
  | with_reducible refine Dq.w_isNR ?_
  | with_reducible refine Dq.w_notNI ?_
  | with_reducible refine Dq.w_isNI ?_
  | with_reducible refine L2.w_neOs ?_
  | with_reducible refine w_ipI ?_
  | with_reducible refine w_eqS ?_
  | with_reducible refine w_neS ?_
  | with_reducible refine w_eqI ?_
  | with_reducible refine w_neI ?_
  | with_reducible refine w_eqB ?_
  | with_reducible refine w_neB ?_
  | ((with_reducible refine w_eq ?hs ?_); (case hs => rfl))
  | ((with_reducible refine w_ne ?hs ?_); (case hs => rfl))
  | with_reducible refine w_fld ?_
  | with_reducible refine w_bm ?_
  | with_reducible refine w_bm0 ?_
  | with_reducible refine w_sl ?_
  | with_reducible refine w_part ?_
  | with_reducible refine w_partI ?_
  | with_reducible refine w_nopart ?_
  | ((with_reducible refine' w_ixL ?hh ?ha ?_); (case hh => first | assumption | exact upd_same); (case ha => rfl))
  | ((with_reducible refine' w_setLu ?ha ?_); (case ha => rfl))
  | ((with_reducible refine' w_setL ?hh ?ha ?_); (case hh => first | assumption | exact upd_same); (case ha => rfl))
  | with_reducible refine w_iteT ?_
  | with_reducible refine w_iteF ?_
  | with_reducible refine w_lst ?_
  | with_reducible refine w_tup ?_
  | ((with_reducible refine w_new ?hz ?_); (case hz => rfl))
  | with_reducible refine w_lc ?_
  | with_reducible refine w_iL ?_
  | with_reducible refine w_iT ?_
  | with_reducible refine w_iR1 ?_
  | with_reducible refine w_iR2 ?_
  | with_reducible refine w_yes ?_
  | with_reducible refine w_iStr ?_
  | with_reducible exact tyS
  | with_reducible refine And.intro tyS ?_
  | ((with_reducible refine w_find3 ?_); (first | rw [find3_one] | rw [starts3] | skip))
  | ((with_reducible refine w_2s ?_); (try rw [find_one]))
  | ((with_reducible refine w_inS ?_); rw [S_list])
  | ((with_reducible refine w_lenS ?hz ?_); (case hz => first | assumption | omega | decide); rw [SX.S_len])
  | ((with_reducible refine w_addS ?hz ?_); (case hz => first | assumption | omega | decide); rw [vS_cat])
  | with_reducible refine w_mk ?_
  | with_reducible refine w_me ?_
  | with_reducible refine w_sfld ?_
  | ((with_reducible refine' w_gtup ?hh ?hn ?_); (case hh => first | assumption | exact upd_same); (case hn => rfl))
  | with_reducible refine w_gcons ?_
  | with_reducible refine w_gnil ?_
  | with_reducible refine w_repl ?_
  | with_reducible refine w_star ?_
  | with_reducible refine w_revL ?_
  | with_reducible refine w_isiS ?_
  | with_reducible refine w_isiI ?_
  | with_reducible refine w_isiN ?_
  | with_reducible refine w_chain ?_
  | with_reducible refine w_iEnumT ?_
  | with_reducible refine w_iZip3 ?_
  | with_reducible refine w_iZip ?_
  | with_reducible refine w_lenR3 ?_
  | with_reducible refine w_x1i ?_
  | with_reducible refine w_x1b ?_
  | with_reducible refine w_x1s ?_
  | with_reducible refine w_int1i ?_
  | with_reducible refine w_int1b ?_
  | ((with_reducible refine w_mod ?hc ?_); (case hc => omega))
  | ((with_reducible refine w_fdivW ?hc ?hd ?_); (case hc => omega); (case hd => omega))
  | ((with_reducible refine w_mul ?hc ?_); (case hc => first | exact Or.inr ⟨by decide, by decide⟩ | exact Or.inl ⟨by decide, by decide⟩))
  | ((with_reducible refine w_pow ?hc ?_); (case hc => exact ⟨by decide, by decide, by decide⟩)))
local macro_rules | `(tactic| walk_at "f1") => `(tactic| first
  | ((with_reducible refine' K09.g_block_size ?hW ?hK ?hs ?hx ?_); (case hW => assumption); (case hK => rfl); (case hs => rfl); (case hx => first | assumption | exact upd_same))
  | ((with_reducible refine' K09.g_blocks ?hW ?hK ?hs ?hx ?_); (case hW => assumption); (case hK => rfl); (case hs => rfl); (case hx => first | assumption | exact upd_same))
  | ((with_reducible refine' K09.g_log ?hW ?hK ?hs ?hx ?_); (case hW => assumption); (case hK => rfl); (case hs => rfl); (case hx => first | assumption | exact upd_same))
  | ((with_reducible refine' K09.g_waiting ?hW ?hK ?hs ?hx ?_); (case hW => assumption); (case hK => rfl); (case hs => rfl); (case hx => first | assumption | exact upd_same))
  | ((with_reducible refine' K09.g_written ?hW ?hK ?hs ?hx ?_); (case hW => assumption); (case hK => rfl); (case hs => rfl); (case hx => first | assumption | exact upd_same))
  | ((with_reducible refine' K09.g_log_tail ?hW ?hK ?hs ?hx ?_); (case hW => assumption); (case hK => rfl); (case hs => rfl); (case hx => first | assumption | exact upd_same))
  | ((with_reducible refine' K09.g_fuse ?hW ?hK ?hs ?hx ?_); (case hW => assumption); (case hK => rfl); (case hs => rfl); (case hx => first | assumption | exact upd_same))
  | ((with_reducible refine' K09.g_dead ?hW ?hK ?hs ?hx ?_); (case hW => assumption); (case hK => rfl); (case hs => rfl); (case hx => first | assumption | exact upd_same))
  | ((with_reducible refine' K09.g_steps ?hW ?hK ?hs ?hx ?_); (case hW => assumption); (case hK => rfl); (case hs => rfl); (case hx => first | assumption | exact upd_same))
  | walk_at "e1")
local macro_rules | `(tactic| walk_at "s1") => `(tactic| first
  | with_reducible refine w_seq ?_
  | with_reducible refine w_asg ?_
  | with_reducible refine w_ret ?_
  | with_reducible refine w_par ?_
  | with_reducible refine w_drop ?_
  | with_reducible refine w_next ?_
  | with_reducible refine w_ifs ?_
  | ((with_reducible refine' w_aug ?hv ?_); (case hv => rfl))
  | with_reducible refine w_for ?_
  | walk_at "f1")
local macro_rules | `(tactic| walk_at "e") => `(tactic| repeat walk_at "e1")
local macro_rules | `(tactic| walk_at "g") => `(tactic| repeat walk_at "s1")

namespace K09
open Dc Gk M9
section
variable {P : Program} {w : World} {K : PySem.W.Frag} {mg : Str → Option Value} {base : Heap} {cDF cD aE : Addr}
def spArm (K : PySem.W.Frag) (cD : Addr) : Sp := fun vs H Q _ => ∃ (x bA qA wA : Addr) (S : DS) (fu : Option Int), vs = [.ref x, fuV fu] ∧ DskO K cD H x bA qA wA S ∧ ∀ H', Cs [x] H H' → DskO K cD H' x bA qA wA { S with fu := fu } → Q .non H'
theorem ok_arm (W : Wd K mg cDF cD aE) : Me P w K mg base 1 cD "arm" (spArm K cD) := by
  refine me_mk W.k_arm W.k_cl sc_Disk_arm (fun _ _ _ _ _ _ us hl => match us, hl with | [_, _], _ => rfl) (fun vs H Q E h => ?_) (fun f cdv A outer s H vs Q E hr h => ?_)
  · obtain ⟨x, bA, qA, wA, S, fu, rfl, _⟩ := h; rfl
  obtain ⟨x, bA, qA, wA, S, fu, rfl, hd, q⟩ := h
  obtain ⟨dx, lA, tA, zs, hx, h2, h3, h4, h5⟩ := hd.ex
  refine ⟨_, (pss_one (ps_fld (pv 0) (pv 1) rfl)), ?_⟩
  walk_at "g"
  refine ⟨_, _, _, _, rfl, hx, W.k_cl, W.k_fuse, by show 9 < 1000; decide, ?_⟩
  rw [put_fuse]
  have s := (Cs.refl [x] H).wr (o := .ins cD dx (flds bA lA qA wA tA { S with fu := fu })) mem1 hx trivial
  exact q _ s (hd.upx s (S' := { S with fu := fu }) upd_same (s.ch.sqT h2) (s.ch.sqT h3) rfl rfl rfl)
def spHas (K : PySem.W.Frag) (cD : Addr) : Sp := fun vs H Q _ => ∃ (x bA qA wA : Addr) (S : DS) (n : Int), vs = [.ref x, .int n] ∧ DskO K cD H x bA qA wA S ∧ Q (.bl ((valV S.wr (.inl n)).or (valV S.bs (.inl n))).isSome) H
theorem or_some {o u : Option V} : (o.or u).isSome = (u.isSome || o.isSome) := by cases o <;> cases u <;> rfl
theorem ok_has_block (W : Wd K mg cDF cD aE) : Me P w K mg base 1 cD "has_block" (spHas K cD) := by
  refine me_mk W.k_has_block W.k_cl sc_Disk_has_block (fun _ _ _ _ _ _ us hl => match us, hl with | [_, _], _ => rfl) (fun vs H Q E h => ?_) (fun f cdv A outer s H vs Q E hr h => ?_)
  · obtain ⟨x, bA, qA, wA, S, n, rfl, _⟩ := h; rfl
  obtain ⟨x, bA, qA, wA, S, n, rfl, hd, q⟩ := h
  obtain ⟨dx, lA, tA, zs, hx, h2, h3, h4, h5⟩ := hd.ex
  rw [or_some] at q
  refine ⟨_, (pss_one (ps_ret (pe_or (pe_cmp (pc_din (hu_of hr) (pv 1) (pe_fld (pv 0) rfl)) (by with_unfolding_all rfl)) (pe_one (pe_cmp (pc_din (hu_of hr) (pv 1) (pe_fld (pv 0) rfl)) (by with_unfolding_all rfl)))))), ?_⟩
  walk_at "g"
  refine ⟨bA, _, rfl, DGet.k (k := .inl n) hd.bs, ?_⟩
  walk_at "g"
  refine w_ite (fun c => ?_) (fun c => ?_)
  · rw [c, Bool.true_or] at q
    exact q
  · rw [c, Bool.false_or] at q
    walk_at "g"
    exact ⟨wA, _, rfl, DGet.k (k := .inl n) hd.wr, q⟩
def spRead (K : PySem.W.Frag) (cDF cD : Addr) : Sp := fun vs H Q E => ∃ (x bA qA wA : Addr) (S : DS) (n : Nat), vs = [.ref x, .int n] ∧ n < 100 ∧ DskO K cD H x bA qA wA S ∧ (S.dd = true → Fails H E cDF) ∧
  (S.dd = false → match (valV S.wr (.inl n)).or (valV S.bs (.inl n)) with | none => Fails H E cDF | some v => Q v H)
theorem ok_read_block (W : Wd K mg cDF cD aE) : Me P w K mg base 1 cD "read_block" (spRead K cDF cD) := by
  refine me_mk W.k_read_block W.k_cl sc_Disk_read_block (fun _ _ _ _ _ _ us hl => match us, hl with | [_, _], _ => rfl) (fun vs H Q E h => ?_) (fun f cdv A outer s H vs Q E hr h => ?_)
  · obtain ⟨x, bA, qA, wA, S, n, rfl, _⟩ := h; rfl
  obtain ⟨x, bA, qA, wA, S, n, rfl, hn, hd, qd, q⟩ := h
  obtain ⟨dx, lA, tA, zs, hx, h2, h3, h4, h5⟩ := hd.ex
  refine ⟨_, (pss_cons (ps_if (pt_val (pe_fld (pv 0) rfl))
    (pss_one (ps_raise rfl (takes_of rfl rfl rfl rfl) (pmk_own PySem.F.excBase_ValueError W.e_DiskFault.ox W.e_DiskFault.og W.e_DiskFault.ok (raises_own W.e_DiskFault.ob W.e_DiskFault.ot) rfl)))
    pss_nil)
    (pss_cons (ps_if (pt_cmp (pc_din (hu_of hr) (pv 1) (pe_fld (pv 0) rfl)) (by with_unfolding_all rfl))
    (pss_one (ps_ret (pe_dget (hu_of hr) (pe_fld (pv 0) rfl) (pv 1) (fun _ _ => rfl))))
    pss_nil)
    (pss_cons (ps_if (pt_cmp (pc_dnotin (hu_of hr) (pv 1) (pe_fld (pv 0) rfl)) (by with_unfolding_all rfl))
    (pss_one (ps_raise rfl (takes_of rfl rfl rfl rfl) (SkE.pmk_own1 PySem.F.excBase_ValueError W.e_DiskFault.ox W.e_DiskFault.og W.e_DiskFault.ok (raises_own W.e_DiskFault.ob W.e_DiskFault.ot) rfl (pe_joined (PJ.cons pe_str (PJ.cons (pe_fmt (pv 1)) PJ.nil))))))
    pss_nil)
    (pss_one (ps_ret (pe_dget (hu_of hr) (pe_fld (pv 0) rfl) (pv 1) (fun _ _ => rfl))))))), ?_⟩
  walk_at "g"
  refine w_ite (fun c => ?_) (fun c => ?_)
  · exact qd c H (Same.refl H)
  replace q := q c
  walk_at "g"
  refine ⟨wA, _, rfl, DGet.k (k := .inl n) hd.wr, ?_⟩
  cases ew : valV S.wr (.inl n) with
  | some v =>
    rw [ew] at q
    rw [Option.isSome_some]
    walk_at "g"
    exact ⟨wA, v, rfl, ew ▸ DGet.k (k := .inl n) hd.wr, q⟩
  | none =>
    rw [ew] at q
    rw [Option.isSome_none]
    walk_at "g"
    refine ⟨bA, _, rfl, DGet.k (k := .inl n) hd.bs, ?_⟩
    cases eb : valV S.bs (.inl n) with
    | none =>
      rw [eb] at q
      rw [Option.isSome_none, Bool.not_false]
      walk_at "g"
      refine ⟨_, rfl, by decide +kernel, ?_⟩
      walk_at "g"
      refine Dq.fmt_j (Nat.lt_trans hn (by decide)) ?_ fun z => ?_
      · decide +kernel
      walk_at "g"
      exact q H (Same.refl H)
    | some v =>
      rw [eb] at q
      rw [Option.isSome_some, Bool.not_true]
      walk_at "g"
      exact ⟨bA, v, rfl, eb ▸ DGet.k (k := .inl n) hd.bs, q⟩
def spWrite (K : PySem.W.Frag) (cDF cD : Addr) : Sp := fun vs H Q E => ∃ (x bA qA wA : Addr) (S : DS) (n : Int) (a : Addr) (d : List Int), vs = [.ref x, .int n, .ref a] ∧ DskO K cD H x bA qA wA S ∧ SqT K H a (d.map V.int) ∧ S.ws.length ≤ 1000 ∧ S.wr.length ≤ 1000 ∧
  (d.length ≠ 8 → Fails H E cDF) ∧ (d.length = 8 → (∀ H', Cs [x, qA, wA] H H' → DskO K cD H' x bA qA wA (S.write n a) → S.ok = true → Q .non H') ∧ ∀ H', Cs [x, qA, wA] H H' → DskO K cD H' x bA qA wA S.step → S.ok = false → E (.ref cDF) none H')
theorem ok_write_block (W : Wd K mg cDF cD aE) (c_Disk_step : Me P w K mg base 1 cD "step" (spStep K cDF cD)) : Me P w K mg base 2 cD "write_block" (spWrite K cDF cD) := by
  refine me_mk W.k_write_block W.k_cl sc_Disk_write_block (fun _ _ _ _ _ _ us hl => match us, hl with | [_, _, _], _ => rfl) (fun vs H Q E h => ?_) (fun f cdv A outer s H vs Q E hr h => ?_)
  · obtain ⟨x, bA, qA, wA, S, n, a, d, rfl, _⟩ := h; rfl
  obtain ⟨x, bA, qA, wA, S, n, a, d, rfl, hd, ha, hw, hv, qn, q⟩ := h
  obtain ⟨dx, lA, tA, zs, hx, h2, h3, h4, h5⟩ := hd.ex
  refine ⟨_, (pss_cons (ps_if (pt_cmpR op_ne (pe_callB call_len_seq rfl W.n_len PySem.boot_len (pa_cons (pv 2) pa_nil)) (pe_fld (pv 0) rfl) (nomark _))
    (pss_one (ps_raise rfl (takes_of rfl rfl rfl rfl) (SkE.pmk_own1 PySem.F.excBase_ValueError W.e_DiskFault.ox W.e_DiskFault.og W.e_DiskFault.ok (raises_own W.e_DiskFault.ob W.e_DiskFault.ot) rfl (pe_joined (PJ.cons pe_str (PJ.cons (pe_fmt (pe_fld (pv 0) rfl)) (PJ.cons pe_str PJ.nil)))))))
    pss_nil)
    (pss_cons (ps_expr (pe_me0 c_Disk_step hr (by decide) passD (pv 0)))
    (pss_cons (ps_expr (pe_bm PySem.F.plainAttrs_list PySem.F.slot_list_append PySem.F.type_list_append mt_append (pe_fld (pv 0) rfl) (pa_cons (pe_tup (pa_cons (pv 1) (pa_cons (pe_callTy call_tuple_of rfl W.n_tuple (by decide +kernel) (pa_cons (pv 2) pa_nil)) pa_nil))) pa_nil)))
    (pss_one (ps_asg (pe_callTy call_tuple_of rfl W.n_tuple (by decide +kernel) (pa_cons (pv 2) pa_nil)) (pg_sub (pe_fld (pv 0) rfl) (pv 1) (set_dict (hu_of hr)))))))), ?_⟩
  walk_at "g"
  refine ⟨a, _, rfl, .inr ha, ?_⟩
  rw [List.length_map]
  walk_at "g"
  refine w_iteN (fun c => ?_) (fun c => ?_)
  · have c2 : d.length ≠ 8 := fun z => c (by rw [z]; rfl)
    walk_at "g"
    refine ⟨_, rfl, by decide +kernel, ?_⟩
    walk_at "g"
    refine .inr ⟨8, rfl, by decide, ⟨_, rfl, by decide +kernel, ?_⟩⟩
    walk_at "g"
    refine ⟨_, rfl, by decide +kernel, ?_⟩
    walk_at "g"
    exact qn c2 H (Same.refl H)
  have c2 : d.length = 8 := by
    have c3 : (d.length : Int) = 8 := c
    omega
  obtain ⟨q, qE⟩ := q c2
  walk_at "g"
  refine ⟨x, dx, _, rfl, hx, m_none (by decide +kernel), ?_⟩
  walk_at "g"
  refine ⟨x, bA, qA, wA, S, rfl, hd, fun H1 s1 d1 ok => ?_, fun H1 s1 d1 ok => qE H1 (s1.le (fun b hb => by rw [List.mem_singleton.mp hb]; exact List.mem_cons_self)) d1 ok⟩
  replace q := fun H' s h => q H' s h ok
  obtain ⟨dx1, lA1, tA1, zs1, hx1, g2, g3, g4, g5⟩ := id d1.ex
  replace s1 : Cs [x, qA, wA] H H1 := s1.le (fun b hb => by rw [List.mem_singleton.mp hb]; exact List.mem_cons_self)
  rw [step_ws] at g5
  have hzl : zs1.length = S.ws.length := Paired.length g5
  have ha1 := s1.ch.sqT ha
  walk_at "g"
  refine ⟨tyL g4, ?_⟩
  walk_at "g"
  refine ⟨a, _, rfl, .inr ⟨ha1, ?_⟩⟩
  walk_at "g"
  intro z hz
  have sz := same_new hz (.tup [.int n, .ref a])
  have ez : upd H1 z (.tup [.int n, .ref a]) z = some (.tup [.int n, .ref a]) := upd_same
  generalize upd H1 z (.tup [.int n, .ref a]) = H2 at sz ez
  replace s1 : Cs [x, qA, wA] H H2 := s1.trans (Cs.of sz)
  replace g5 : Prs K H2 (zs1 ++ [z]) (S.ws ++ [(n, a)]) := Paired.snoc (g5.ch (M := []) (Ch.of sz)) (SqT.of ez)
  have g4' := sz _ _ g4
  have hx2 := sz _ _ hx1
  have d2 := d1.sm sz
  have ha2 := s1.ch.sqT ha
  clear ha1 hx1 g4 ez
  walk_at "g"
  refine w_app g4' (by rw [List.length_map]; exact Nat.lt_of_le_of_lt (by omega : zs1.length ≤ 1000) (by decide)) ?_
  have s3 : Cs [x, qA, wA] H2 (upd H2 qA (.lst (zs1.map V.ref ++ [.ref z]))) := (Cs.refl _ _).wr (by simp) g4' trivial
  have e3 : upd H2 qA (.lst (zs1.map V.ref ++ [.ref z])) qA = some (.lst ((zs1 ++ [z]).map V.ref)) := by rw [upd_same, List.map_append]; rfl
  have hx3 : upd H2 qA (.lst (zs1.map V.ref ++ [.ref z])) x = some _ := (upd_ne (ne_of hx2 g4' (fun z => by cases z))).trans hx2
  have hw3 : upd H2 qA (.lst (zs1.map V.ref ++ [.ref z])) wA = some _ := (upd_ne (ne_of d2.wr g4' (fun z => by cases z))).trans d2.wr
  have hb3 : upd H2 qA (.lst (zs1.map V.ref ++ [.ref z])) bA = some _ := (upd_ne (ne_of d2.bs g4' (fun z => by cases z))).trans d2.bs
  generalize upd H2 qA (.lst (zs1.map V.ref ++ [.ref z])) = H3 at s3 e3 hx3 hw3 hb3
  walk_at "g"
  refine ⟨a, _, rfl, .inr ⟨s3.ch.sqT ha2, ?_⟩⟩
  walk_at "g"
  rw [step_wr] at hw3
  refine ⟨wA, _, rfl, DPut.k (k := .inl n) hw3 (Nat.lt_of_le_of_lt hv (by decide)), ?_⟩
  have s4 : Cs [x, qA, wA] H3 (upd H3 wA (.dK (putK S.wr (.inl n) (.ref a)))) := (Cs.refl _ _).wr (by simp) hw3 trivial
  have s13 := (s1.trans s3).trans s4
  have s34 := s3.trans s4
  refine q _ s13 ⟨⟨dx1, lA1, tA1, zs1 ++ [z], ?_, ?_, ?_, ?_, ?_⟩, ?_, upd_same, d2.ne, ?_, ?_, ?_, ?_⟩
  · exact (upd_ne (ne_of hx3 hw3 (fun z => by cases z))).trans hx3
  · exact s34.ch.sqT ((Cs.of (M := [x, qA, wA]) sz).ch.sqT g2)
  · exact s34.ch.sqT ((Cs.of (M := [x, qA, wA]) sz).ch.sqT g3)
  · exact (upd_ne (ne_of e3 hw3 (fun z => by cases z))).trans e3
  · exact g5.ch s34.ch
  · exact (upd_ne d2.ne).trans hb3
  · exact d2.ab.ch s34.ch
  · have := (d2.aw.ch s34.ch).put (k := .inl n) (a := a) (d := d) ⟨s34.ch.sqT ha2, c2⟩
    rw [step_wr] at this
    exact this
  · intro p hp
    rcases List.mem_append.mp hp with hp | hp
    · exact (d2.aq.ch s34.ch) p (by rw [step_ws]; exact hp)
    · rw [List.mem_singleton.mp hp]
      exact ⟨d, s34.ch.sqT ha2, c2⟩
  · exact d2.nd
def spSync (K : PySem.W.Frag) (cDF cD : Addr) : Sp := fun vs H Q E => ∃ (x bA qA wA : Addr) (S : DS), vs = [.ref x] ∧ DskO K cD H x bA qA wA S ∧ S.bs.length + S.ws.length ≤ 1000 ∧
  (∀ q' w' H', Cs [x, bA] H H' → H q' = none → H w' = none → q' ≠ w' → DskO K cD H' x bA q' w' S.sync → S.ok = true → Q .non H') ∧ ∀ H', Cs [x, bA] H H' → DskO K cD H' x bA qA wA S.step → S.ok = false → E (.ref cDF) none H'
theorem ok_sync_blocks (W : Wd K mg cDF cD aE) (c_Disk_step : Me P w K mg base 1 cD "step" (spStep K cDF cD)) : Me P w K mg base 2 cD "sync_blocks" (spSync K cDF cD) := by
  refine me_mk W.k_sync_blocks W.k_cl sc_Disk_sync_blocks (fun _ _ _ _ _ _ us hl => match us, hl with | [_], _ => rfl) (fun vs H Q E h => ?_) (fun f cdv A outer s H vs Q E hr h => ?_)
  · obtain ⟨x, bA, qA, wA, S, rfl, _⟩ := h; rfl
  obtain ⟨x, bA, qA, wA, S, rfl, hd, hl, q, qE⟩ := h
  obtain ⟨dx, lA, tA, zs, hx, h2, h3, h4, h5⟩ := hd.ex
  refine ⟨_, (pss_cons (ps_expr (pe_me0 c_Disk_step hr (by decide) passD (pv 0)))
    (pss_cons (ps_for (passes_of rfl) rfl (pi_list (pe_fld (pv 0) rfl)) (pg_tup rfl (pgs_cons (pg_name (i := 1) sc_Disk_sync_blocks.nd rfl (Or.inl rfl)) (pgs_cons (pg_name (i := 2) sc_Disk_sync_blocks.nd rfl (Or.inl rfl)) pgs_nil)))
    (pss_one (ps_asg (pv 2) (pg_sub (pe_fld (pv 0) rfl) (pv 1) (set_dict (hu_of hr))))))
    (pss_cons (ps_fld (pv 0) (pe_lst pa_nil) rfl)
    (pss_one (ps_fld (pv 0) pe_dnewK rfl))))), ?_⟩
  walk_at "g"
  refine ⟨x, dx, _, rfl, hx, m_none (by decide +kernel), ?_⟩
  walk_at "g"
  refine ⟨x, bA, qA, wA, S, rfl, hd, fun H1 s1 d1 ok => ?_, fun H1 s1 d1 ok => qE H1 (s1.le (fun b hb => by rw [List.mem_singleton.mp hb]; exact List.mem_cons_self)) d1 ok⟩
  replace q := fun q' w' H' s e1 e2 e3 h => q q' w' H' s e1 e2 e3 h ok
  obtain ⟨dx1, lA1, tA1, zs1, hx1, g2, g3, g4, g5⟩ := id d1.ex
  replace s1 : Cs [x, bA] H H1 := s1.le (fun b hb => by rw [List.mem_singleton.mp hb]; exact List.mem_cons_self)
  have hb1 := d1.bs
  rw [step_bs] at hb1
  rw [step_ws] at g5
  have nq : qA ∉ [x, bA] := fun z => by
    rcases List.mem_cons.mp z with z | z
    · exact absurd z (ne_of g4 hx1 (fun z => by cases z))
    · exact absurd (List.mem_singleton.mp z) (ne_of g4 hb1 (fun z => by cases z))
  have nxb : x ≠ bA := ne_of hx1 hb1 (fun z => by cases z)
  have hzl : zs1.length = S.ws.length := Paired.length g5
  walk_at "g"
  refine w_forL (SqL.of g4) (fun i σ Hc => ∃ v1 v2 : Option V, σ = [some (.ref x), v1, v2] ∧ Cs [x, bA] H1 Hc ∧ Hc bA = some (.dK (putW (S.ws.take i) S.bs)) ∧ Hc x = some (.ins cD dx1 (flds bA lA1 qA wA tA1 S.step)))
    ⟨none, none, rfl, Cs.refl _ _, hb1, hx1⟩ (fun i σ Hc _ ⟨_, _, _, s2, _, _⟩ => SqL.of (s2.ch.lst g4 nq)) ?_ ?_
  · rintro i y σ H2 hi ⟨v1, v2, rfl, s2, eb, hx2⟩
    obtain ⟨z, hz, rfl⟩ := map_get hi
    obtain ⟨⟨n, a⟩, hp, gz⟩ := paired_get g5 hz
    have hlt : i < S.ws.length := (List.getElem?_eq_some_iff.mp hp).1
    refine w_gtupS (s2.ch.sqT gz) rfl ?_
    walk_at "g"
    have hlen := len_putW (S.ws.take i) S.bs
    rw [List.length_take] at hlen
    refine ⟨bA, _, rfl, DPut.k (k := .inl n) eb (Nat.lt_of_le_of_lt (by omega : _ ≤ 1000) (by decide)), ?_⟩
    refine ⟨_, _, rfl, s2.wr (by simp) eb trivial, ?_, (upd_ne nxb).trans hx2⟩
    rw [upd_same, List.take_add_one, hp]
    show some (HO.dK _) = some (HO.dK (putW (S.ws.take i ++ [(n, a)]) S.bs))
    rw [putW_snoc]
  · rintro σ H2 ⟨v1, v2, rfl, s2, eb, hx2⟩
    rw [List.length_map, hzl, List.take_length] at eb
    walk_at "g"
    intro q' hq
    have s3 := same_new hq (.lst [])
    have e3 : upd H2 q' (.lst []) q' = some (.lst []) := upd_same
    generalize upd H2 q' (.lst []) = H3 at s3 e3
    have hx3 := s3 _ _ hx2
    have s13 := (s1.trans s2).trans (Cs.of s3)
    walk_at "g"
    refine ⟨_, _, _, _, rfl, hx3, W.k_cl, W.k_waiting, by show 9 < 1000; decide, ?_⟩
    rw [put_waiting]
    have fq : H q' = none := (s1.trans s2).free (fun b hb => by
      rcases List.mem_cons.mp hb with z | z
      · rw [z]; exact ⟨_, hx2⟩
      · rw [List.mem_singleton.mp z]; exact ⟨_, eb⟩) hq
    have s4 := (Cs.refl [x, bA] H3).wr (o := .ins cD dx1 (F9 (.int 8) (.ref bA) (.ref lA1) (.ref q') (.ref wA) (.ref tA1) (fuV S.step.fu) (.bl S.step.dd) (.int S.step.st))) List.mem_cons_self hx3 trivial
    have hx4 : upd H3 x (.ins cD dx1 (F9 (.int 8) (.ref bA) (.ref lA1) (.ref q') (.ref wA) (.ref tA1) (fuV S.step.fu) (.bl S.step.dd) (.int S.step.st))) x = some (.ins cD dx1 (F9 (.int 8) (.ref bA) (.ref lA1) (.ref q') (.ref wA) (.ref tA1) (fuV S.step.fu) (.bl S.step.dd) (.int S.step.st))) := upd_same
    have e4 := (upd_ne (o := .ins cD dx1 (F9 (.int 8) (.ref bA) (.ref lA1) (.ref q') (.ref wA) (.ref tA1) (fuV S.step.fu) (.bl S.step.dd) (.int S.step.st))) (ne_of e3 hx3 (fun z => by cases z))).trans e3
    have eb4 := (upd_ne (o := .ins cD dx1 (F9 (.int 8) (.ref bA) (.ref lA1) (.ref q') (.ref wA) (.ref tA1) (fuV S.step.fu) (.bl S.step.dd) (.int S.step.st))) (ne_of (s3 _ _ eb) hx3 (fun z => by cases z))).trans (s3 _ _ eb)
    generalize upd H3 x (.ins cD dx1 (F9 (.int 8) (.ref bA) (.ref lA1) (.ref q') (.ref wA) (.ref tA1) (fuV S.step.fu) (.bl S.step.dd) (.int S.step.st))) = H4 at s4 hx4 e4 eb4
    walk_at "g"
    intro w' hw
    have s5 := same_new hw (.dK [])
    have e5 : upd H4 w' (.dK []) w' = some (.dK []) := upd_same
    generalize upd H4 w' (.dK []) = H5 at s5 e5
    have hx5 := s5 _ _ hx4
    walk_at "g"
    refine ⟨_, _, _, _, rfl, hx5, W.k_cl, W.k_written, by show 9 < 1000; decide, ?_⟩
    rw [put_written]
    have s14 := s13.trans s4
    have fw : H w' = none := s14.free (fun b hb => by
      rcases List.mem_cons.mp hb with z | z
      · rw [z]; exact ⟨_, hx4⟩
      · rw [List.mem_singleton.mp z]; exact ⟨_, eb4⟩) hw
    have s6 := (Cs.refl [x, bA] H5).wr (o := .ins cD dx1 (flds bA lA1 q' w' tA1 S.sync)) List.mem_cons_self hx5 trivial
    have s16 := (s14.trans (Cs.of s5)).trans s6
    have s26 := ((((s2.trans (Cs.of s3)).trans s4).trans (Cs.of s5)).trans s6).ch
    have ab := d1.ab.ch s26
    rw [step_bs] at ab
    have aq := d1.aq.ch s26
    rw [step_ws] at aq
    have nd := d1.nd
    rw [step_bs] at nd
    refine q q' w' _ s16 fq fw (ne_of_none e4 hw) ⟨⟨dx1, lA1, tA1, [], upd_same, s26.sqT g2, s26.sqT g3, ?_, .nil⟩, ?_, ?_, ?_, ab.putW aq, ⟨[], .nil⟩, (fun p hp => absurd hp List.not_mem_nil), nodup_putW _ nd⟩
    · exact (upd_ne (ne_of (s5 _ _ e4) hx5 (fun z => by cases z))).trans (s5 _ _ e4)
    · exact (upd_ne (ne_of (s5 _ _ eb4) hx5 (fun z => by cases z))).trans (s5 _ _ eb4)
    · exact (upd_ne (ne_of e5 hx5 (fun z => by cases z))).trans e5
    · exact ne_of_none eb4 hw
/-- a step, then the log's ends become these -/
def LogS (K : PySem.W.Frag) (cDF cD : Addr) (H : Hp) (Q : VK) (E : XK) (x bA qA wA : Addr) (S : DS) (lg tl : List Int) : Prop :=
  (∀ H', Cs [x] H H' → DskO K cD H' x bA qA wA { S.step with lg := lg, tl := tl } → S.ok = true → Q .non H') ∧ ∀ H', Cs [x] H H' → DskO K cD H' x bA qA wA S.step → S.ok = false → E (.ref cDF) none H'
def spApp (K : PySem.W.Frag) (cDF cD : Addr) : Sp := fun vs H Q E => ∃ (x bA qA wA : Addr) (S : DS) (a : Addr) (d : List Int), vs = [.ref x, .ref a] ∧ DskO K cD H x bA qA wA S ∧ SqT K H a (d.map V.int) ∧ S.tl.length + d.length ≤ 1000 ∧ LogS K cDF cD H Q E x bA qA wA S S.lg (S.tl ++ d)
theorem ok_append_log (W : Wd K mg cDF cD aE) (c_Disk_step : Me P w K mg base 1 cD "step" (spStep K cDF cD)) : Me P w K mg base 2 cD "append_log" (spApp K cDF cD) := by
  refine me_mk W.k_append_log W.k_cl sc_Disk_append_log (fun _ _ _ _ _ _ us hl => match us, hl with | [_, _], _ => rfl) (fun vs H Q E h => ?_) (fun f cdv A outer s H vs Q E hr h => ?_)
  · obtain ⟨x, bA, qA, wA, S, a, d, rfl, _⟩ := h; rfl
  obtain ⟨x, bA, qA, wA, S, a, d, rfl, hd, ha, hl, q, qE⟩ := h
  obtain ⟨dx, lA, tA, zs, hx, h2, h3, h4, h5⟩ := hd.ex
  refine ⟨_, (pss_cons (ps_expr (pe_me0 c_Disk_step hr (by decide) passD (pv 0)))
    (pss_one (ps_fld (pv 0) (pe_tup (StX.pa_star (pe_fld (pv 0) rfl) (StX.pa_star (pv 1) pa_nil))) rfl))), ?_⟩
  walk_at "g"
  refine ⟨x, dx, _, rfl, hx, m_none (by decide +kernel), ?_⟩
  walk_at "g"
  refine ⟨x, bA, qA, wA, S, rfl, hd, fun H1 s1 d1 ok => ?_, qE⟩
  replace q := fun H' s h => q H' s h ok
  obtain ⟨dx1, lA1, tA1, zs1, hx1, g2, g3, g4, g5⟩ := id d1.ex
  rw [step_tl] at g3
  walk_at "g"
  refine ⟨tA1, _, rfl, .inl g3, ?_⟩
  walk_at "g"
  refine ⟨a, _, rfl, .inl (s1.ch.sqT ha), ?_⟩
  walk_at "g"
  refine ⟨Nat.le_trans (by simp only [List.length_append, List.length_map, List.length_nil]; omega : _ ≤ 2000) (by decide), fun p hp => ?_⟩
  have s2 := same_new hp (.tup (S.tl.map V.int ++ (d.map V.int ++ [])))
  have e2 : upd H1 p (.tup (S.tl.map V.int ++ (d.map V.int ++ []))) p = some (.tup ((S.tl ++ d).map V.int)) := by rw [upd_same]; simp
  generalize upd H1 p (.tup (S.tl.map V.int ++ (d.map V.int ++ []))) = H2 at s2 e2
  have hx2 := s2 _ _ hx1
  have d2 := d1.sm s2
  walk_at "g"
  refine ⟨_, _, _, _, rfl, hx2, W.k_cl, W.k_log_tail, by show 9 < 1000; decide, ?_⟩
  rw [put_log_tail]
  have s3 := (Cs.refl [x] H2).wr (o := .ins cD dx1 (flds bA lA1 qA wA p { S.step with lg := S.lg, tl := S.tl ++ d })) mem1 hx2 trivial
  rw [step_lg] at g2
  exact q _ ((s1.trans (Cs.of s2)).trans s3) (d2.upx s3 upd_same (s3.ch.sqT (sqT_same g2 s2)) (s3.ch.sqT (SqT.of e2)) rfl rfl rfl)
def spSyL (K : PySem.W.Frag) (cDF cD : Addr) : Sp := fun vs H Q E => ∃ (x bA qA wA : Addr) (S : DS), vs = [.ref x] ∧ DskO K cD H x bA qA wA S ∧ S.lg.length + S.tl.length ≤ 2000 ∧ LogS K cDF cD H Q E x bA qA wA S (S.lg ++ S.tl) []
theorem ok_sync_log (W : Wd K mg cDF cD aE) (c_Disk_step : Me P w K mg base 1 cD "step" (spStep K cDF cD)) : Me P w K mg base 2 cD "sync_log" (spSyL K cDF cD) := by
  refine me_mk W.k_sync_log W.k_cl sc_Disk_sync_log (fun _ _ _ _ _ _ us hl => match us, hl with | [_], _ => rfl) (fun vs H Q E h => ?_) (fun f cdv A outer s H vs Q E hr h => ?_)
  · obtain ⟨x, bA, qA, wA, S, rfl, _⟩ := h; rfl
  obtain ⟨x, bA, qA, wA, S, rfl, hd, hl, q, qE⟩ := h
  obtain ⟨dx, lA, tA, zs, hx, h2, h3, h4, h5⟩ := hd.ex
  refine ⟨_, (pss_cons (ps_expr (pe_me0 c_Disk_step hr (by decide) passD (pv 0)))
    (pss_cons (ps_fld (pv 0) (pe_op op_catA (pe_fld (pv 0) rfl) (pe_fld (pv 0) rfl)) rfl)
    (pss_one (ps_fld (pv 0) (pe_tup pa_nil) rfl)))), ?_⟩
  walk_at "g"
  refine ⟨x, dx, _, rfl, hx, m_none (by decide +kernel), ?_⟩
  walk_at "g"
  refine ⟨x, bA, qA, wA, S, rfl, hd, fun H1 s1 d1 ok => ?_, qE⟩
  replace q := fun H' s h => q H' s h ok
  obtain ⟨dx1, lA1, tA1, zs1, hx1, g2, g3, g4, g5⟩ := id d1.ex
  rw [step_lg] at g2
  rw [step_tl] at g3
  walk_at "g"
  refine w_catInts g2 g3 (by omega) fun p H2 s2 e2 => ?_
  have hx2 := s2 _ _ hx1
  have d2 := d1.sm s2
  have g3' := sqT_same g3 s2
  walk_at "g"
  refine ⟨_, _, _, _, rfl, hx2, W.k_cl, W.k_log, by show 9 < 1000; decide, ?_⟩
  rw [put_log]
  have s3 := (Cs.refl [x] H2).wr (o := .ins cD dx1 (F9 (.int 8) (.ref bA) (.ref p) (.ref qA) (.ref wA) (.ref tA1) (fuV S.step.fu) (.bl S.step.dd) (.int S.step.st))) mem1 hx2 trivial
  rw [← step_tl] at g3'
  have hx3 : upd H2 x (.ins cD dx1 (F9 (.int 8) (.ref bA) (.ref p) (.ref qA) (.ref wA) (.ref tA1) (fuV S.step.fu) (.bl S.step.dd) (.int S.step.st))) x = some (.ins cD dx1 (flds bA p qA wA tA1 { S.step with lg := S.lg ++ S.tl })) := upd_same
  generalize upd H2 x (.ins cD dx1 (F9 (.int 8) (.ref bA) (.ref p) (.ref qA) (.ref wA) (.ref tA1) (fuV S.step.fu) (.bl S.step.dd) (.int S.step.st))) = H3 at s3 hx3
  have d3 := d2.upx (S' := { S.step with lg := S.lg ++ S.tl }) s3 hx3 (s3.ch.sqT e2) (s3.ch.sqT g3') rfl rfl rfl
  walk_at "g"
  intro p4 hp4
  have s4 := same_new hp4 (.tup [])
  have e4 : upd H3 p4 (.tup []) p4 = some (.tup []) := upd_same
  generalize upd H3 p4 (.tup []) = H4 at s4 e4
  have hx4 := s4 _ _ hx3
  have d4 := d3.sm s4
  walk_at "g"
  refine ⟨_, _, _, _, rfl, hx4, W.k_cl, W.k_log_tail, by show 9 < 1000; decide, ?_⟩
  rw [put_log_tail]
  have s5 := (Cs.refl [x] H4).wr (o := .ins cD dx1 (flds bA p qA wA p4 { S.step with lg := S.lg ++ S.tl, tl := [] })) mem1 hx4 trivial
  exact q _ ((((s1.trans (Cs.of s2)).trans s3).trans (Cs.of s4)).trans s5) (d4.upx s5 upd_same (s5.ch.sqT (sqT_same (s3.ch.sqT e2) s4)) (s5.ch.sqT (SqT.of e4)) rfl rfl rfl)
def spClr (K : PySem.W.Frag) (cDF cD : Addr) : Sp := fun vs H Q E => ∃ (x bA qA wA : Addr) (S : DS), vs = [.ref x] ∧ DskO K cD H x bA qA wA S ∧ LogS K cDF cD H Q E x bA qA wA S [] []
theorem ok_clear_log (W : Wd K mg cDF cD aE) (c_Disk_step : Me P w K mg base 1 cD "step" (spStep K cDF cD)) : Me P w K mg base 2 cD "clear_log" (spClr K cDF cD) := by
  refine me_mk W.k_clear_log W.k_cl sc_Disk_clear_log (fun _ _ _ _ _ _ us hl => match us, hl with | [_], _ => rfl) (fun vs H Q E h => ?_) (fun f cdv A outer s H vs Q E hr h => ?_)
  · obtain ⟨x, bA, qA, wA, S, rfl, _⟩ := h; rfl
  obtain ⟨x, bA, qA, wA, S, rfl, hd, q, qE⟩ := h
  obtain ⟨dx, lA, tA, zs, hx, h2, h3, h4, h5⟩ := hd.ex
  refine ⟨_, (pss_cons (ps_expr (pe_me0 c_Disk_step hr (by decide) passD (pv 0)))
    (pss_cons (ps_fld (pv 0) (pe_tup pa_nil) rfl)
    (pss_one (ps_fld (pv 0) (pe_tup pa_nil) rfl)))), ?_⟩
  walk_at "g"
  refine ⟨x, dx, _, rfl, hx, m_none (by decide +kernel), ?_⟩
  walk_at "g"
  refine ⟨x, bA, qA, wA, S, rfl, hd, fun H1 s1 d1 ok => ?_, qE⟩
  replace q := fun H' s h => q H' s h ok
  obtain ⟨dx1, lA1, tA1, zs1, hx1, g2, g3, g4, g5⟩ := id d1.ex
  rw [step_tl] at g3
  walk_at "g"
  intro p hp
  have s2 := same_new hp (.tup [])
  have e2 : upd H1 p (.tup []) p = some (.tup []) := upd_same
  generalize upd H1 p (.tup []) = H2 at s2 e2
  have hx2 := s2 _ _ hx1
  have d2 := d1.sm s2
  have g3' := sqT_same g3 s2
  walk_at "g"
  refine ⟨_, _, _, _, rfl, hx2, W.k_cl, W.k_log, by show 9 < 1000; decide, ?_⟩
  rw [put_log]
  have s3 := (Cs.refl [x] H2).wr (o := .ins cD dx1 (F9 (.int 8) (.ref bA) (.ref p) (.ref qA) (.ref wA) (.ref tA1) (fuV S.step.fu) (.bl S.step.dd) (.int S.step.st))) mem1 hx2 trivial
  rw [← step_tl] at g3'
  have hx3 : upd H2 x (.ins cD dx1 (F9 (.int 8) (.ref bA) (.ref p) (.ref qA) (.ref wA) (.ref tA1) (fuV S.step.fu) (.bl S.step.dd) (.int S.step.st))) x = some (.ins cD dx1 (flds bA p qA wA tA1 { S.step with lg := [] })) := upd_same
  generalize upd H2 x (.ins cD dx1 (F9 (.int 8) (.ref bA) (.ref p) (.ref qA) (.ref wA) (.ref tA1) (fuV S.step.fu) (.bl S.step.dd) (.int S.step.st))) = H3 at s3 hx3
  have e3 : H3 p = some (.tup []) := s3.ch.tup e2
  have d3 := d2.upx (S' := { S.step with lg := [] }) s3 hx3 (SqT.of e3) (s3.ch.sqT g3') rfl rfl rfl
  walk_at "g"
  intro p4 hp4
  have s4 := same_new hp4 (.tup [])
  have e4 : upd H3 p4 (.tup []) p4 = some (.tup []) := upd_same
  generalize upd H3 p4 (.tup []) = H4 at s4 e4
  have hx4 := s4 _ _ hx3
  have d4 := d3.sm s4
  walk_at "g"
  refine ⟨_, _, _, _, rfl, hx4, W.k_cl, W.k_log_tail, by show 9 < 1000; decide, ?_⟩
  rw [put_log_tail]
  have s5 := (Cs.refl [x] H4).wr (o := .ins cD dx1 (flds bA p qA wA p4 { S.step with lg := [], tl := [] })) mem1 hx4 trivial
  exact q _ ((((s1.trans (Cs.of s2)).trans s3).trans (Cs.of s4)).trans s5) (d4.upx s5 upd_same (s5.ch.sqT (SqT.of (s4 _ _ e3))) (s5.ch.sqT (SqT.of e4)) rfl rfl rfl)
def spRdL (K : PySem.W.Frag) (cDF cD : Addr) : Sp := fun vs H Q E => ∃ (x bA qA wA : Addr) (S : DS), vs = [.ref x] ∧ DskO K cD H x bA qA wA S ∧ S.lg.length + S.tl.length ≤ 2000 ∧ (S.dd = true → Fails H E cDF) ∧
  (S.dd = false → ∀ p H', Same H H' → SqT K H' p ((S.lg ++ S.tl).map V.int) → Q (.ref p) H')
theorem ok_read_log (W : Wd K mg cDF cD aE) : Me P w K mg base 1 cD "read_log" (spRdL K cDF cD) := by
  refine me_mk W.k_read_log W.k_cl sc_Disk_read_log (fun _ _ _ _ _ _ us hl => match us, hl with | [_], _ => rfl) (fun vs H Q E h => ?_) (fun f cdv A outer s H vs Q E hr h => ?_)
  · obtain ⟨x, bA, qA, wA, S, rfl, _⟩ := h; rfl
  obtain ⟨x, bA, qA, wA, S, rfl, hd, hl, qd, q⟩ := h
  obtain ⟨dx, lA, tA, zs, hx, h2, h3, h4, h5⟩ := hd.ex
  refine ⟨_, (pss_cons (ps_if (pt_val (pe_fld (pv 0) rfl))
    (pss_one (ps_raise rfl (takes_of rfl rfl rfl rfl) (pmk_own PySem.F.excBase_ValueError W.e_DiskFault.ox W.e_DiskFault.og W.e_DiskFault.ok (raises_own W.e_DiskFault.ob W.e_DiskFault.ot) rfl)))
    pss_nil)
    (pss_one (ps_ret (pe_op op_catA (pe_fld (pv 0) rfl) (pe_fld (pv 0) rfl))))), ?_⟩
  walk_at "g"
  refine w_ite (fun c => ?_) (fun c => ?_)
  · exact qd c H (Same.refl H)
  replace q := q c
  walk_at "g"
  refine w_catInts h2 h3 hl fun p H2 s2 e2 => ?_
  exact q p H2 s2 e2
end
end K09
end

section
-- part K09E
set_option Elab.async false
set_option linter.all false
set_option maxRecDepth 100000
set_option maxHeartbeats 800000
open PySem PySem.Spec PyProof.Rows L2 Fw
local macro_rules | `(tactic| walk_at "e1") => `(tactic| first
  | ((with_reducible refine' w_var ?hv ?_); (case hv => rfl))
  | with_reducible refine w_c ?_
  | with_reducible refine w_op ?_
  | with_reducible refine w_un ?_
  | with_reducible refine w_cons ?_
  | with_reducible refine w_nil ?_
  | with_reducible refine w_cl ?_
  | with_reducible refine w_cb ?_
  | with_reducible refine w_gname ?_
  | with_reducible refine w_gsub ?_
  | with_reducible refine w_test ?_
  | with_reducible refine w_B ?_
  | with_reducible refine w_bl ?_
  | with_reducible refine w_and ?_
  | with_reducible refine w_or ?_
  | with_reducible refine w_not ?_
  | with_reducible refine w_if ?_
  | with_reducible refine w_I0 ?_
  | with_reducible refine Gk.w_rU ?_
  | with_reducible refine Dq.w_orV ?_
  | with_reducible refine Dq.w_js ?_
  | with_reducible refine Dq.w_js0 ?_
  | with_reducible refine Dq.w_fm ?_
  | with_reducible refine Dq.w_andV ?_
  | with_reducible refine Gk.w_iEnum ?_
  | with_reducible refine Dq.w_dget ?_
  | with_reducible refine Dq.w_din ?_
  | with_reducible refine Dq.w_dnotin ?_
  | with_reducible refine Dq.w_dget2 ?_
  | with_reducible refine Dq.w_dnew ?_
  | with_reducible refine Dq.w_fldaug ?_
  | with_reducible refine Dq.w_aSub ?_
  | with_reducible refine Dq.w_aAdd ?_
  | with_reducible refine Dq.w_mkd ?_
  | with_reducible refine Dq.w_notN0 ?_
  | with_reducible refine Dq.w_isN0 ?_
  | with_reducible refine Dq.w_notNR ?_
  | with_reducible refine Dq.w_isNR ?_
  | with_reducible refine Dq.w_notNI ?_
  | with_reducible refine Dq.w_isNI ?_
  | with_reducible refine L2.w_neOs ?_
  | with_reducible refine w_ipI ?_
  | with_reducible refine w_eqS ?_
  | with_reducible refine w_neS ?_
  | with_reducible refine w_eqI ?_
  | with_reducible refine w_neI ?_
  | with_reducible refine w_eqB ?_
  | with_reducible refine w_neB ?_
  | ((with_reducible refine w_eq ?hs ?_); (case hs => rfl))
  | ((with_reducible refine w_ne ?hs ?_); (case hs => rfl))
  | with_reducible refine w_fld ?_
  | with_reducible refine w_bm ?_
  | with_reducible refine w_bm0 ?_
  | with_reducible refine w_sl ?_
  | with_reducible refine w_part ?_
  | with_reducible refine w_partI ?_
  | with_reducible refine w_nopart ?_
  | ((with_reducible refine' w_ixL ?hh ?ha ?_); (case hh => first | assumption | exact upd_same); (case ha => rfl))
  | ((with_reducible refine' w_setLu ?ha ?_); (case ha => rfl))
  | ((with_reducible refine' w_setL ?hh ?ha ?_); (case hh => first | assumption | exact upd_same); (case ha => rfl))
  | with_reducible refine w_iteT ?_
  | with_reducible refine w_iteF ?_
  | with_reducible refine w_lst ?_
  | with_reducible refine w_tup ?_
  | ((with_reducible refine w_new ?hz ?_); (case hz => rfl))
  | with_reducible refine w_lc ?_
  | with_reducible refine w_iL ?_
  | with_reducible refine w_iT ?_
  | with_reducible refine w_iR1 ?_
  | with_reducible refine w_iR2 ?_
  | with_reducible refine w_yes ?_
  | with_reducible refine w_iStr ?_
  | with_reducible exact tyS
  | with_reducible refine And.intro tyS ?_
  | ((with_reducible refine w_find3 ?_); (first | rw [find3_one] | rw [starts3] | skip))
  | ((with_reducible refine w_2s ?_); (try rw [find_one]))
  | ((with_reducible refine w_inS ?_); rw [S_list])
  | ((with_reducible refine w_lenS ?hz ?_); (case hz => first | assumption | omega | decide); rw [SX.S_len])
  | ((with_reducible refine w_addS ?hz ?_); (case hz => first | assumption | omega | decide); rw [vS_cat])
  | with_reducible refine w_mk ?_
  | with_reducible refine w_me ?_
  | with_reducible refine w_sfld ?_
  | ((with_reducible refine' w_gtup ?hh ?hn ?_); (case hh => first | assumption | exact upd_same); (case hn => rfl))
  | with_reducible refine w_gcons ?_
  | with_reducible refine w_gnil ?_
  | with_reducible refine w_repl ?_
  | with_reducible refine w_star ?_
  | with_reducible refine w_revL ?_
  | with_reducible refine w_isiS ?_
  | with_reducible refine w_isiI ?_
  | with_reducible refine w_isiN ?_
  | with_reducible refine w_chain ?_
  | with_reducible refine w_iEnumT ?_
  | with_reducible refine w_iZip3 ?_
  | with_reducible refine w_iZip ?_
  | with_reducible refine w_lenR3 ?_
  | with_reducible refine w_x1i ?_
  | with_reducible refine w_x1b ?_
  | with_reducible refine w_x1s ?_
  | with_reducible refine w_int1i ?_
  | with_reducible refine w_int1b ?_
  | ((with_reducible refine w_mod ?hc ?_); (case hc => omega))
  | ((with_reducible refine w_fdivW ?hc ?hd ?_); (case hc => omega); (case hd => omega))
  | ((with_reducible refine w_mul ?hc ?_); (case hc => first | exact Or.inr ⟨by decide, by decide⟩ | exact Or.inl ⟨by decide, by decide⟩))
  | ((with_reducible refine w_pow ?hc ?_); (case hc => exact ⟨by decide, by decide, by decide⟩)))
local macro_rules | `(tactic| walk_at "f1") => `(tactic| first
  | ((with_reducible refine' K09.g_block_size ?hW ?hK ?hs ?hx ?_); (case hW => assumption); (case hK => rfl); (case hs => rfl); (case hx => first | assumption | exact upd_same))
  | ((with_reducible refine' K09.g_blocks ?hW ?hK ?hs ?hx ?_); (case hW => assumption); (case hK => rfl); (case hs => rfl); (case hx => first | assumption | exact upd_same))
  | ((with_reducible refine' K09.g_log ?hW ?hK ?hs ?hx ?_); (case hW => assumption); (case hK => rfl); (case hs => rfl); (case hx => first | assumption | exact upd_same))
  | ((with_reducible refine' K09.g_waiting ?hW ?hK ?hs ?hx ?_); (case hW => assumption); (case hK => rfl); (case hs => rfl); (case hx => first | assumption | exact upd_same))
  | ((with_reducible refine' K09.g_written ?hW ?hK ?hs ?hx ?_); (case hW => assumption); (case hK => rfl); (case hs => rfl); (case hx => first | assumption | exact upd_same))
  | ((with_reducible refine' K09.g_log_tail ?hW ?hK ?hs ?hx ?_); (case hW => assumption); (case hK => rfl); (case hs => rfl); (case hx => first | assumption | exact upd_same))
  | ((with_reducible refine' K09.g_fuse ?hW ?hK ?hs ?hx ?_); (case hW => assumption); (case hK => rfl); (case hs => rfl); (case hx => first | assumption | exact upd_same))
  | ((with_reducible refine' K09.g_dead ?hW ?hK ?hs ?hx ?_); (case hW => assumption); (case hK => rfl); (case hs => rfl); (case hx => first | assumption | exact upd_same))
  | ((with_reducible refine' K09.g_steps ?hW ?hK ?hs ?hx ?_); (case hW => assumption); (case hK => rfl); (case hs => rfl); (case hx => first | assumption | exact upd_same))
  | walk_at "e1")
local macro_rules | `(tactic| walk_at "s1") => `(tactic| first
  | with_reducible refine w_seq ?_
  | with_reducible refine w_asg ?_
  | with_reducible refine w_ret ?_
  | with_reducible refine w_par ?_
  | with_reducible refine w_drop ?_
  | with_reducible refine w_next ?_
  | with_reducible refine w_ifs ?_
  | ((with_reducible refine' w_aug ?hv ?_); (case hv => rfl))
  | with_reducible refine w_for ?_
  | walk_at "f1")
local macro_rules | `(tactic| walk_at "e") => `(tactic| repeat walk_at "e1")
local macro_rules | `(tactic| walk_at "g") => `(tactic| repeat walk_at "s1")

namespace K09
open Dc Gk M9
section
variable {P : Program} {w : World} {K : PySem.W.Frag} {mg : Str → Option Value} {base : Heap} {cDF cD aE : Addr}
/-- the blocks that are given: none, or a dict of them -/
def BlkIn (K : PySem.W.Frag) (H : Hp) (b : V) (kvs : List (Key × V)) : Prop := (b = .non ∧ kvs = []) ∨ ∃ d, b = .ref d ∧ H d = some (.dK kvs) ∧ (kvs.map (·.1)).Nodup ∧ AllB K H kvs ∧ kvs.length ≤ 1000
def spInit (K : PySem.W.Frag) (cD : Addr) : Sp := fun vs H Q _ => ∃ (x dx lA : Addr) (lg : List Int) (b : V) (kvs : List (Key × V)), vs = [.ref x, .int 8, b, .ref lA] ∧ H x = some (.ins cD dx []) ∧ SqT K H lA (lg.map V.int) ∧ BlkIn K H b kvs ∧
  ∀ bA qA wA H', Cs [x] H H' → H bA = none → H qA = none → H wA = none → bA ≠ qA → qA ≠ wA → bA ≠ wA → DskO K cD H' x bA qA wA ⟨kvs, [], [], lg, [], none, false, 0⟩ → Q .non H'
theorem bsR_mem {H : Hp} {kvs : List (Key × V)} (h : AllB K H kvs) {p : Key × V} (hp : p ∈ kvs) : ∃ a d, p.2 = .ref a ∧ BlkA K H a d := by
  obtain ⟨ms, r⟩ := h
  obtain ⟨m, _, _, a, e, g⟩ := mem_bsR r hp
  exact ⟨a, m.2, e, g⟩
theorem same_lock {H H' : Hp} {d : Addr} {o : Obj} {u : HO} (hd : H d = some u) (s : Same (upd H d (.frz o u)) H') : Same H (upd H' d u) := fun b v e => by
  by_cases z : b = d
  · rw [z, hd] at e
    cases e
    rw [z, upd_same]
  · rw [upd_ne z]
    exact s b v ((upd_ne z).trans e)
theorem init_body (W : Wd K mg cDF cD aE) (f : Addr) (cdv : Value) (A : Around) (outer : List Env) (s : Shared) (H : Hp) (vs : List V) (Q : VK) (E : XK) (hr : Room 0 (A.deeper (envOfC "Disk.__init__" (defScope s_Disk___init__) s.heap.objs.size f cdv))) (h : spInit K cD vs H Q E) :
    ∃ t, PSs (cxOf (L2.CX P w) P w K mg base ["self", "block_size", "blocks", "log", "number"] "Disk.__init__" (defScope s_Disk___init__) f cdv A outer s H E) (defBody s_Disk___init__) t ∧ t { nx := fun _ H' => Q .non H', rt := Q } (start ["self", "block_size", "blocks", "log", "number"] vs) H := by
  obtain ⟨x, dx, lA, lg, b, kvs, rfl, hx, hl, hb, q⟩ := h
  have hnd : (kvs.map (·.1)).Nodup := by
    rcases hb with ⟨_, rfl⟩ | ⟨_, _, _, nd, _⟩
    · exact List.nodup_nil
    · exact nd
  have hab : AllB K H kvs := by
    rcases hb with ⟨_, rfl⟩ | ⟨_, _, _, _, ab, _⟩
    · exact ⟨[], .nil⟩
    · exact ab
  refine ⟨_, (pss_cons (ps_fld (pv 0) (pv 1) rfl)
    (pss_cons (ps_fld (pv 0) (pe_ifExp (pt_cmpR op_isN1 (pv 2) pe_non (nomark _)) pe_dnewK (pe_lock (pe_dc (own := [("number", 4)]) rfl sc_Disk___init__.nd (pi_keys (pv 2)) (blkOk_by (own := [("number", 4)]) (N := ["self", "block_size", "blocks", "log", "number"]) (sc := defScope s_Disk___init__) (by decide +kernel)) (fun _ _ _ _ _ => (pg_name (i := 4) sc_Disk___init__.nd rfl (Or.inl rfl))) (fun _ _ _ _ _ => pts_nil) (fun _ _ _ _ _ => (pv 4)) (fun _ _ _ _ _ => (pe_callTy (tuple_ofK K rfl) rfl W.n_tuple (by decide +kernel) (pa_cons (pe_dget (hu_of hr) (pv 2) (pv 4) (fun _ _ => rfl)) pa_nil)))))) rfl)
    (pss_cons (ps_fld (pv 0) (pe_callTy call_tuple_of rfl W.n_tuple (by decide +kernel) (pa_cons (pv 3) pa_nil)) rfl)
    (pss_cons (ps_fld (pv 0) (pe_lst pa_nil) rfl)
    (pss_cons (ps_fld (pv 0) pe_dnewK rfl)
    (pss_cons (ps_fld (pv 0) (pe_tup pa_nil) rfl)
    (pss_cons (ps_fld (pv 0) pe_non rfl)
    (pss_cons (ps_fld (pv 0) pe_bl rfl)
    (pss_one (ps_fld (pv 0) pe_int rfl)))))))))), ?_⟩
  walk_at "g"
  refine ⟨_, _, _, _, rfl, hx, W.k_cl, W.k_block_size, by show 0 < 1000; decide, ?_⟩
  rw [show putF ("block_size" : Str) (.int 8) [] = [(("block_size" : Str), .int 8)] from rfl]
  have s1 := (Cs.refl [x] H).wr (o := .ins cD dx [(("block_size" : Str), .int 8)]) mem1 hx trivial
  have hx1 : upd H x (.ins cD dx [(("block_size" : Str), .int 8)]) x = some (.ins cD dx [(("block_size" : Str), .int 8)]) := upd_same
  generalize upd H x (.ins cD dx [(("block_size" : Str), .int 8)]) = H1 at s1 hx1
  iterate 2 walk_at "s1"
  refine Dq.w_ifV (fun v H2 => ∃ bA, v = .ref bA ∧ Same H1 H2 ∧ H1 bA = none ∧ H2 bA = some (.dK kvs)) (fun R hR => ?_) ?_
  · rcases hb with ⟨rfl, rfl⟩ | ⟨d, rfl, hd, nd, ab, hk⟩
    · walk_at "g"
      intro p hp
      exact hR _ _ ⟨p, rfl, same_new hp _, hp, upd_same⟩
    · have hd1 : H1 d = some (.dK kvs) := s1.ch.dk hd (fun z => absurd (List.mem_singleton.mp z) (ne_of hd hx (fun z => by cases z)))
      have ab1 := ab.ch s1.ch
      walk_at "g"
      refine Dq.w_dcK rfl hd1 fun o D hD => ?_
      have hD1 : H1 D = none := by
        by_cases z : D = d
        · rw [z, upd_same] at hD; cases hD
        · rw [upd_ne z] at hD; exact hD
      have nDd : D ≠ d := fun z => by rw [z, hd1] at hD1; cases hD1
      refine ⟨fun i H2 => Same (upd H1 d (.frz o (.dK kvs))) H2 ∧ H2 D = some (.dK (kvs.take i)), ⟨same_new hD _, upd_same⟩, fun i H2 _ ⟨s2, _⟩ => s2 _ _ upd_same, ?_, ?_⟩
      · rintro i k v H2 hi ⟨s2, eD⟩
        have hm : (k, v) ∈ kvs := List.mem_of_getElem? hi
        have hlt : i < kvs.length := (List.getElem?_eq_some_iff.mp hi).1
        obtain ⟨a, e, ea, be⟩ := bsR_mem ab1 hm
        have ea' : v = .ref a := ea
        subst ea'
        have hv : valV kvs k = some (.ref a) := val_nodup nd _ hm
        have sa : SqT K H2 a (e.map V.int) := by
          refine sqT_same ?_ s2
          rcases be.1 with (h | ⟨o', h⟩) | h
          · exact .inl (.inl ((upd_ne (ne_of h hd1 (fun z => by cases z))).trans h))
          · exact .inl (.inr ⟨o', (upd_ne (ne_of h hd1 (fun z => by cases z))).trans h⟩)
          · exact .inr h
        walk_at "g"
        refine ⟨rfl, ?_⟩
        walk_at "g"
        refine ⟨d, .ref a, rfl, .inl ⟨kvs, k, .inr ⟨o, s2 _ _ upd_same⟩, rfl, hv.symm⟩, ?_⟩
        walk_at "g"
        refine ⟨a, _, rfl, .inr ⟨sa, ?_⟩⟩
        refine ⟨kvs.take i, k, rfl, eD, Nat.lt_of_le_of_lt (by rw [List.length_take]; omega : _ ≤ 1000) (by decide), same_upd s2 hD, ?_⟩
        have hn : valV (kvs.take i) k = none := by
          cases e : valV (kvs.take i) k with
          | none => rfl
          | some u =>
            exfalso
            unfold valV at e
            cases g : (kvs.take i).find? fun kv => decide (kv.1 = k) with
            | none => rw [g] at e; cases e
            | some r =>
              have g1 := List.mem_of_find?_eq_some g
              have g2 : r.1 = k := of_decide_eq_true (List.find?_some (p := fun kv : Key × V => decide (kv.1 = k)) g)
              obtain ⟨j, hj⟩ := List.getElem?_of_mem g1
              rw [List.getElem?_take] at hj
              split at hj
              · rename_i hji
                have e1 : (kvs.map (·.1))[j]? = some k := by rw [List.getElem?_map, hj, ← g2]; rfl
                have e2 : (kvs.map (·.1))[i]? = some k := by rw [List.getElem?_map, hi]; rfl
                have := (List.getElem?_inj (by rw [List.length_map]; omega) nd).mp (e1.trans e2.symm)
                omega
              · cases hj
        rw [upd_same, putK_new _ hn, List.take_add_one, hi]
        rfl
      · rintro H2 ⟨s2, eD⟩
        rw [List.take_length] at eD
        exact hR _ _ ⟨D, rfl, same_lock hd1 s2, hD1, (upd_ne nDd).trans eD⟩
  rintro v H2 ⟨bA, rfl, s2, fb, eb⟩
  have s12 : Cs [x] H H2 := s1.trans (Cs.of s2)
  have hx2 := s2 _ _ hx1
  have fb0 : H bA = none := s1.free (fun b hb => by rw [List.mem_singleton.mp hb]; exact ⟨_, hx1⟩) fb
  clear s1 s2 hx1 fb
  walk_at "g"
  refine ⟨_, _, _, _, rfl, hx2, W.k_cl, W.k_blocks, by show 1 < 1000; decide, ?_⟩
  rw [i_blocks]
  have tH3 := s12.wr (o := .ins cD dx [(("block_size" : Str), V.int 8), (("blocks" : Str), V.ref bA)]) mem1 hx2 trivial
  have hxH3 : upd H2 x (.ins cD dx [(("block_size" : Str), V.int 8), (("blocks" : Str), V.ref bA)]) x = some (.ins cD dx [(("block_size" : Str), V.int 8), (("blocks" : Str), V.ref bA)]) := upd_same
  have eb_H3 := (upd_ne (o := .ins cD dx [(("block_size" : Str), V.int 8), (("blocks" : Str), V.ref bA)]) (ne_of eb hx2 (fun z => by cases z))).trans eb
  generalize upd H2 x (.ins cD dx [(("block_size" : Str), V.int 8), (("blocks" : Str), V.ref bA)]) = H3 at tH3 hxH3 eb_H3
  walk_at "g"
  refine ⟨lA, _, rfl, .inr ⟨tH3.ch.sqT hl, ?_⟩⟩
  walk_at "g"
  refine ⟨_, _, _, _, rfl, hxH3, W.k_cl, W.k_log, by show 2 < 1000; decide, ?_⟩
  rw [i_log]
  have tH4 := tH3.wr (o := .ins cD dx [(("block_size" : Str), V.int 8), (("blocks" : Str), V.ref bA), (("log" : Str), V.ref lA)]) mem1 hxH3 trivial
  have hxH4 : upd H3 x (.ins cD dx [(("block_size" : Str), V.int 8), (("blocks" : Str), V.ref bA), (("log" : Str), V.ref lA)]) x = some (.ins cD dx [(("block_size" : Str), V.int 8), (("blocks" : Str), V.ref bA), (("log" : Str), V.ref lA)]) := upd_same
  have eb_H3_H4 := (upd_ne (o := .ins cD dx [(("block_size" : Str), V.int 8), (("blocks" : Str), V.ref bA), (("log" : Str), V.ref lA)]) (ne_of eb_H3 hxH3 (fun z => by cases z))).trans eb_H3
  generalize upd H3 x (.ins cD dx [(("block_size" : Str), V.int 8), (("blocks" : Str), V.ref bA), (("log" : Str), V.ref lA)]) = H4 at tH4 hxH4 eb_H3_H4
  walk_at "g"
  intro qA fqA
  have uH5 := same_new fqA (.lst [])
  have eqA : upd H4 qA (.lst []) qA = some (.lst []) := upd_same
  generalize upd H4 qA (.lst []) = H5 at uH5 eqA
  have fqA0 : H qA = none := tH4.free (fun b hb => by rw [List.mem_singleton.mp hb]; exact ⟨_, hxH4⟩) fqA
  have hxH5 := uH5 _ _ hxH4
  have tH5 := tH4.trans (Cs.of uH5)
  have eb_H3_H4_H5 := uH5 _ _ eb_H3_H4
  have nbq := ne_of_none eb_H3_H4 fqA
  walk_at "g"
  refine ⟨_, _, _, _, rfl, hxH5, W.k_cl, W.k_waiting, by show 3 < 1000; decide, ?_⟩
  rw [i_waiting]
  have tH6 := tH5.wr (o := .ins cD dx [(("block_size" : Str), V.int 8), (("blocks" : Str), V.ref bA), (("log" : Str), V.ref lA), (("waiting" : Str), V.ref qA)]) mem1 hxH5 trivial
  have hxH6 : upd H5 x (.ins cD dx [(("block_size" : Str), V.int 8), (("blocks" : Str), V.ref bA), (("log" : Str), V.ref lA), (("waiting" : Str), V.ref qA)]) x = some (.ins cD dx [(("block_size" : Str), V.int 8), (("blocks" : Str), V.ref bA), (("log" : Str), V.ref lA), (("waiting" : Str), V.ref qA)]) := upd_same
  have eb_H3_H4_H5_H6 := (upd_ne (o := .ins cD dx [(("block_size" : Str), V.int 8), (("blocks" : Str), V.ref bA), (("log" : Str), V.ref lA), (("waiting" : Str), V.ref qA)]) (ne_of eb_H3_H4_H5 hxH5 (fun z => by cases z))).trans eb_H3_H4_H5
  have eqA_H6 := (upd_ne (o := .ins cD dx [(("block_size" : Str), V.int 8), (("blocks" : Str), V.ref bA), (("log" : Str), V.ref lA), (("waiting" : Str), V.ref qA)]) (ne_of eqA hxH5 (fun z => by cases z))).trans eqA
  generalize upd H5 x (.ins cD dx [(("block_size" : Str), V.int 8), (("blocks" : Str), V.ref bA), (("log" : Str), V.ref lA), (("waiting" : Str), V.ref qA)]) = H6 at tH6 hxH6 eb_H3_H4_H5_H6 eqA_H6
  walk_at "g"
  intro wA fwA
  have uH7 := same_new fwA (.dK [])
  have ewA : upd H6 wA (.dK []) wA = some (.dK []) := upd_same
  generalize upd H6 wA (.dK []) = H7 at uH7 ewA
  have fwA0 : H wA = none := tH6.free (fun b hb => by rw [List.mem_singleton.mp hb]; exact ⟨_, hxH6⟩) fwA
  have hxH7 := uH7 _ _ hxH6
  have tH7 := tH6.trans (Cs.of uH7)
  have eb_H3_H4_H5_H6_H7 := uH7 _ _ eb_H3_H4_H5_H6
  have eqA_H6_H7 := uH7 _ _ eqA_H6
  have nbw := ne_of_none eb_H3_H4_H5_H6 fwA
  have nqw := ne_of_none eqA_H6 fwA
  walk_at "g"
  refine ⟨_, _, _, _, rfl, hxH7, W.k_cl, W.k_written, by show 4 < 1000; decide, ?_⟩
  rw [i_written]
  have tH8 := tH7.wr (o := .ins cD dx [(("block_size" : Str), V.int 8), (("blocks" : Str), V.ref bA), (("log" : Str), V.ref lA), (("waiting" : Str), V.ref qA), (("written" : Str), V.ref wA)]) mem1 hxH7 trivial
  have hxH8 : upd H7 x (.ins cD dx [(("block_size" : Str), V.int 8), (("blocks" : Str), V.ref bA), (("log" : Str), V.ref lA), (("waiting" : Str), V.ref qA), (("written" : Str), V.ref wA)]) x = some (.ins cD dx [(("block_size" : Str), V.int 8), (("blocks" : Str), V.ref bA), (("log" : Str), V.ref lA), (("waiting" : Str), V.ref qA), (("written" : Str), V.ref wA)]) := upd_same
  have eb_H3_H4_H5_H6_H7_H8 := (upd_ne (o := .ins cD dx [(("block_size" : Str), V.int 8), (("blocks" : Str), V.ref bA), (("log" : Str), V.ref lA), (("waiting" : Str), V.ref qA), (("written" : Str), V.ref wA)]) (ne_of eb_H3_H4_H5_H6_H7 hxH7 (fun z => by cases z))).trans eb_H3_H4_H5_H6_H7
  have eqA_H6_H7_H8 := (upd_ne (o := .ins cD dx [(("block_size" : Str), V.int 8), (("blocks" : Str), V.ref bA), (("log" : Str), V.ref lA), (("waiting" : Str), V.ref qA), (("written" : Str), V.ref wA)]) (ne_of eqA_H6_H7 hxH7 (fun z => by cases z))).trans eqA_H6_H7
  have ewA_H8 := (upd_ne (o := .ins cD dx [(("block_size" : Str), V.int 8), (("blocks" : Str), V.ref bA), (("log" : Str), V.ref lA), (("waiting" : Str), V.ref qA), (("written" : Str), V.ref wA)]) (ne_of ewA hxH7 (fun z => by cases z))).trans ewA
  generalize upd H7 x (.ins cD dx [(("block_size" : Str), V.int 8), (("blocks" : Str), V.ref bA), (("log" : Str), V.ref lA), (("waiting" : Str), V.ref qA), (("written" : Str), V.ref wA)]) = H8 at tH8 hxH8 eb_H3_H4_H5_H6_H7_H8 eqA_H6_H7_H8 ewA_H8
  walk_at "g"
  intro tA ftA
  have uH9 := same_new ftA (.tup [])
  have etA : upd H8 tA (.tup []) tA = some (.tup []) := upd_same
  generalize upd H8 tA (.tup []) = H9 at uH9 etA
  have ftA0 : H tA = none := tH8.free (fun b hb => by rw [List.mem_singleton.mp hb]; exact ⟨_, hxH8⟩) ftA
  have hxH9 := uH9 _ _ hxH8
  have tH9 := tH8.trans (Cs.of uH9)
  have eb_H3_H4_H5_H6_H7_H8_H9 := uH9 _ _ eb_H3_H4_H5_H6_H7_H8
  have eqA_H6_H7_H8_H9 := uH9 _ _ eqA_H6_H7_H8
  have ewA_H8_H9 := uH9 _ _ ewA_H8
  walk_at "g"
  refine ⟨_, _, _, _, rfl, hxH9, W.k_cl, W.k_log_tail, by show 5 < 1000; decide, ?_⟩
  rw [i_log_tail]
  have tH10 := tH9.wr (o := .ins cD dx [(("block_size" : Str), V.int 8), (("blocks" : Str), V.ref bA), (("log" : Str), V.ref lA), (("waiting" : Str), V.ref qA), (("written" : Str), V.ref wA), (("log_tail" : Str), V.ref tA)]) mem1 hxH9 trivial
  have hxH10 : upd H9 x (.ins cD dx [(("block_size" : Str), V.int 8), (("blocks" : Str), V.ref bA), (("log" : Str), V.ref lA), (("waiting" : Str), V.ref qA), (("written" : Str), V.ref wA), (("log_tail" : Str), V.ref tA)]) x = some (.ins cD dx [(("block_size" : Str), V.int 8), (("blocks" : Str), V.ref bA), (("log" : Str), V.ref lA), (("waiting" : Str), V.ref qA), (("written" : Str), V.ref wA), (("log_tail" : Str), V.ref tA)]) := upd_same
  have eb_H3_H4_H5_H6_H7_H8_H9_H10 := (upd_ne (o := .ins cD dx [(("block_size" : Str), V.int 8), (("blocks" : Str), V.ref bA), (("log" : Str), V.ref lA), (("waiting" : Str), V.ref qA), (("written" : Str), V.ref wA), (("log_tail" : Str), V.ref tA)]) (ne_of eb_H3_H4_H5_H6_H7_H8_H9 hxH9 (fun z => by cases z))).trans eb_H3_H4_H5_H6_H7_H8_H9
  have eqA_H6_H7_H8_H9_H10 := (upd_ne (o := .ins cD dx [(("block_size" : Str), V.int 8), (("blocks" : Str), V.ref bA), (("log" : Str), V.ref lA), (("waiting" : Str), V.ref qA), (("written" : Str), V.ref wA), (("log_tail" : Str), V.ref tA)]) (ne_of eqA_H6_H7_H8_H9 hxH9 (fun z => by cases z))).trans eqA_H6_H7_H8_H9
  have ewA_H8_H9_H10 := (upd_ne (o := .ins cD dx [(("block_size" : Str), V.int 8), (("blocks" : Str), V.ref bA), (("log" : Str), V.ref lA), (("waiting" : Str), V.ref qA), (("written" : Str), V.ref wA), (("log_tail" : Str), V.ref tA)]) (ne_of ewA_H8_H9 hxH9 (fun z => by cases z))).trans ewA_H8_H9
  have etA_H10 := (upd_ne (o := .ins cD dx [(("block_size" : Str), V.int 8), (("blocks" : Str), V.ref bA), (("log" : Str), V.ref lA), (("waiting" : Str), V.ref qA), (("written" : Str), V.ref wA), (("log_tail" : Str), V.ref tA)]) (ne_of etA hxH9 (fun z => by cases z))).trans etA
  generalize upd H9 x (.ins cD dx [(("block_size" : Str), V.int 8), (("blocks" : Str), V.ref bA), (("log" : Str), V.ref lA), (("waiting" : Str), V.ref qA), (("written" : Str), V.ref wA), (("log_tail" : Str), V.ref tA)]) = H10 at tH10 hxH10 eb_H3_H4_H5_H6_H7_H8_H9_H10 eqA_H6_H7_H8_H9_H10 ewA_H8_H9_H10 etA_H10
  walk_at "g"
  refine ⟨_, _, _, _, rfl, hxH10, W.k_cl, W.k_fuse, by show 6 < 1000; decide, ?_⟩
  rw [i_fuse]
  have tH11 := tH10.wr (o := .ins cD dx [(("block_size" : Str), V.int 8), (("blocks" : Str), V.ref bA), (("log" : Str), V.ref lA), (("waiting" : Str), V.ref qA), (("written" : Str), V.ref wA), (("log_tail" : Str), V.ref tA), (("fuse" : Str), V.non)]) mem1 hxH10 trivial
  have hxH11 : upd H10 x (.ins cD dx [(("block_size" : Str), V.int 8), (("blocks" : Str), V.ref bA), (("log" : Str), V.ref lA), (("waiting" : Str), V.ref qA), (("written" : Str), V.ref wA), (("log_tail" : Str), V.ref tA), (("fuse" : Str), V.non)]) x = some (.ins cD dx [(("block_size" : Str), V.int 8), (("blocks" : Str), V.ref bA), (("log" : Str), V.ref lA), (("waiting" : Str), V.ref qA), (("written" : Str), V.ref wA), (("log_tail" : Str), V.ref tA), (("fuse" : Str), V.non)]) := upd_same
  have eb_H3_H4_H5_H6_H7_H8_H9_H10_H11 := (upd_ne (o := .ins cD dx [(("block_size" : Str), V.int 8), (("blocks" : Str), V.ref bA), (("log" : Str), V.ref lA), (("waiting" : Str), V.ref qA), (("written" : Str), V.ref wA), (("log_tail" : Str), V.ref tA), (("fuse" : Str), V.non)]) (ne_of eb_H3_H4_H5_H6_H7_H8_H9_H10 hxH10 (fun z => by cases z))).trans eb_H3_H4_H5_H6_H7_H8_H9_H10
  have eqA_H6_H7_H8_H9_H10_H11 := (upd_ne (o := .ins cD dx [(("block_size" : Str), V.int 8), (("blocks" : Str), V.ref bA), (("log" : Str), V.ref lA), (("waiting" : Str), V.ref qA), (("written" : Str), V.ref wA), (("log_tail" : Str), V.ref tA), (("fuse" : Str), V.non)]) (ne_of eqA_H6_H7_H8_H9_H10 hxH10 (fun z => by cases z))).trans eqA_H6_H7_H8_H9_H10
  have ewA_H8_H9_H10_H11 := (upd_ne (o := .ins cD dx [(("block_size" : Str), V.int 8), (("blocks" : Str), V.ref bA), (("log" : Str), V.ref lA), (("waiting" : Str), V.ref qA), (("written" : Str), V.ref wA), (("log_tail" : Str), V.ref tA), (("fuse" : Str), V.non)]) (ne_of ewA_H8_H9_H10 hxH10 (fun z => by cases z))).trans ewA_H8_H9_H10
  have etA_H10_H11 := (upd_ne (o := .ins cD dx [(("block_size" : Str), V.int 8), (("blocks" : Str), V.ref bA), (("log" : Str), V.ref lA), (("waiting" : Str), V.ref qA), (("written" : Str), V.ref wA), (("log_tail" : Str), V.ref tA), (("fuse" : Str), V.non)]) (ne_of etA_H10 hxH10 (fun z => by cases z))).trans etA_H10
  generalize upd H10 x (.ins cD dx [(("block_size" : Str), V.int 8), (("blocks" : Str), V.ref bA), (("log" : Str), V.ref lA), (("waiting" : Str), V.ref qA), (("written" : Str), V.ref wA), (("log_tail" : Str), V.ref tA), (("fuse" : Str), V.non)]) = H11 at tH11 hxH11 eb_H3_H4_H5_H6_H7_H8_H9_H10_H11 eqA_H6_H7_H8_H9_H10_H11 ewA_H8_H9_H10_H11 etA_H10_H11
  walk_at "g"
  refine ⟨_, _, _, _, rfl, hxH11, W.k_cl, W.k_dead, by show 7 < 1000; decide, ?_⟩
  rw [i_dead]
  have tH12 := tH11.wr (o := .ins cD dx [(("block_size" : Str), V.int 8), (("blocks" : Str), V.ref bA), (("log" : Str), V.ref lA), (("waiting" : Str), V.ref qA), (("written" : Str), V.ref wA), (("log_tail" : Str), V.ref tA), (("fuse" : Str), V.non), (("dead" : Str), V.bl false)]) mem1 hxH11 trivial
  have hxH12 : upd H11 x (.ins cD dx [(("block_size" : Str), V.int 8), (("blocks" : Str), V.ref bA), (("log" : Str), V.ref lA), (("waiting" : Str), V.ref qA), (("written" : Str), V.ref wA), (("log_tail" : Str), V.ref tA), (("fuse" : Str), V.non), (("dead" : Str), V.bl false)]) x = some (.ins cD dx [(("block_size" : Str), V.int 8), (("blocks" : Str), V.ref bA), (("log" : Str), V.ref lA), (("waiting" : Str), V.ref qA), (("written" : Str), V.ref wA), (("log_tail" : Str), V.ref tA), (("fuse" : Str), V.non), (("dead" : Str), V.bl false)]) := upd_same
  have eb_H3_H4_H5_H6_H7_H8_H9_H10_H11_H12 := (upd_ne (o := .ins cD dx [(("block_size" : Str), V.int 8), (("blocks" : Str), V.ref bA), (("log" : Str), V.ref lA), (("waiting" : Str), V.ref qA), (("written" : Str), V.ref wA), (("log_tail" : Str), V.ref tA), (("fuse" : Str), V.non), (("dead" : Str), V.bl false)]) (ne_of eb_H3_H4_H5_H6_H7_H8_H9_H10_H11 hxH11 (fun z => by cases z))).trans eb_H3_H4_H5_H6_H7_H8_H9_H10_H11
  have eqA_H6_H7_H8_H9_H10_H11_H12 := (upd_ne (o := .ins cD dx [(("block_size" : Str), V.int 8), (("blocks" : Str), V.ref bA), (("log" : Str), V.ref lA), (("waiting" : Str), V.ref qA), (("written" : Str), V.ref wA), (("log_tail" : Str), V.ref tA), (("fuse" : Str), V.non), (("dead" : Str), V.bl false)]) (ne_of eqA_H6_H7_H8_H9_H10_H11 hxH11 (fun z => by cases z))).trans eqA_H6_H7_H8_H9_H10_H11
  have ewA_H8_H9_H10_H11_H12 := (upd_ne (o := .ins cD dx [(("block_size" : Str), V.int 8), (("blocks" : Str), V.ref bA), (("log" : Str), V.ref lA), (("waiting" : Str), V.ref qA), (("written" : Str), V.ref wA), (("log_tail" : Str), V.ref tA), (("fuse" : Str), V.non), (("dead" : Str), V.bl false)]) (ne_of ewA_H8_H9_H10_H11 hxH11 (fun z => by cases z))).trans ewA_H8_H9_H10_H11
  have etA_H10_H11_H12 := (upd_ne (o := .ins cD dx [(("block_size" : Str), V.int 8), (("blocks" : Str), V.ref bA), (("log" : Str), V.ref lA), (("waiting" : Str), V.ref qA), (("written" : Str), V.ref wA), (("log_tail" : Str), V.ref tA), (("fuse" : Str), V.non), (("dead" : Str), V.bl false)]) (ne_of etA_H10_H11 hxH11 (fun z => by cases z))).trans etA_H10_H11
  generalize upd H11 x (.ins cD dx [(("block_size" : Str), V.int 8), (("blocks" : Str), V.ref bA), (("log" : Str), V.ref lA), (("waiting" : Str), V.ref qA), (("written" : Str), V.ref wA), (("log_tail" : Str), V.ref tA), (("fuse" : Str), V.non), (("dead" : Str), V.bl false)]) = H12 at tH12 hxH12 eb_H3_H4_H5_H6_H7_H8_H9_H10_H11_H12 eqA_H6_H7_H8_H9_H10_H11_H12 ewA_H8_H9_H10_H11_H12 etA_H10_H11_H12
  walk_at "g"
  refine ⟨_, _, _, _, rfl, hxH12, W.k_cl, W.k_steps, by show 8 < 1000; decide, ?_⟩
  rw [i_steps]
  have tH13 := tH12.wr (o := .ins cD dx [(("block_size" : Str), V.int 8), (("blocks" : Str), V.ref bA), (("log" : Str), V.ref lA), (("waiting" : Str), V.ref qA), (("written" : Str), V.ref wA), (("log_tail" : Str), V.ref tA), (("fuse" : Str), V.non), (("dead" : Str), V.bl false), (("steps" : Str), V.int 0)]) mem1 hxH12 trivial
  have hxH13 : upd H12 x (.ins cD dx [(("block_size" : Str), V.int 8), (("blocks" : Str), V.ref bA), (("log" : Str), V.ref lA), (("waiting" : Str), V.ref qA), (("written" : Str), V.ref wA), (("log_tail" : Str), V.ref tA), (("fuse" : Str), V.non), (("dead" : Str), V.bl false), (("steps" : Str), V.int 0)]) x = some (.ins cD dx [(("block_size" : Str), V.int 8), (("blocks" : Str), V.ref bA), (("log" : Str), V.ref lA), (("waiting" : Str), V.ref qA), (("written" : Str), V.ref wA), (("log_tail" : Str), V.ref tA), (("fuse" : Str), V.non), (("dead" : Str), V.bl false), (("steps" : Str), V.int 0)]) := upd_same
  have eb_H3_H4_H5_H6_H7_H8_H9_H10_H11_H12_H13 := (upd_ne (o := .ins cD dx [(("block_size" : Str), V.int 8), (("blocks" : Str), V.ref bA), (("log" : Str), V.ref lA), (("waiting" : Str), V.ref qA), (("written" : Str), V.ref wA), (("log_tail" : Str), V.ref tA), (("fuse" : Str), V.non), (("dead" : Str), V.bl false), (("steps" : Str), V.int 0)]) (ne_of eb_H3_H4_H5_H6_H7_H8_H9_H10_H11_H12 hxH12 (fun z => by cases z))).trans eb_H3_H4_H5_H6_H7_H8_H9_H10_H11_H12
  have eqA_H6_H7_H8_H9_H10_H11_H12_H13 := (upd_ne (o := .ins cD dx [(("block_size" : Str), V.int 8), (("blocks" : Str), V.ref bA), (("log" : Str), V.ref lA), (("waiting" : Str), V.ref qA), (("written" : Str), V.ref wA), (("log_tail" : Str), V.ref tA), (("fuse" : Str), V.non), (("dead" : Str), V.bl false), (("steps" : Str), V.int 0)]) (ne_of eqA_H6_H7_H8_H9_H10_H11_H12 hxH12 (fun z => by cases z))).trans eqA_H6_H7_H8_H9_H10_H11_H12
  have ewA_H8_H9_H10_H11_H12_H13 := (upd_ne (o := .ins cD dx [(("block_size" : Str), V.int 8), (("blocks" : Str), V.ref bA), (("log" : Str), V.ref lA), (("waiting" : Str), V.ref qA), (("written" : Str), V.ref wA), (("log_tail" : Str), V.ref tA), (("fuse" : Str), V.non), (("dead" : Str), V.bl false), (("steps" : Str), V.int 0)]) (ne_of ewA_H8_H9_H10_H11_H12 hxH12 (fun z => by cases z))).trans ewA_H8_H9_H10_H11_H12
  have etA_H10_H11_H12_H13 := (upd_ne (o := .ins cD dx [(("block_size" : Str), V.int 8), (("blocks" : Str), V.ref bA), (("log" : Str), V.ref lA), (("waiting" : Str), V.ref qA), (("written" : Str), V.ref wA), (("log_tail" : Str), V.ref tA), (("fuse" : Str), V.non), (("dead" : Str), V.bl false), (("steps" : Str), V.int 0)]) (ne_of etA_H10_H11_H12 hxH12 (fun z => by cases z))).trans etA_H10_H11_H12
  generalize upd H12 x (.ins cD dx [(("block_size" : Str), V.int 8), (("blocks" : Str), V.ref bA), (("log" : Str), V.ref lA), (("waiting" : Str), V.ref qA), (("written" : Str), V.ref wA), (("log_tail" : Str), V.ref tA), (("fuse" : Str), V.non), (("dead" : Str), V.bl false), (("steps" : Str), V.int 0)]) = H13 at tH13 hxH13 eb_H3_H4_H5_H6_H7_H8_H9_H10_H11_H12_H13 eqA_H6_H7_H8_H9_H10_H11_H12_H13 ewA_H8_H9_H10_H11_H12_H13 etA_H10_H11_H12_H13
  exact q bA qA wA H13 tH13 fb0 fqA0 fwA0 nbq nqw nbw ⟨⟨dx, lA, tA, [], hxH13, tH13.ch.sqT hl, SqT.of etA_H10_H11_H12_H13, eqA_H6_H7_H8_H9_H10_H11_H12_H13, .nil⟩, eb_H3_H4_H5_H6_H7_H8_H9_H10_H11_H12_H13, ewA_H8_H9_H10_H11_H12_H13, nbw, hab.ch tH13.ch, ⟨[], .nil⟩, (fun p hp => absurd hp List.not_mem_nil), hnd⟩
theorem init_len (vs : List V) (H : Hp) (Q : VK) (E : XK) (h : spInit K cD vs H Q E) : vs.length = 4 := by
  obtain ⟨x, dx, lA, lg, b, kvs, rfl, _⟩ := h; rfl
/-- Disk(n) -/
theorem ok_init1 (W : Wd K mg cDF cD aE) : Dq.Mcd P w K mg base 1 "Disk" cD (spInit K cD) [.non, .ref aE] :=
  Dq.mcd_mk (dvs := [.non, .ref aE]) 2 0 W.k_i W.k_g sc_Disk___init__ (by simp) rfl (fun _ _ _ _ _ _ _ us its h1 h2 => match us, its, h1, h2 with | [_, _], [_, _], _, _ => ⟨_, rfl, rfl⟩) init_len fun f cdv A outer s H vs Q E hr h => init_body W f cdv A outer s H vs Q E hr h
/-- Disk(n, blocks, log) -/
theorem ok_init3 (W : Wd K mg cDF cD aE) : Dq.Mcd P w K mg base 1 "Disk" cD (spInit K cD) [] :=
  Dq.mcd_mk (dvs := [.non, .ref aE]) 4 2 W.k_i W.k_g sc_Disk___init__ (by simp) rfl (fun _ _ _ _ _ _ _ us its h1 h2 => match us, its, h1, h2 with | [_, _, _, _], [_, _], _, _ => ⟨_, rfl, rfl⟩) init_len fun f cdv A outer s H vs Q E hr h => init_body W f cdv A outer s H vs Q E hr h
end
end K09
end

section
-- part K09F
set_option Elab.async false
set_option linter.all false
set_option maxRecDepth 100000
set_option maxHeartbeats 800000
open PySem PySem.Spec PyProof.Rows L2 Fw
local macro_rules | `(tactic| walk_at "e1") => `(tactic| first
  | ((with_reducible refine' w_var ?hv ?_); (case hv => rfl))
  | with_reducible refine w_c ?_
  | with_reducible refine w_op ?_
  | with_reducible refine w_un ?_
  | with_reducible refine w_cons ?_
  | with_reducible refine w_nil ?_
  | with_reducible refine w_cl ?_
  | with_reducible refine w_cb ?_
  | with_reducible refine w_gname ?_
  | with_reducible refine w_gsub ?_
  | with_reducible refine w_test ?_
  | with_reducible refine w_B ?_
  | with_reducible refine w_bl ?_
  | with_reducible refine w_and ?_
  | with_reducible refine w_or ?_
  | with_reducible refine w_not ?_
  | with_reducible refine w_if ?_
  | with_reducible refine w_I0 ?_
  | with_reducible refine Gk.w_rU ?_
  | with_reducible refine Dq.w_orV ?_
  | with_reducible refine Dq.w_js ?_
  | with_reducible refine Dq.w_js0 ?_
  | with_reducible refine Dq.w_fm ?_
  | with_reducible refine Dq.w_andV ?_
  | with_reducible refine Gk.w_iEnum ?_
  | with_reducible refine Dq.w_dget ?_
  | with_reducible refine Dq.w_din ?_
  | with_reducible refine Dq.w_dnotin ?_
  | with_reducible refine Dq.w_dget2 ?_
  | with_reducible refine Dq.w_dnew ?_
  | with_reducible refine Dq.w_fldaug ?_
  | with_reducible refine Dq.w_aSub ?_
  | with_reducible refine Dq.w_aAdd ?_
  | with_reducible refine Dq.w_mkd ?_
  | with_reducible refine Dq.w_notN0 ?_
  | with_reducible refine Dq.w_isN0 ?_
  | with_reducible refine Dq.w_notNR ?_
  | with_reducible refine Dq.w_isNR ?_
  | with_reducible refine Dq.w_notNI ?_
  | with_reducible refine Dq.w_isNI ?_
  | with_reducible refine L2.w_neOs ?_
  | with_reducible refine w_ipI ?_
  | with_reducible refine w_eqS ?_
  | with_reducible refine w_neS ?_
  | with_reducible refine w_eqI ?_
  | with_reducible refine w_neI ?_
  | with_reducible refine w_eqB ?_
  | with_reducible refine w_neB ?_
  | ((with_reducible refine w_eq ?hs ?_); (case hs => rfl))
  | ((with_reducible refine w_ne ?hs ?_); (case hs => rfl))
  | with_reducible refine w_fld ?_
  | with_reducible refine w_bm ?_
  | with_reducible refine w_bm0 ?_
  | with_reducible refine w_sl ?_
  | with_reducible refine w_part ?_
  | with_reducible refine w_partI ?_
  | with_reducible refine w_nopart ?_
  | ((with_reducible refine' w_ixL ?hh ?ha ?_); (case hh => first | assumption | exact upd_same); (case ha => rfl))
  | ((with_reducible refine' w_setLu ?ha ?_); (case ha => rfl))
  | ((with_reducible refine' w_setL ?hh ?ha ?_); (case hh => first | assumption | exact upd_same); (case ha => rfl))
  | with_reducible refine w_iteT ?_
  | with_reducible refine w_iteF ?_
  | with_reducible refine w_lst ?_
  | with_reducible refine w_tup ?_
  | ((with_reducible refine w_new ?hz ?_); (case hz => rfl))
  | with_reducible refine w_lc ?_
  | with_reducible refine w_iL ?_
  | with_reducible refine w_iT ?_
  | with_reducible refine w_iR1 ?_
  | with_reducible refine w_iR2 ?_
  | with_reducible refine w_yes ?_
  | with_reducible refine w_iStr ?_
  | with_reducible exact tyS
  | with_reducible refine And.intro tyS ?_
  | ((with_reducible refine w_find3 ?_); (first | rw [find3_one] | rw [starts3] | skip))
  | ((with_reducible refine w_2s ?_); (try rw [find_one]))
  | ((with_reducible refine w_inS ?_); rw [S_list])
  | ((with_reducible refine w_lenS ?hz ?_); (case hz => first | assumption | omega | decide); rw [SX.S_len])
  | ((with_reducible refine w_addS ?hz ?_); (case hz => first | assumption | omega | decide); rw [vS_cat])
  | with_reducible refine w_mk ?_
  | with_reducible refine w_me ?_
  | with_reducible refine w_sfld ?_
  | ((with_reducible refine' w_gtup ?hh ?hn ?_); (case hh => first | assumption | exact upd_same); (case hn => rfl))
  | with_reducible refine w_gcons ?_
  | with_reducible refine w_gnil ?_
  | with_reducible refine w_repl ?_
  | with_reducible refine w_star ?_
  | with_reducible refine w_revL ?_
  | with_reducible refine w_isiS ?_
  | with_reducible refine w_isiI ?_
  | with_reducible refine w_isiN ?_
  | with_reducible refine w_chain ?_
  | with_reducible refine w_iEnumT ?_
  | with_reducible refine w_iZip3 ?_
  | with_reducible refine w_iZip ?_
  | with_reducible refine w_lenR3 ?_
  | with_reducible refine w_x1i ?_
  | with_reducible refine w_x1b ?_
  | with_reducible refine w_x1s ?_
  | with_reducible refine w_int1i ?_
  | with_reducible refine w_int1b ?_
  | ((with_reducible refine w_mod ?hc ?_); (case hc => omega))
  | ((with_reducible refine w_fdivW ?hc ?hd ?_); (case hc => omega); (case hd => omega))
  | ((with_reducible refine w_mul ?hc ?_); (case hc => first | exact Or.inr ⟨by decide, by decide⟩ | exact Or.inl ⟨by decide, by decide⟩))
  | ((with_reducible refine w_pow ?hc ?_); (case hc => exact ⟨by decide, by decide, by decide⟩)))
local macro_rules | `(tactic| walk_at "f1") => `(tactic| first
  | ((with_reducible refine' K09.g_block_size ?hW ?hK ?hs ?hx ?_); (case hW => assumption); (case hK => rfl); (case hs => rfl); (case hx => first | assumption | exact upd_same))
  | ((with_reducible refine' K09.g_blocks ?hW ?hK ?hs ?hx ?_); (case hW => assumption); (case hK => rfl); (case hs => rfl); (case hx => first | assumption | exact upd_same))
  | ((with_reducible refine' K09.g_log ?hW ?hK ?hs ?hx ?_); (case hW => assumption); (case hK => rfl); (case hs => rfl); (case hx => first | assumption | exact upd_same))
  | ((with_reducible refine' K09.g_waiting ?hW ?hK ?hs ?hx ?_); (case hW => assumption); (case hK => rfl); (case hs => rfl); (case hx => first | assumption | exact upd_same))
  | ((with_reducible refine' K09.g_written ?hW ?hK ?hs ?hx ?_); (case hW => assumption); (case hK => rfl); (case hs => rfl); (case hx => first | assumption | exact upd_same))
  | ((with_reducible refine' K09.g_log_tail ?hW ?hK ?hs ?hx ?_); (case hW => assumption); (case hK => rfl); (case hs => rfl); (case hx => first | assumption | exact upd_same))
  | ((with_reducible refine' K09.g_fuse ?hW ?hK ?hs ?hx ?_); (case hW => assumption); (case hK => rfl); (case hs => rfl); (case hx => first | assumption | exact upd_same))
  | ((with_reducible refine' K09.g_dead ?hW ?hK ?hs ?hx ?_); (case hW => assumption); (case hK => rfl); (case hs => rfl); (case hx => first | assumption | exact upd_same))
  | ((with_reducible refine' K09.g_steps ?hW ?hK ?hs ?hx ?_); (case hW => assumption); (case hK => rfl); (case hs => rfl); (case hx => first | assumption | exact upd_same))
  | walk_at "e1")
local macro_rules | `(tactic| walk_at "s1") => `(tactic| first
  | with_reducible refine w_seq ?_
  | with_reducible refine w_asg ?_
  | with_reducible refine w_ret ?_
  | with_reducible refine w_par ?_
  | with_reducible refine w_drop ?_
  | with_reducible refine w_next ?_
  | with_reducible refine w_ifs ?_
  | ((with_reducible refine' w_aug ?hv ?_); (case hv => rfl))
  | with_reducible refine w_for ?_
  | walk_at "f1")
local macro_rules | `(tactic| walk_at "e") => `(tactic| repeat walk_at "e1")
local macro_rules | `(tactic| walk_at "g") => `(tactic| repeat walk_at "s1")

namespace K09
open Dc Gk M9
section
variable {P : Program} {w : World} {K : PySem.W.Frag} {mg : Str → Option Value} {base : Heap} {cDF cD aE : Addr}
def spRest (K : PySem.W.Frag) (cD : Addr) : Sp := fun vs H Q _ => ∃ (x bA qA wA : Addr) (S : DS) (cA : Addr) (cs : List Int) (kept : Nat) (ms : Bs) (ds : List (Int × List Int)), vs = [.ref x, .ref cA, .int (kept : Int)] ∧ DskO K cD H x bA qA wA S ∧ H cA = some (.lst (cs.map V.int)) ∧
  BsR K H S.bs ms ∧ WsR K H S.ws ds ∧ S.bs.length + S.ws.length ≤ 1000 ∧ S.lg.length + S.tl.length ≤ 2000 ∧
  ∀ (x' b' q' w' : Addr) (H' : Hp) (kvs : List (Key × V)), Same H H' → DskO K cD H' x' b' q' w' ⟨kvs, [], [], S.lg ++ S.tl.take kept, [], none, false, 0⟩ → BsR K H' kvs (leftN ms ds cs ds.length) → Q (.ref x') H'
theorem ok_restarted (W : Wd K mg cDF cD aE) (c_Disk3 : Dq.Mcd P w K mg base 1 "Disk" cD (spInit K cD) []) : Me P w K mg base 3 cD "restarted" (spRest K cD) := by
  refine me_mk W.k_restarted W.k_cl sc_Disk_restarted (fun _ _ _ _ _ _ us hl => match us, hl with | [_, _, _], _ => rfl) (fun vs H Q E h => ?_) (fun f cdv A outer s H vs Q E hr h => ?_)
  · obtain ⟨x, bA, qA, wA, S, cA, cs, kept, ms, ds, rfl, _⟩ := h; rfl
  obtain ⟨x, bA, qA, wA, S, cA, cs, kept, ms, ds, rfl, hd, hc, hm, hw, hl, hlg, q⟩ := h
  obtain ⟨dx, lA, tA, zs, hx, h2, h3, h4, h5⟩ := hd.ex
  have hzl : zs.length = S.ws.length := Paired.length h5
  have hdl : S.ws.length = ds.length := Paired.length hw
  refine ⟨_, (pss_cons (ps_set (i := 3) sc_Disk_restarted.nd rfl (Or.inl rfl) (pe_callTy Dq.call_dictC rfl W.n_dict (by decide +kernel) (pa_cons (pe_fld (pv 0) rfl) pa_nil)))
    (pss_cons (ps_for (passes_of rfl) rfl (pi_enum rfl W.n_enumerate (pa_cons (pe_fld (pv 0) rfl) pa_nil)) (pg_tup rfl (pgs_cons (pg_name (i := 4) sc_Disk_restarted.nd rfl (Or.inl rfl)) (pgs_cons (pg_tup rfl (pgs_cons (pg_name (i := 5) sc_Disk_restarted.nd rfl (Or.inl rfl)) (pgs_cons (pg_name (i := 6) sc_Disk_restarted.nd rfl (Or.inl rfl)) pgs_nil))) pgs_nil)))
    (pss_cons (ps_set (i := 7) sc_Disk_restarted.nd rfl (Or.inl rfl) (pe_ifExp (pt_cmpR op_lt (pv 4) (pe_callB call_len_seq rfl W.n_len PySem.boot_len (pa_cons (pv 1) pa_nil)) (nomark _)) (pe_ix ix_list (pv 1) (pv 4) (fun _ _ => rfl)) pe_int))
    (pss_one (ps_if (pt_cmpR op_eq (pv 7) (C8.pe_gc rfl W.c_KEPT) (nomark _))
    (pss_one (ps_asg (pv 6) (pg_sub (pv 3) (pv 5) (set_dict (hu_of hr)))))
    (pss_one (ps_if (pt_cmpR op_eq (pv 7) (C8.pe_gc rfl W.c_HALF) (nomark _))
    (pss_cons (ps_set (i := 8) sc_Disk_restarted.nd rfl (Or.inl rfl) (pe_op op_fdivW (pe_fld (pv 0) rfl) pe_int))
    (pss_cons (ps_set (i := 9) sc_Disk_restarted.nd rfl (Or.inl rfl) (pe_dget2 (hu_of hr) (pv 3) (pv 5) (pe_op op_repA (pe_tup (pa_cons pe_int pa_nil)) (pe_fld (pv 0) rfl)) ⟨rfl, rfl, rfl, rfl⟩))
    (pss_one (ps_asg (pe_op op_catA (pe_slice sl_tupA (pv 6) po_none (po_some (pv 8))) (pe_slice sl_tupA (pv 9) (po_some (pv 8)) po_none)) (pg_sub (pv 3) (pv 5) (set_dict (hu_of hr)))))))
    pss_nil))))))
    (pss_one (ps_ret (Dq.pe_mcd c_Disk3 hr (by decide) rfl passL (pa_cons (pe_fld (pv 0) rfl) (pa_cons (pv 3) (pa_cons (pe_op op_catA (pe_fld (pv 0) rfl) (pe_slice sl_tupA (pe_fld (pv 0) rfl) po_none (po_some (pe_callB (call_max2 rfl) rfl W.n_max (by decide +kernel) (pa_cons pe_int (pa_cons (pv 2) pa_nil)))))) pa_nil)))))))), ?_⟩
  walk_at "g"
  refine ⟨bA, _, rfl, .inl hd.bs, fun D hD => ?_⟩
  have s1 := same_new hD (.dK S.bs)
  have eD : upd H D (.dK S.bs) D = some (.dK S.bs) := upd_same
  generalize upd H D (.dK S.bs) = H1 at s1 eD
  have hx1 := s1 _ _ hx
  walk_at "g"
  refine ⟨qA, _, rfl, SqL.of (s1 _ _ h4), ?_⟩
  refine Dq.for_enumL (fun i σ Hc => ∃ (v4 v5 v6 v7 v8 v9 : Option V) (kvs : List (Key × V)), σ = [some (.ref x), some (.ref cA), some (.int (kept : Int)), some (.ref D), v4, v5, v6, v7, v8, v9] ∧ Same H Hc ∧ Hc D = some (.dK kvs) ∧ BsR K Hc kvs (leftN ms ds cs i) ∧ (kvs.map (·.1)).Nodup ∧ kvs.length ≤ S.bs.length + i)
    ⟨none, none, none, none, none, none, S.bs, rfl, s1, eD, hm.ch (M := []) (Ch.of s1), hd.nd, Nat.le_refl _⟩ (fun i σ Hc ⟨_, _, _, _, _, _, _, _, s2, _⟩ => SqL.of (s2 _ _ h4)) ?_ ?_
  · rintro i y T σ H2 hi ⟨v4, v5, v6, v7, v8, v9, kvs, rfl, s2, ek, hk, nd, hkl⟩ hT
    obtain ⟨z, hz, rfl⟩ := map_get hi
    obtain ⟨⟨n, a⟩, hp, gz⟩ := paired_get h5 hz
    obtain ⟨⟨n', d⟩, hp', en, ba⟩ := paired_get hw hp
    obtain rfl : n = n' := en
    have hlt : i < S.ws.length := (List.getElem?_eq_some_iff.mp hp).1
    have eL := leftN_succ (ms := ms) (cs := cs) hp'
    have eT : upd H2 T (.tup [.int (i : Nat), .ref z]) T = some (.tup [.int (i : Nat), .ref z]) := upd_same
    have s3 := same_new hT (.tup [.int (i : Nat), .ref z])
    generalize upd H2 T (.tup [.int (i : Nat), .ref z]) = H3 at eT s3
    have ek3 := s3 _ _ ek
    have hk3 := hk.ch (M := []) (Ch.of s3)
    replace s2 := s2.trans s3
    clear s3 hk ek hT
    refine w_gtup eT rfl ?_
    walk_at "g"
    refine w_gtupS (sqT_same gz s2) rfl ?_
    have hx3 := s2 _ _ hx
    have hc3 := s2 _ _ hc
    have g8 : ∀ (c : Int), cs.getD i 0 = c → True := fun _ _ => trivial
    iterate 8 walk_at "s1"
    refine Dq.w_ifV (fun v H' => v = .int (cs.getD i 0) ∧ H' = H3) (fun R hR => ?_) ?_
    · walk_at "g"
      refine ⟨cA, _, rfl, .inl (SqL.of hc3), ?_⟩
      rw [List.length_map]
      walk_at "g"
      refine w_iteD (fun c1 => ?_) (fun c1 => ?_)
      · have c2 : i < cs.length := by
          have c3 : (i : Int) < (cs.length : Int) := c1
          omega
        have e := List.getElem?_eq_getElem c2
        walk_at "g"
        refine w_ixL hc3 (int_get e) ?_
        exact hR _ _ ⟨by rw [List.getD_eq_getElem?_getD, e]; rfl, rfl⟩
      · have c2 : cs.length ≤ i := by
          have c3 : ¬ (i : Int) < (cs.length : Int) := c1
          omega
        walk_at "g"
        exact hR _ _ ⟨by rw [List.getD_eq_getElem?_getD, List.getElem?_eq_none c2]; rfl, rfl⟩
    rintro v H' ⟨rfl, rfl⟩
    clear g8
    generalize hcc : cs.getD i 0 = c at eL
    have bd3 := ba.ch (M := []) (Ch.of s2)
    have dz : kvs.length < sizeLine := Nat.lt_of_le_of_lt (by omega : _ ≤ 2000) (by decide)
    walk_at "g"
    refine w_iteD (fun c1 => ?_) (fun c1 => ?_)
    · subst c1
      walk_at "g"
      refine ⟨D, _, rfl, DPut.k (k := .inl n) ek3 dz, ?_⟩
      refine ⟨_, _, _, _, _, _, _, rfl, same_upd s2 hD, upd_same, ?_, nodup_put nd, Nat.le_trans (len_put _ _ _) (by omega)⟩
      rw [eL]
      unfold left1
      rw [if_pos rfl]
      exact (hk3.put bd3).ch (M := [D]) (((Cs.refl [D] H').wr mem1 ek3 trivial).ch)
    walk_at "g"
    refine w_iteD (fun c2 => ?_) (fun c2 => ?_)
    · subst c2
      walk_at "g"
      refine ⟨D, rfl, .inl ⟨_, .inl ek3⟩, ?_⟩
      walk_at "g"
      intro z8 hz8
      have s5 := same_new hz8 (.tup [.int 0])
      have e5 : upd H' z8 (.tup [.int 0]) z8 = some (.tup [.int 0]) := upd_same
      generalize upd H' z8 (.tup [.int 0]) = H5 at s5 e5
      have hx5 := s5 _ _ hx3
      have ek5 := s5 _ _ ek3
      have hk5 := hk3.ch (M := []) (Ch.of s5)
      have bd5 := bd3.ch (M := []) (Ch.of s5)
      replace s5 := s2.trans s5
      clear hx3 ek3 hk3 bd3 s2
      walk_at "g"
      refine w_repInts (SqT.of e5) (by decide) (by decide) fun p6 H6 s6 e6 => ?_
      have hx6 := s6 _ _ hx5
      have ek6 := s6 _ _ ek5
      have hk6 := hk5.ch (M := []) (Ch.of s6)
      have bd6 := bd5.ch (M := []) (Ch.of s6)
      replace s6 := s5.trans s6
      clear hx5 ek5 hk5 bd5 s5 e5
      refine ⟨_, DGet.k (k := .inl n) ek6, ?_⟩
      obtain ⟨b, e, g1, g2, g3, g4⟩ : ∃ b e, (valV kvs (.inl n)).getD (.ref p6) = .ref b ∧ SqT K H6 b (e.map V.int) ∧ e.length = 8 ∧ (valM (leftN ms ds cs i) (.inl n)).getD (List.replicate 8 0) = e := by
        rcases bsR_val (.inl n) hk6 with ⟨z1, z2⟩ | ⟨b, e, z1, z2, z3⟩
        · rw [z1, z2]
          exact ⟨p6, _, rfl, e6, by decide, rfl⟩
        · rw [z1, z2]
          exact ⟨b, e, rfl, z3.1, z3.2, rfl⟩
      rw [g1]
      walk_at "g"
      refine w_slToZ (n := 4) rfl bd6.1 fun p7 H7 s7 e7 => ?_
      have g27 := sqT_same g2 s7
      have ek7 := s7 _ _ ek6
      have hk7 := hk6.ch (M := []) (Ch.of s7)
      replace s7 := s6.trans s7
      walk_at "g"
      refine w_slFromZ (n := 4) rfl g27 fun p8 H8 s8 e8 => ?_
      have e78 := sqT_same e7 s8
      have ek8 := s8 _ _ ek7
      have hk8 := hk7.ch (M := []) (Ch.of s8)
      replace s8 := s7.trans s8
      walk_at "g"
      have l1 : (d.take 4).length = 4 := by rw [List.length_take, bd6.2]; rfl
      have l2 : (e.drop 4).length = 4 := by rw [List.length_drop, g3]
      refine w_catInts e78 e8 (by show (d.take 4).length + (e.drop 4).length ≤ 2000; omega) fun p9 H9 s9 e9 => ?_
      have ek9 := s9 _ _ ek8
      have hk9 := hk8.ch (M := []) (Ch.of s9)
      replace s9 := s8.trans s9
      walk_at "g"
      refine ⟨D, _, rfl, DPut.k (k := .inl n) ek9 dz, ?_⟩
      refine ⟨_, _, _, _, _, _, _, rfl, same_upd s9 hD, upd_same, ?_, nodup_put nd, Nat.le_trans (len_put _ _ _) (by omega)⟩
      rw [eL]
      unfold left1
      rw [if_neg (by decide), if_pos rfl, g4]
      exact (hk9.put ⟨e9, by rw [List.length_append, l1, l2]⟩).ch (M := [D]) (((Cs.refl [D] H9).wr mem1 ek9 trivial).ch)
    · walk_at "g"
      refine ⟨_, _, _, _, _, _, kvs, rfl, s2, ek3, ?_, nd, by omega⟩
      rw [eL]
      unfold left1
      rw [if_neg c1, if_neg c2]
      exact hk3
  · rintro σ H2 ⟨v4, v5, v6, v7, v8, v9, kvs, rfl, s2, ek, hk, nd, hkl⟩
    rw [List.length_map, hzl, hdl] at hk
    rw [List.length_map, hzl] at hkl
    have hx2 := s2 _ _ hx
    walk_at "g"
    refine ⟨_, _, rfl, ?_⟩
    rw [show (if (kept : Int) > 0 then (kept : Int) else 0) = (kept : Int) by split <;> omega]
    walk_at "g"
    refine w_slToZ (n := kept) rfl (sqT_same h3 s2) fun p3 H3 s3 e3 => ?_
    have ek3 := s3 _ _ ek
    have hk3 := hk.ch (M := []) (Ch.of s3)
    replace s3 := s2.trans s3
    walk_at "g"
    refine w_catInts (sqT_same h2 s3) e3 (Nat.le_trans (by rw [List.length_take]; omega) hlg) fun p4 H4 s4 e4 => ?_
    have ek4 := s4 _ _ ek3
    have hk4 := hk3.ch (M := []) (Ch.of s4)
    replace s4 := s3.trans s4
    clear hx2 ek ek3 hk hk3 s2 s3 e3
    walk_at "g"
    intro x' dx' hx' hdx' ne
    have sn : Same H4 (upd (upd H4 dx' (.own x')) x' (.ins cD dx' [])) := (same_new hdx' _).trans (same_new (by rw [upd_ne ne.symm]; exact hx') _)
    have hkn := hk4.ch (M := []) (Ch.of sn)
    refine ⟨x', dx', p4, _, .ref D, kvs, rfl, upd_same, sqT_same e4 sn, .inr ⟨D, rfl, sn _ _ ek4, nd, ⟨_, hkn⟩, by omega⟩, fun b' q' w' H5 s5 f1 f2 f3 n1 n2 n3 d5 => ⟨rfl, ?_⟩⟩
    have s45 : Same H4 H5 := fun b o e => s5 b o (sn b o e) (.inl fun z => by
      rw [List.mem_singleton.mp z, hx'] at e
      cases e)
    exact q x' b' q' w' H5 kvs (s4.trans s45) d5 (hkn.ch s5.ch)
end
theorem w_iteDn {p : Prop} [Decidable p] {A B : Prop} (h : ¬ p) (q : B) : if decide p = true then A else B := by rw [if_neg (by simp [h])]; exact q
theorem w_iteDy {p : Prop} [Decidable p] {A B : Prop} (h : p) (q : A) : if decide p = true then A else B := by rw [if_pos (decide_eq_true h)]; exact q
theorem nd7 {x b q w m k u : Addr} (h : [x, b, q, w, m, k, u].Nodup) : (m ∉ [x, b, q, w] ∧ k ∉ [x, b, q, w] ∧ u ∉ [x, b, q, w]) ∧ (x ∉ [m, k, u] ∧ b ∉ [m, k, u] ∧ q ∉ [m, k, u] ∧ w ∉ [m, k, u]) ∧ (m ≠ k ∧ m ≠ u ∧ k ≠ u) := by
  simp only [List.nodup_cons, List.mem_cons, List.not_mem_nil, or_false, not_or, not_false_eq_true, List.nodup_nil, and_true] at h ⊢
  obtain ⟨⟨a1, a2, a3, a4, a5, a6⟩, ⟨b1, b2, b3, b4, b5⟩, ⟨c1, c2, c3, c4⟩, ⟨d1, d2, d3⟩, ⟨e1, e2⟩, f1⟩ := h
  exact ⟨⟨⟨Ne.symm a4, Ne.symm b3, Ne.symm c2, Ne.symm d1⟩, ⟨Ne.symm a5, Ne.symm b4, Ne.symm c3, Ne.symm d2⟩, ⟨Ne.symm a6, Ne.symm b5, Ne.symm c4, Ne.symm d3⟩⟩, ⟨⟨a4, a5, a6⟩, ⟨b3, b4, b5⟩, ⟨c2, c3, c4⟩, ⟨d1, d2, d3⟩⟩, e1, e2, f1⟩
theorem MdO.stp {K : PySem.W.Frag} {H : Hp} {m kA uA : Addr} {S : DS} (h : MdO K H m kA uA S) : MdO K H m kA uA S.step := by
  obtain ⟨⟨lA, tA, ys, h1, h2, h3, h4, h5⟩, a⟩ := h
  refine ⟨⟨lA, tA, ys, h1, ?_, ?_, h4, ?_⟩, ?_⟩
  · rw [step_lg]; exact h2
  · rw [step_tl]; exact h3
  · rw [step_ws]; exact h5
  · rw [step_bs]; exact a
end K09
end

section
-- part K09G
set_option Elab.async false
set_option linter.all false
set_option maxRecDepth 100000
set_option maxHeartbeats 800000
open PySem PySem.Spec PyProof.Rows L2 Fw
local macro_rules | `(tactic| walk_at "e1") => `(tactic| first
  | ((with_reducible refine' w_var ?hv ?_); (case hv => rfl))
  | with_reducible refine w_c ?_
  | with_reducible refine w_op ?_
  | with_reducible refine w_un ?_
  | with_reducible refine w_cons ?_
  | with_reducible refine w_nil ?_
  | with_reducible refine w_cl ?_
  | with_reducible refine w_cb ?_
  | with_reducible refine w_gname ?_
  | with_reducible refine w_gsub ?_
  | with_reducible refine w_test ?_
  | with_reducible refine w_B ?_
  | with_reducible refine w_bl ?_
  | with_reducible refine w_and ?_
  | with_reducible refine w_or ?_
  | with_reducible refine w_not ?_
  | with_reducible refine w_if ?_
  | with_reducible refine w_I0 ?_
  | with_reducible refine Gk.w_rU ?_
  | with_reducible refine Dq.w_orV ?_
  | with_reducible refine Dq.w_js ?_
  | with_reducible refine Dq.w_js0 ?_
  | with_reducible refine Dq.w_fm ?_
  | with_reducible refine Dq.w_andV ?_
  | with_reducible refine Gk.w_iEnum ?_
  | with_reducible refine Dq.w_dget ?_
  | with_reducible refine Dq.w_din ?_
  | with_reducible refine Dq.w_dnotin ?_
  | with_reducible refine Dq.w_dget2 ?_
  | with_reducible refine Dq.w_dnew ?_
  | with_reducible refine Dq.w_fldaug ?_
  | with_reducible refine Dq.w_aSub ?_
  | with_reducible refine Dq.w_aAdd ?_
  | with_reducible refine Dq.w_mkd ?_
  | with_reducible refine Dq.w_notN0 ?_
  | with_reducible refine Dq.w_isN0 ?_
  | with_reducible refine Dq.w_notNR ?_
  | with_reducible refine Dq.w_isNR ?_
  | with_reducible refine Dq.w_notNI ?_
  | with_reducible refine Dq.w_isNI ?_
  | with_reducible refine L2.w_neOs ?_
  | with_reducible refine w_ipI ?_
  | with_reducible refine w_eqS ?_
  | with_reducible refine w_neS ?_
  | with_reducible refine w_eqI ?_
  | with_reducible refine w_neI ?_
  | with_reducible refine w_eqB ?_
  | with_reducible refine w_neB ?_
  | ((with_reducible refine w_eq ?hs ?_); (case hs => rfl))
  | ((with_reducible refine w_ne ?hs ?_); (case hs => rfl))
  | with_reducible refine w_fld ?_
  | with_reducible refine w_bm ?_
  | with_reducible refine w_bm0 ?_
  | with_reducible refine w_sl ?_
  | with_reducible refine w_part ?_
  | with_reducible refine w_partI ?_
  | with_reducible refine w_nopart ?_
  | ((with_reducible refine' w_ixL ?hh ?ha ?_); (case hh => first | assumption | exact upd_same); (case ha => rfl))
  | ((with_reducible refine' w_setLu ?ha ?_); (case ha => rfl))
  | ((with_reducible refine' w_setL ?hh ?ha ?_); (case hh => first | assumption | exact upd_same); (case ha => rfl))
  | with_reducible refine w_iteT ?_
  | with_reducible refine w_iteF ?_
  | with_reducible refine w_lst ?_
  | with_reducible refine w_tup ?_
  | ((with_reducible refine w_new ?hz ?_); (case hz => rfl))
  | with_reducible refine w_lc ?_
  | with_reducible refine w_iL ?_
  | with_reducible refine w_iT ?_
  | with_reducible refine w_iR1 ?_
  | with_reducible refine w_iR2 ?_
  | with_reducible refine w_yes ?_
  | with_reducible refine w_iStr ?_
  | with_reducible exact tyS
  | with_reducible refine And.intro tyS ?_
  | ((with_reducible refine w_find3 ?_); (first | rw [find3_one] | rw [starts3] | skip))
  | ((with_reducible refine w_2s ?_); (try rw [find_one]))
  | ((with_reducible refine w_inS ?_); rw [S_list])
  | ((with_reducible refine w_lenS ?hz ?_); (case hz => first | assumption | omega | decide); rw [SX.S_len])
  | ((with_reducible refine w_addS ?hz ?_); (case hz => first | assumption | omega | decide); rw [vS_cat])
  | with_reducible refine w_mk ?_
  | with_reducible refine w_me ?_
  | with_reducible refine w_sfld ?_
  | ((with_reducible refine' w_gtup ?hh ?hn ?_); (case hh => first | assumption | exact upd_same); (case hn => rfl))
  | with_reducible refine w_gcons ?_
  | with_reducible refine w_gnil ?_
  | with_reducible refine w_repl ?_
  | with_reducible refine w_star ?_
  | with_reducible refine w_revL ?_
  | with_reducible refine w_isiS ?_
  | with_reducible refine w_isiI ?_
  | with_reducible refine w_isiN ?_
  | with_reducible refine w_chain ?_
  | with_reducible refine w_iEnumT ?_
  | with_reducible refine w_iZip3 ?_
  | with_reducible refine w_iZip ?_
  | with_reducible refine w_lenR3 ?_
  | with_reducible refine w_x1i ?_
  | with_reducible refine w_x1b ?_
  | with_reducible refine w_x1s ?_
  | with_reducible refine w_int1i ?_
  | with_reducible refine w_int1b ?_
  | ((with_reducible refine w_mod ?hc ?_); (case hc => omega))
  | ((with_reducible refine w_fdivW ?hc ?hd ?_); (case hc => omega); (case hd => omega))
  | ((with_reducible refine w_mul ?hc ?_); (case hc => first | exact Or.inr ⟨by decide, by decide⟩ | exact Or.inl ⟨by decide, by decide⟩))
  | ((with_reducible refine w_pow ?hc ?_); (case hc => exact ⟨by decide, by decide, by decide⟩)))
local macro_rules | `(tactic| walk_at "f1") => `(tactic| first
  | ((with_reducible refine' K09.g_block_size ?hW ?hK ?hs ?hx ?_); (case hW => assumption); (case hK => rfl); (case hs => rfl); (case hx => first | assumption | exact upd_same))
  | ((with_reducible refine' K09.g_blocks ?hW ?hK ?hs ?hx ?_); (case hW => assumption); (case hK => rfl); (case hs => rfl); (case hx => first | assumption | exact upd_same))
  | ((with_reducible refine' K09.g_log ?hW ?hK ?hs ?hx ?_); (case hW => assumption); (case hK => rfl); (case hs => rfl); (case hx => first | assumption | exact upd_same))
  | ((with_reducible refine' K09.g_waiting ?hW ?hK ?hs ?hx ?_); (case hW => assumption); (case hK => rfl); (case hs => rfl); (case hx => first | assumption | exact upd_same))
  | ((with_reducible refine' K09.g_written ?hW ?hK ?hs ?hx ?_); (case hW => assumption); (case hK => rfl); (case hs => rfl); (case hx => first | assumption | exact upd_same))
  | ((with_reducible refine' K09.g_log_tail ?hW ?hK ?hs ?hx ?_); (case hW => assumption); (case hK => rfl); (case hs => rfl); (case hx => first | assumption | exact upd_same))
  | ((with_reducible refine' K09.g_fuse ?hW ?hK ?hs ?hx ?_); (case hW => assumption); (case hK => rfl); (case hs => rfl); (case hx => first | assumption | exact upd_same))
  | ((with_reducible refine' K09.g_dead ?hW ?hK ?hs ?hx ?_); (case hW => assumption); (case hK => rfl); (case hs => rfl); (case hx => first | assumption | exact upd_same))
  | ((with_reducible refine' K09.g_steps ?hW ?hK ?hs ?hx ?_); (case hW => assumption); (case hK => rfl); (case hs => rfl); (case hx => first | assumption | exact upd_same))
  | walk_at "e1")
local macro_rules | `(tactic| walk_at "s1") => `(tactic| first
  | with_reducible refine w_seq ?_
  | with_reducible refine w_asg ?_
  | with_reducible refine w_ret ?_
  | with_reducible refine w_par ?_
  | with_reducible refine w_drop ?_
  | with_reducible refine w_next ?_
  | with_reducible refine w_ifs ?_
  | ((with_reducible refine' w_aug ?hv ?_); (case hv => rfl))
  | with_reducible refine w_for ?_
  | walk_at "f1"
  | ((with_reducible refine' K09.w_iteDn ?hp ?_); (case hp => decide))
  | ((with_reducible refine' K09.w_iteDy ?hp ?_); (case hp => decide)))
local macro_rules | `(tactic| walk_at "e") => `(tactic| repeat walk_at "e1")
local macro_rules | `(tactic| walk_at "g") => `(tactic| repeat walk_at "s1")

namespace K09
open Dc Gk M9 LamX
-- _law_told: 0:what
abbrev s__law_told : Stmt := top 11
theorem sc__law_told : FnScope ["what"] ["what"] (defScope s__law_told) := ⟨rfl, rfl, rfl, by decide +kernel, rfl, by decide +kernel, by decide +kernel⟩
-- _law_block: 0:dice
abbrev s__law_block : Stmt := top 12
theorem sc__law_block : FnScope ["dice"] ["dice"] (defScope s__law_block) := ⟨rfl, rfl, rfl, by decide +kernel, rfl, by decide +kernel, by decide +kernel⟩
-- _law_deed: 0:dice 1:disk 2:model 3:sort 4:number 5:data 6:kept 7:waiting 8:deeds 9:one 10:other
abbrev s__law_deed : Stmt := top 13
theorem sc__law_deed : FnScope ["dice", "disk", "model", "sort", "number", "data", "kept", "waiting", "deeds", "one", "other"] ["dice", "disk", "model"] (defScope s__law_deed) := ⟨rfl, rfl, rfl, by decide +kernel, rfl, by decide +kernel, by decide +kernel⟩
-- law: 0:script 1:dice 2:disk 3:model 4:fuse 5:many 6:steps 7:step 8:good 9:seen 10:one 11:data 12:number 13:told_now 14:choices 15:held 16:k 17:found 18:due 19:place 20:choice
abbrev s_law : Stmt := top 14
theorem sc_law : FnScope ["script", "dice", "disk", "model", "fuse", "many", "steps", "step", "good", "seen", "one", "data", "number", "told_now", "choices", "held", "k", "found", "due", "place", "choice"] ["script"] (defScope s_law) := ⟨rfl, rfl, rfl, by decide +kernel, rfl, by decide +kernel, by decide +kernel⟩
abbrev TQ (Pl Pd : Addr) : List (Addr × Str) := [(Pl, (("law" : Str) ++ (".<locals>." : Str)) ++ ("<lambda>" : Str)), (Pd, (("_law_deed" : Str) ++ (".<locals>." : Str)) ++ ("<lambda>" : Str))]
theorem tq_d {Pl Pd : Addr} : (Pd, (("_law_deed" : Str) ++ (".<locals>." : Str)) ++ ("<lambda>" : Str)) ∈ TQ Pl Pd := List.mem_cons_of_mem _ List.mem_cons_self
theorem tq_l {Pl Pd : Addr} : (Pl, (("law" : Str) ++ (".<locals>." : Str)) ++ ("<lambda>" : Str)) ∈ TQ Pl Pd := List.mem_cons_self
theorem tq_ud {Pl Pd : Addr} (n : Pl ≠ Pd) : ∀ p ∈ TQ Pl Pd, p.1 = Pd → p.2 = (("_law_deed" : Str) ++ (".<locals>." : Str)) ++ ("<lambda>" : Str) := fun p hp e => by
  rcases List.mem_cons.mp hp with rfl | hp
  · exact absurd e n
  · rw [List.mem_singleton.mp hp]
theorem tq_ul {Pl Pd : Addr} (n : Pl ≠ Pd) : ∀ p ∈ TQ Pl Pd, p.1 = Pl → p.2 = (("law" : Str) ++ (".<locals>." : Str)) ++ ("<lambda>" : Str) := fun p hp e => by
  rcases List.mem_cons.mp hp with rfl | hp
  · rfl
  · rw [List.mem_singleton.mp hp] at e
    exact absurd e.symm n
theorem sl_tupAK {X : Cx} (K0 : PySem.W.Frag) (h : X.K = K0) : SlR X (rSlA K0) := by subst h; exact sl_tupA
theorem w_toldV {X : Cx} {k : Nat} {CS : Addr} {ret : Str} {te : TE} {σ : L2.St} {H : Hp} {Q : VK} (h : te σ H fun v H1 => ∃ f t, [v] = [V.ref f] ∧ LmV.LamV X k H1 f t ∧ TTold X.K CS ret (fun E H' Q' => t E σ H' Q') H1 Q) : LmV.tToldV X k CS ret te σ H Q := h
structure Wz (K : PySem.W.Frag) (mg : Str → Option Value) (cDF cD aE : Addr) : Prop extends Wd K mg cDF cD aE where
  d__law_told : FnP K mg "_law_told" s__law_told
  d__law_block : FnP K mg "_law_block" s__law_block
  d__law_deed : FnP K mg "_law_deed" s__law_deed
  x_DD : PySem.W.exmOne K (.ref cDF) (.ref cDF) = some true
/-- _law_deed as the top has it: its code object at c, the table at Pd -/
structure TabD (K : PySem.W.Frag) (mg : Str → Option Value) (base : Heap) (Pd : Addr) : Prop where
  ex : ∃ (f c : Addr) (fd : FuncData), FunD K "_law_deed" "_law_deed" (defArgs s__law_deed) (defBody s__law_deed) (defScope s__law_deed) [] [] f fd ∧ mg "_law_deed" = some (.ref f) ∧ fd.code = .ref c ∧ TabB base mg c Pd
section
variable {X : Cx}
theorem pe_lamT {T : List (Addr × Str)} {cF c Pt : Addr} {k : Nat} {params : Arguments} {body : Expr} {scope : Scope} {t : XK → TE} {p lpos pos : Pos} (F : FnP X.K X.mg "_law_told" s__law_told) (eT : X.mg "DiskFault" = some (.ref cF)) {qn : Str} (hm : (Pt, qn ++ ("<lambda>" : Str)) ∈ T) (hu : ∀ p ∈ T, p.1 = Pt → p.2 = qn ++ ("<lambda>" : Str))
    (TB : TabB X.base X.mg c Pt) (hcode : X.env.code = .ref c) (qn' : Str) (hq : X.env.qual = qn) (hr : Room (k + 2) X.A) (sc : Scope) (hsc : X.env.scope = sc) (L : lamSB sc scope = true) (hdef : defaultsOf params X.env = ([], []))
    (hbind : ∀ (q : Str) (cl : List (Str × Addr)) (pm cv ctv : Value), bindArgs (PySem.W.kla_fn "<lambda>" q params body scope cl pm cv ctv) ⟨[], []⟩ = pure []) (hg : Gl X "_law_told")
    (hbody : ∀ (A : Around) (outer : List Env) (s : Shared) (H : Hp) (E : XK) (f c' : Addr), Room k (A.deeper (lamEnv X scope s.heap.objs.size f c')) → PE (lamCx X A outer s H E scope f c') body (t E)) :
    PE X (.Call (.Name "_law_told" p) [.Lambda params body scope lpos] [] pos) (tLam T (TTold X.K cF "DiskFault") t) := by
  subst hq
  obtain ⟨f, fd, F, m⟩ := F
  have bb := F.bindsN (ps := ["what"]) fun _ _ _ _ _ _ us hl => match us, hl with | [_], _ => rfl
  obtain ⟨oc, od, dV, kV, doc, pm, an, cdv, ct, osl, rfl, lk, hcd, _, _⟩ := F.ex
  exact pe_lamcall hg m F.kp lk hcd bb sc__law_told rfl (Or.inl rfl) (told_gives rfl eT rfl fun _ => rfl) TB hcode hm hu hr (hsc ▸ lamS_by L) hdef hbind hbody
theorem pe_toldVx {cF : Addr} {k : Nat} {te : TE} {ex : Expr} {p pos : Pos} (F : FnP X.K X.mg "_law_told" s__law_told) (eT : X.mg "DiskFault" = some (.ref cF)) (hr : Room (k + 2) X.A) (he : PE X ex te) (hg : Gl X "_law_told" := by rfl)
    (hst : starEach [ex] X.env = (false, eval ex X.env) :: starEach [] X.env := by rfl) (hpl : (backTo pos (starEach [] X.env)).any (·.1) = false := by rfl) : PE X (.Call (.Name "_law_told" p) [ex] [] pos) (LmV.tToldV X k cF "DiskFault" te) := by
  obtain ⟨f, fd, F, m⟩ := F
  have bb := F.bindsN (ps := ["what"]) fun _ _ _ _ _ _ us hl => match us, hl with | [_], _ => rfl
  obtain ⟨oc, od, dV, kV, doc, pm, an, cdv, ct, osl, rfl, lk, hcd, _, _⟩ := F.ex
  exact LmV.pe_toldV (e2 := "e") hg m F.kp he lk hcd bb sc__law_told rfl (Or.inl rfl) hr rfl eT rfl (fun _ => rfl) (by decide) (by decide) (by decide) hst hpl
end
section
variable {P : Program} {w : World} {K : PySem.W.Frag} {mg : Str → Option Value} {base : Heap} {cDF cD aE : Addr}
def spBlock : Sp := fun vs H Q _ => ∃ (d : Addr), vs = [.ref d] ∧ Dice H d ∧ ∀ (p : Addr) (H' : Hp) (xs : List Int), Kp d H H' → Dice H' d → H' p = some (.tup (xs.map V.int)) → xs.length = 8 → Q (.ref p) H'
theorem ok__law_block (W : Wz K mg cDF cD aE) (c__law_roll : Cl P w K mg base 1 "_law_roll" spRoll) : Cl P w K mg base 2 "_law_block" spBlock := by
  refine cl_mk W.d__law_block sc__law_block (fun _ _ _ _ _ _ us hl => match us, hl with | [_], _ => rfl) (fun vs H Q E h => ?_) (fun f cdv A outer s H vs Q E hr h => ?_)
  · obtain ⟨d, rfl, _⟩ := h; rfl
  obtain ⟨d, rfl, dd, q⟩ := h
  refine ⟨_, (pss_one (ps_ret (pe_callTy call_tuple_of rfl W.n_tuple (by decide +kernel) (pa_cons (pe_op op_rep (pe_lst (pa_cons (pe_cl c__law_roll hr (by decide) rfl passL (pa_cons (pv 0) (pa_cons pe_int pa_nil))) pa_nil)) pe_int) pa_nil)))), ?_⟩
  walk_at "g"
  refine w_roll (by decide) (by decide) (Kp.refl d H) dd fun r H1 r0 r1 k1 _ d1 => ?_
  walk_at "g"
  intro L hL
  obtain ⟨k2, k2', d2, nL, fL, eL⟩ := newl (o := .lst [.int r]) k1 d1 hL rfl
  generalize upd H1 L (.lst [.int r]) = H2 at k2 k2' d2 eL
  walk_at "g"
  refine ⟨L, _, _, rfl, rfl, eL, by decide, by decide, by show 1 * 8 ≤ sizeLine; decide, fun Y hY => ?_⟩
  obtain ⟨k3, k3', d3, nY, fY, eY⟩ := newl (o := .lst ((List.replicate 8 r).map V.int)) k2 d2 hY rfl
  rw [show (List.replicate ((8 : Int)).toNat [V.int r]).flatten = (List.replicate 8 r).map V.int from rfl]
  generalize upd H2 Y (.lst ((List.replicate 8 r).map V.int)) = H3 at k3 k3' d3 eY
  walk_at "g"
  refine ⟨Y, _, rfl, .inl ⟨SqL.of eY, fun p hp => ?_⟩⟩
  exact q p _ (List.replicate 8 r) (k3.trans (Kp.new hp)) (d3.new hp) upd_same rfl
theorem okDF : PyData.strOk "DiskFault" = true := by decide +kernel
theorem w_eqSS {H : Hp} {Q : VK} (q : Q (.bl true) H) : rEqD K (.str "DiskFault") (.str "DiskFault") H Q :=
  ⟨_, _, .str _, .str _, (Fine.str okDF).shaped (by decide), (Fine.str okDF).shaped (by decide), by
    rw [(Fine.str okDF).2.2]
    exact q⟩
theorem w_eqNS {H : Hp} {Q : VK} (q : Q (.bl false) H) : rEqD K .non (.str "DiskFault") H Q :=
  ⟨_, _, .non, .str _, rfl, (Fine.str okDF).shaped (by decide), by
    rw [show PyData.eqv .none (.str "DiskFault") = false by simp [PyData.eqv]]
    exact q⟩
/-- the addresses that a deed may leave -/
def Nw (H : Hp) (L L' : List Addr) : Prop := ∀ a ∈ L', a ∈ L ∨ ∀ o, H a = some o → ∃ ps, o = .tbl ps
theorem nd7n {x b q w m k u q' w' u' : Addr} (h : [x, b, q, w, m, k, u].Nodup) (hq : q' ∉ [x, b, m, k]) (hw : w' ∉ [x, b, m, k]) (hqw : q' ≠ w') (hu : u' ∉ [x, b, q', w', m, k]) : [x, b, q', w', m, k, u'].Nodup := by
  simp only [List.nodup_cons, List.mem_cons, List.not_mem_nil, or_false, not_or, not_false_eq_true, List.nodup_nil, and_true] at h hq hw hu ⊢
  obtain ⟨⟨a1, a2, a3, a4, a5, a6⟩, ⟨b1, b2, b3, b4, b5⟩, ⟨c1, c2, c3, c4⟩, ⟨d1, d2, d3⟩, ⟨e1, e2⟩, f1⟩ := h
  obtain ⟨h1, h2, h3, h4⟩ := hq
  obtain ⟨i1, i2, i3, i4⟩ := hw
  obtain ⟨j1, j2, j3, j4, j5, j6⟩ := hu
  exact ⟨⟨a1, Ne.symm h1, Ne.symm i1, a4, a5, Ne.symm j1⟩, ⟨Ne.symm h2, Ne.symm i2, b3, b4, Ne.symm j2⟩, ⟨hqw, h3, h4, Ne.symm j3⟩, ⟨i3, i4, Ne.symm j4⟩, ⟨e1, Ne.symm j5⟩, Ne.symm j6⟩
def spDeed (K : PySem.W.Frag) (cD : Addr) (T : List (Addr × Str)) : Sp := fun vs H Q _ => ∃ (d x m : Addr) (L : List Addr) (S : DS), vs = [.ref d, .ref x, .ref m] ∧ Own K cD H x m L S ∧ Dice H d ∧ d ∉ L ∧ Tabs T H ∧ S.bs.length + S.ws.length ≤ 500 ∧ S.lg.length + S.tl.length ≤ 500 ∧
  ∀ H' L', Ch (d :: L) H H' → Dice H' d → Tabs T H' → Nw H L L' →
    (S.ok = false → Own K cD H' x m L' S.step → Q (.bl false) H') ∧
    (S.ok = true → ∀ S', Own K cD H' x m L' S' → S'.fu = S.step.fu → S'.dd = S.step.dd → S'.st = S.step.st → S'.bs.length + S'.ws.length ≤ S.bs.length + S.ws.length + 1 → S'.lg.length + S'.tl.length ≤ S.lg.length + S.tl.length + 4 → Q (.bl true) H')
theorem dget_s {H : Hp} {m : Addr} {kvs : List (Key × V)} {z : Str} {v : V} (h : H m = some (.dK kvs)) (e : valV kvs (.inr z) = some v) : DGet H m (.str z) (some v) := e ▸ DGet.k (k := .inr z) h
theorem ok__law_deed {Pl Pd : Addr} (W : Wz K mg cDF cD aE) (TD : TabD K mg base Pd) (nT : Pl ≠ Pd) (c__law_roll : Cl P w K mg base 1 "_law_roll" spRoll) (c__law_block : Cl P w K mg base 2 "_law_block" spBlock)
    (c_Disk_write_block : Me P w K mg base 2 cD "write_block" (spWrite K cDF cD)) (c_Disk_sync_blocks : Me P w K mg base 2 cD "sync_blocks" (spSync K cDF cD)) (c_Disk_append_log : Me P w K mg base 2 cD "append_log" (spApp K cDF cD))
    (c_Disk_sync_log : Me P w K mg base 2 cD "sync_log" (spSyL K cDF cD)) (c_Disk_clear_log : Me P w K mg base 2 cD "clear_log" (spClr K cDF cD)) : Cl P w K mg base 5 "_law_deed" (spDeed K cD (TQ Pl Pd)) := by
  obtain ⟨f, c, fd, F, hmg, hc, TB⟩ := TD.ex
  have bb := F.bindsN (ps := ["dice", "disk", "model"]) (fun _ _ _ _ _ _ us hl => match us, hl with | [_, _, _], _ => rfl)
  refine ⟨f, fd, ["dice", "disk", "model"], ?_, hmg, F.kp, bb⟩
  clear bb hmg
  have hTm := tq_d (Pl := Pl) (Pd := Pd)
  have hTu := tq_ud nT
  obtain ⟨oc, od, dV, kV, doc, pm, an, cdv, ct, osl, rfl, lk, hcd, _, _⟩ := F.ex
  obtain rfl : cdv = .ref c := hc
  refine fn_of lk hcd sc__law_deed (fun vs H Q E h => ?_) fun A outer s H vs Q E hr h => ?_
  · obtain ⟨d, x, m, L, S, rfl, _⟩ := h; rfl
  obtain ⟨d, x, m, L, S, rfl, own, dd, nd, hT, hb1, hb2, q⟩ := h
  refine ⟨_, (pss_cons (ps_asg (pe_tup (pa_cons (pe_cl c__law_roll hr (by decide) rfl passL (pa_cons (pv 0) (pa_cons pe_int pa_nil))) (pa_cons (pe_cl c__law_roll hr (by decide) rfl passL (pa_cons (pv 0) (pa_cons pe_int pa_nil))) (pa_cons (pe_cl c__law_block hr (by decide) rfl passL (pa_cons (pv 0) pa_nil)) pa_nil)))) (pg_tup rfl (pgs_cons (pg_name (i := 3) sc__law_deed.nd rfl (Or.inl rfl)) (pgs_cons (pg_name (i := 4) sc__law_deed.nd rfl (Or.inr rfl)) (pgs_cons (pg_name (i := 5) sc__law_deed.nd rfl (Or.inr rfl)) pgs_nil)))))
    (pss_cons (ps_par (i := 6) (j := 7) (by rfl) sc__law_deed.nd rfl rfl (by decide) rfl rfl (pa_cons (pe_dget (hu_of hr) (pv 2) pe_str (fun _ _ => rfl)) (pa_cons (pe_dget (hu_of hr) (pv 2) pe_str (fun _ _ => rfl)) pa_nil)) (by rfl))
    (pss_cons (ps_set (i := 8) sc__law_deed.nd rfl (Or.inl rfl) (pe_lst (pa_cons (LmV.pe_lamV (k := 2) TB rfl hTm hTu (defScope s__law_deed) rfl (by kernel_rfl) rfl (fun _ _ _ _ _ => rfl) (fun A outer s H E f c1 hr => (pe_me c_Disk_write_block hr (by decide) passLam (pv 1) (pa_cons (pv 4) (pa_cons (pv 5) pa_nil))))) (pa_cons (LmV.pe_lamV (k := 2) TB rfl hTm hTu (defScope s__law_deed) rfl (by kernel_rfl) rfl (fun _ _ _ _ _ => rfl) (fun A outer s H E f c1 hr => (pe_me0 c_Disk_sync_blocks hr (by decide) passLam (pv 1)))) (pa_cons (LmV.pe_lamV (k := 2) TB rfl hTm hTu (defScope s__law_deed) rfl (by kernel_rfl) rfl (fun _ _ _ _ _ => rfl) (fun A outer s H E f c1 hr => (pe_me c_Disk_append_log hr (by decide) passLam (pv 1) (pa_cons (pe_slice (sl_tupAK K rfl) (pv 5) po_none (po_some (pv 4))) pa_nil)))) (pa_cons (LmV.pe_lamV (k := 2) TB rfl hTm hTu (defScope s__law_deed) rfl (by kernel_rfl) rfl (fun _ _ _ _ _ => rfl) (fun A outer s H E f c1 hr => (pe_me0 c_Disk_sync_log hr (by decide) passLam (pv 1)))) (pa_cons (LmV.pe_lamV (k := 2) TB rfl hTm hTu (defScope s__law_deed) rfl (by kernel_rfl) rfl (fun _ _ _ _ _ => rfl) (fun A outer s H E f c1 hr => (pe_me0 c_Disk_clear_log hr (by decide) passLam (pv 1)))) (pa_cons (LmV.pe_lamV (k := 2) TB rfl hTm hTu (defScope s__law_deed) rfl (by kernel_rfl) rfl (fun _ _ _ _ _ => rfl) (fun A outer s H E f c1 hr => (pe_me c_Disk_write_block hr (by decide) passLam (pv 1) (pa_cons (pv 4) (pa_cons (pv 5) pa_nil))))) pa_nil))))))))
    (pss_cons (ps_if (pt_cmpR (op_eqD (hu64 hr)) (pe_toldVx W.d__law_told W.e_DiskFault.og hr (pe_ix ix_list (pv 8) (pv 3) (fun _ _ => rfl))) pe_str (nomark _))
    (pss_one (ps_ret pe_bl))
    pss_nil)
    (pss_cons (ps_if (pt_cmpR op_in_seq (pv 3) (pe_lst (pa_cons pe_int (pa_cons pe_int pa_nil))) (by with_unfolding_all rfl))
    (pss_one (ps_expr (pe_bm PySem.F.plainAttrs_list PySem.F.slot_list_append PySem.F.type_list_append mt_append (pv 7) (pa_cons (pe_tup (pa_cons (pv 4) (pa_cons (pv 5) pa_nil))) pa_nil))))
    pss_nil)
    (pss_cons (ps_if (pt_cmpR op_eq (pv 3) pe_int (nomark _))
    (pss_cons (ps_for (passes_of rfl) rfl (pi_list (pv 7)) (pg_tup rfl (pgs_cons (pg_name (i := 9) sc__law_deed.nd rfl (Or.inl rfl)) (pgs_cons (pg_name (i := 10) sc__law_deed.nd rfl (Or.inl rfl)) pgs_nil)))
    (pss_one (ps_asg (pv 10) (pg_sub (pv 6) (pv 9) (set_dict (hu_of hr))))))
    (pss_one (ps_asg (pe_lst pa_nil) (pg_sub (pv 2) pe_str (set_dict (hu_of hr))))))
    pss_nil)
    (pss_cons (ps_if (pt_cmpR op_eq (pv 3) pe_int (nomark _))
    (pss_one (ps_asg (pe_op op_catA (pe_dget (hu_of hr) (pv 2) pe_str (fun _ _ => rfl)) (pe_slice sl_tupA (pv 5) po_none (po_some (pv 4)))) (pg_sub (pv 2) pe_str (set_dict (hu_of hr)))))
    pss_nil)
    (pss_cons (ps_if (pt_cmpR op_eq (pv 3) pe_int (nomark _))
    (pss_one (ps_asg (pe_tup (pa_cons (pe_op op_catA (pe_dget (hu_of hr) (pv 2) pe_str (fun _ _ => rfl)) (pe_dget (hu_of hr) (pv 2) pe_str (fun _ _ => rfl))) (pa_cons (pe_tup pa_nil) pa_nil))) (pg_tup rfl (pgs_cons (pg_sub (pv 2) pe_str (set_dict (hu_of hr))) (pgs_cons (pg_sub (pv 2) pe_str (set_dict (hu_of hr))) pgs_nil)))))
    pss_nil)
    (pss_cons (ps_if (pt_cmpR op_eq (pv 3) pe_int (nomark _))
    (pss_one (ps_asg (pe_tup (pa_cons (pe_tup pa_nil) (pa_cons (pe_tup pa_nil) pa_nil))) (pg_tup rfl (pgs_cons (pg_sub (pv 2) pe_str (set_dict (hu_of hr))) (pgs_cons (pg_sub (pv 2) pe_str (set_dict (hu_of hr))) pgs_nil)))))
    pss_nil)
    (pss_one (ps_ret pe_bl))))))))))), ?_⟩
  walk_at "g"
  refine w_roll (by decide) (by decide) (Kp.refl d H) dd fun r H1 r0 r1 k1 _ d1 => ?_
  have c1 := (Cs.kp k1 dd)
  clear k1 dd
  walk_at "g"
  refine w_roll (by decide) (by decide) (Kp.refl d H1) d1 fun n H2 n0 n1 k2 _ d2 => ?_
  have c2 := c1.trans (Cs.kp k2 d1)
  clear k2 d1 c1
  obtain ⟨n, rfl⟩ := Int.eq_ofNat_of_zero_le n0
  walk_at "g"
  refine ⟨d, rfl, d2, fun a H3 xs k3 d3 e3 lx => ?_⟩
  have c3 := c2.trans (Cs.kp k3 d2)
  clear k3 d2 c2
  walk_at "g"
  intro z hz
  have s4 := same_new hz (.tup [.int r, .int (n : Int), .ref a])
  have e4 : upd H3 z (.tup [.int r, .int (n : Int), .ref a]) z = some (.tup [.int r, .int (n : Int), .ref a]) := upd_same
  generalize upd H3 z (.tup [.int r, .int (n : Int), .ref a]) = H4 at s4 e4
  have c4 := c3.trans (Cs.of s4)
  have d4 := Dice.sm d3 s4
  have ea4 := s4 _ _ e3
  clear e3 d3 c3 s4 hz
  walk_at "g"
  have nM : ∀ b ∈ L, b ∉ [d] := fun b hb z => nd (by rw [← List.mem_singleton.mp z]; exact hb)
  have own4 := own.ch c4.ch nM
  have hT4 := M9.Tabs.cs hT c4
  obtain ⟨⟨bA, qA, wA, kA, uA, eL, hd4, hm4⟩, ndL, hwr⟩ := id own4
  obtain ⟨lA, tA, ys, em4, ml4, mt4, mu4, mp4⟩ := hm4.ex
  refine ⟨m, _, rfl, dget_s em4 md_kept, ?_⟩
  walk_at "g"
  refine ⟨m, _, rfl, dget_s em4 md_waiting, ?_⟩
  walk_at "g"
  refine ⟨_, _, rfl, ?_⟩
  walk_at "g"
  refine ⟨hT4, fun f0 G0 x0 t0 n0 v0 => ?_⟩
  walk_at "g"
  refine ⟨t0, fun f1 G1 x1 t1 n1 v1 => ?_⟩
  walk_at "g"
  refine ⟨t1, fun f2 G2 x2 t2 n2 v2 => ?_⟩
  walk_at "g"
  refine ⟨t2, fun f3 G3 x3 t3 n3 v3 => ?_⟩
  walk_at "g"
  refine ⟨t3, fun f4 G4 x4 t4 n4 v4 => ?_⟩
  walk_at "g"
  refine ⟨t4, fun f5 G5 x5 t5 n5 v5 => ?_⟩
  walk_at "g"
  intro D hD
  have xs5 : ExtN H4 G5 := ((((x0.trans x1).trans x2).trans x3).trans x4).trans x5
  have sD := same_new hD (.lst [.ref f0, .ref f1, .ref f2, .ref f3, .ref f4, .ref f5])
  have eD : upd G5 D (.lst [.ref f0, .ref f1, .ref f2, .ref f3, .ref f4, .ref f5]) D = some (.lst [.ref f0, .ref f1, .ref f2, .ref f3, .ref f4, .ref f5]) := upd_same
  generalize upd G5 D (.lst [.ref f0, .ref f1, .ref f2, .ref f3, .ref f4, .ref f5]) = H5 at sD eD
  have y5 := ExtN.of sD
  replace v5 := v5.ex y5
  replace v4 := v4.ex (x5.trans y5)
  replace v3 := v3.ex (x4.trans (x5.trans y5))
  replace v2 := v2.ex (x3.trans (x4.trans (x5.trans y5)))
  replace v1 := v1.ex (x2.trans (x3.trans (x4.trans (x5.trans y5))))
  replace v0 := v0.ex (x1.trans (x2.trans (x3.trans (x4.trans (x5.trans y5)))))
  have e45 := xs5.trans y5
  have hT5 : Tabs (TQ Pl Pd) H5 := t5.ext sD
  have d5 : Dice H5 d := by
    obtain ⟨u1, u2, u3, e⟩ := d4
    exact ⟨u1, u2, u3, ext_lst e45 e⟩
  have c5 : Ch [d] H H5 := c4.ch.trans (Ch.ex e45)
  have own5 := own.ch c5 nM
  have hd5 := hd4.ch (M := []) (Ch.ex e45) List.not_mem_nil List.not_mem_nil List.not_mem_nil List.not_mem_nil
  have hm5 := hm4.ch (M := []) (Ch.ex e45) List.not_mem_nil List.not_mem_nil List.not_mem_nil
  have ea5 := ext_tup e45 ea4
  clear x0 x1 x2 x3 x4 x5 t0 t1 t2 t3 t4 t5 n0 n1 xs5 y5 sD hD e45 hd4 hm4 own4 em4 ml4 mt4 mu4 mp4 ea4 e4 d4 hT4 c4
  obtain ⟨lA, tA, ys, em, ml, mt, mu, mp⟩ := hm5.ex
  obtain ⟨dx, lB, tB, zs, hx, h2, h3, h4, h5⟩ := hd5.ex
  subst eL
  obtain ⟨⟨nm, nk, nu⟩, ⟨nx', nb', nq', nw'⟩, nmk, nmu, nku⟩ := nd7 ndL
  have ndx : d ∉ [x, bA, qA, wA] := fun z => nd (by
    simp only [List.mem_cons, List.not_mem_nil, or_false] at z ⊢
    rcases z with z | z | z | z
    · exact .inl z
    · exact .inr (.inl z)
    · exact .inr (.inr (.inl z))
    · exact .inr (.inr (.inr (.inl z))))
  have le4 : ∀ b ∈ [x, bA, qA, wA], b ∈ d :: [x, bA, qA, wA, m, kA, uA] := fun b hb => by
    simp only [List.mem_cons, List.not_mem_nil, or_false] at hb ⊢
    rcases hb with z | z | z | z
    · exact .inr (.inl z)
    · exact .inr (.inr (.inl z))
    · exact .inr (.inr (.inr (.inl z)))
    · exact .inr (.inr (.inr (.inr (.inl z))))
  have c5L : Ch (d :: [x, bA, qA, wA, m, kA, uA]) H H5 := c5.le fun b hb => by rw [List.mem_singleton.mp hb]; exact List.mem_cons_self
  have fail : ∀ H6, Cs [x, bA, qA, wA] H5 H6 → DskO K cD H6 x bA qA wA S.step → S.ok = false → Q (.bl false) H6 := fun H6 s6 d6 ok => by
    obtain ⟨u1, u2, u3, ed⟩ := d5
    refine (q H6 _ (c5L.trans (s6.ch.le le4)) ⟨u1, u2, u3, s6.ch.lst ed ndx⟩ (M9.Tabs.cs hT5 s6) (fun a h => .inl h)).1 ok ⟨⟨bA, qA, wA, kA, uA, rfl, d6, MdO.stp (hm5.ch s6.ch nm nk nu)⟩, ndL, ?_⟩
    rw [step_wr, step_ws]
    exact hwr
  have hwl : S.wr.length ≤ 500 := by
    have := len_putW S.ws []
    rw [← hwr] at this
    have z : ([] : List (Key × V)).length = 0 := rfl
    omega
  have good : ∀ H9 L' S', Cs [x, bA, qA, wA, m, kA, uA] H5 H9 → (∀ b ∈ L', b ∈ [x, bA, qA, wA, m, kA, uA] ∨ H5 b = none) → S.ok = true → Own K cD H9 x m L' S' → S'.fu = S.step.fu → S'.dd = S.step.dd → S'.st = S.step.st → S'.bs.length + S'.ws.length ≤ S.bs.length + S.ws.length + 1 → S'.lg.length + S'.tl.length ≤ S.lg.length + S.tl.length + 4 → Q (.bl true) H9 :=
    fun H9 L' S' s9 hn ok o9 e1 e2 e3 e4 e5 => by
    obtain ⟨u1, u2, u3, ed⟩ := d5
    refine (q H9 L' (c5L.trans (s9.ch.le fun b hb => List.mem_cons_of_mem _ hb)) ⟨u1, u2, u3, s9.ch.lst ed nd⟩ (M9.Tabs.cs hT5 s9) (fun b hb => (hn b hb).imp id fun z o eo => ?_)).2 ok S' o9 e1 e2 e3 e4 e5
    cases o with
    | tbl ps => exact ⟨ps, rfl⟩
    | _ =>
      exfalso
      by_cases zb : b = d
      · rw [zb, ed] at z; cases z
      · have := c5 b _ eo (fun _ z => by cases z) (.inl fun h => zb (List.mem_singleton.mp h))
        rw [z] at this
        cases this
  have inx : ∀ b ∈ [x, qA, wA], b ∈ [x, bA, qA, wA] := fun b hb => by
    simp only [List.mem_cons, List.not_mem_nil, or_false] at hb ⊢
    rcases hb with z | z | z
    · exact .inl z
    · exact .inr (.inr (.inl z))
    · exact .inr (.inr (.inr z))
  have inb : ∀ b ∈ [x, bA], b ∈ [x, bA, qA, wA] := fun b hb => by
    simp only [List.mem_cons, List.not_mem_nil, or_false] at hb ⊢
    rcases hb with z | z
    · exact .inl z
    · exact .inr (.inl z)
  have in1 : ∀ b ∈ [x], b ∈ [x, bA, qA, wA] := fun b hb => by rw [List.mem_singleton.mp hb]; exact List.mem_cons_self
  have in7 : ∀ b ∈ [x, bA, qA, wA], b ∈ [x, bA, qA, wA, m, kA, uA] := fun b hb => by
    rcases List.mem_cons.mp (le4 b hb) with z | z
    · exact absurd hb (z ▸ ndx)
    · exact z
  rcases (by omega : r = 0 ∨ r = 1 ∨ r = 2 ∨ r = 3 ∨ r = 4 ∨ r = 5) with rfl | rfl | rfl | rfl | rfl | rfl
  · walk_at "g"
    refine w_toldV ?_
    walk_at "g"
    refine ⟨f0, _, rfl, v0, ?_⟩
    refine w_lamT ?_
    walk_at "g"
    refine ⟨x, dx, _, rfl, hx, m_none (by decide +kernel), ?_⟩
    walk_at "g"
    refine ⟨x, bA, qA, wA, S, (n : Int), a, xs, rfl, hd5, SqT.of ea5, by omega, by omega, fun z => absurd lx z, fun _ => ⟨fun H6 s6 d6 ok => ?_, fun H6 s6 d6 ok => ?_⟩⟩
    · walk_at "g"
      refine w_eqNS ?_
      walk_at "g"
      intro p hp
      refine ⟨p, _, rfl, .inl (SqL.of upd_same), rfl, rfl, ?_⟩
      rw [show inV (.int 0) [.int 0, .int 5] = true from rfl]
      walk_at "g"
      rw [if_neg Bool.false_ne_true]
      have s6' := s6.le inx
      have d7 := d6.sm (same_new hp (.lst [.int 0, .int 5]))
      have s7 := same_new hp (.lst [.int 0, .int 5])
      generalize upd H6 p (.lst [.int 0, .int 5]) = H7 at s7 d7
      replace s7 := s6.trans (Cs.of s7)
      replace s7 := s7.le inx
      obtain ⟨⟨lA7, tA7, ys7, em7, ml7, mt7, mu7, mp7⟩, mb7⟩ := hm5.ch s7.ch nm nk nu
      have ea7 := s7.ch.tup ea5
      have yl : ys7.length = S.ws.length := Paired.length mp7
      walk_at "g"
      refine ⟨tyL mu7, ?_⟩
      walk_at "g"
      intro z hz
      have s8 := same_new hz (.tup [.int (n : Int), .ref a])
      have ez : upd H7 z (.tup [.int (n : Int), .ref a]) z = some (.tup [.int (n : Int), .ref a]) := upd_same
      generalize upd H7 z (.tup [.int (n : Int), .ref a]) = H8 at s8 ez
      have mu8 := s8 _ _ mu7
      walk_at "g"
      refine w_app mu8 (by rw [List.length_map]; exact Nat.lt_of_le_of_lt (by omega : ys7.length ≤ 500) (by decide)) ?_
      have s9 : Cs [uA] H8 (upd H8 uA (.lst (ys7.map V.ref ++ [.ref z]))) := (Cs.refl _ _).wr mem1 mu8 trivial
      have mu9 : upd H8 uA (.lst (ys7.map V.ref ++ [.ref z])) uA = some (.lst ((ys7 ++ [z]).map V.ref)) := by rw [upd_same, List.map_append]; rfl
      generalize upd H8 uA (.lst (ys7.map V.ref ++ [.ref z])) = H9 at s9 mu9
      have s79 : Cs [uA] H7 H9 := (Cs.of s8).trans s9
      have inu : ∀ {b}, b ∉ [m, kA, uA] → b ∉ [uA] := fun h z => h (by rw [List.mem_singleton.mp z]; simp)
      walk_at "g"
      refine good H9 _ (S.write (n : Int) a) ((s7.le in7).trans (s79.le fun b hb => by rw [List.mem_singleton.mp hb]; simp)) (fun b hb => .inl hb) ok ⟨⟨bA, qA, wA, kA, uA, rfl, d7.ch s79.ch (inu nx') (inu nb') (inu nq') (inu nw'), ⟨⟨lA7, tA7, ys7 ++ [z], s79.ch.dk em7 (fun h => nmu (List.mem_singleton.mp h)), ?_, ?_, mu9, Paired.snoc (mp7.ch s79.ch) (SqT.of (s9.ch.tup ez))⟩, ?_⟩⟩, ndL, ?_⟩ rfl rfl rfl ?_ ?_
      · show SqT K H9 lA7 (S.step.lg.map V.int)
        rw [step_lg]
        exact s79.ch.sqT ml7
      · show SqT K H9 tA7 (S.step.tl.map V.int)
        rw [step_tl]
        exact s79.ch.sqT mt7
      · show H9 kA = some (.dK S.step.bs)
        rw [step_bs]
        exact s79.ch.dk mb7 (fun h => nku (List.mem_singleton.mp h))
      · show putK S.wr (.inl (n : Int)) (.ref a) = putW (S.ws ++ [((n : Int), a)]) []
        rw [putW_snoc, hwr]
      · show S.step.bs.length + (S.ws ++ [((n : Int), a)]).length ≤ _
        rw [step_bs, List.length_append]
        exact Nat.le_refl _
      · show S.step.lg.length + S.step.tl.length ≤ _
        rw [step_lg, step_tl]
        omega
    · refine ⟨true, W.x_DD, fun _ => ?_, fun z => by cases z⟩
      walk_at "g"
      refine w_eqSS ?_
      walk_at "g"
      exact fail H6 (s6.le inx) d6 ok
  · walk_at "g"
    refine w_toldV ?_
    walk_at "g"
    refine ⟨f1, _, rfl, v1, ?_⟩
    refine w_lamT ?_
    walk_at "g"
    refine ⟨x, dx, _, rfl, hx, m_none (by decide +kernel), ?_⟩
    walk_at "g"
    refine ⟨x, bA, qA, wA, S, rfl, hd5, by omega, fun q' w' H6 s6 fq fw nqw6 d6 ok => ?_, fun H6 s6 d6 ok => ?_⟩
    · walk_at "g"
      refine w_eqNS ?_
      walk_at "g"
      intro p hp
      refine ⟨p, _, rfl, .inl (SqL.of upd_same), rfl, rfl, ?_⟩
      rw [show inV (.int 1) [.int 0, .int 5] = false from rfl]
      walk_at "g"
      rw [if_neg Bool.false_ne_true]
      have d7 := d6.sm (same_new hp (.lst [.int 0, .int 5]))
      have s7 := same_new hp (.lst [.int 0, .int 5])
      generalize upd H6 p (.lst [.int 0, .int 5]) = H7 at s7 d7
      replace s7 := s6.trans (Cs.of s7)
      obtain ⟨⟨lA7, tA7, ys7, em7, ml7, mt7, mu7, mp7⟩, mb7⟩ := hm5.ch (s7.le inb).ch nm nk nu
      have yl : ys7.length = S.ws.length := Paired.length mp7
      walk_at "g"
      refine w_forL (SqL.of mu7) (fun i σ Hc => ∃ v9 v10 : Option V, σ = [some (.ref d), some (.ref x), some (.ref m), some (.int 1), some (.int (n : Int)), some (.ref a), some (.ref kA), some (.ref uA), some (.ref D), v9, v10] ∧ Cs [kA] H7 Hc ∧ Hc kA = some (.dK (putW (S.ws.take i) S.bs)))
        ⟨none, none, rfl, Cs.refl _ _, mb7⟩ (fun i σ Hc _ ⟨_, _, _, s8, _⟩ => SqL.of (s8.ch.lst mu7 (fun h => nku (List.mem_singleton.mp h).symm))) ?_ ?_
      · rintro i y σ H8 hi ⟨v9, v10, rfl, s8, ek⟩
        obtain ⟨z, hz, rfl⟩ := map_get hi
        obtain ⟨⟨j, b⟩, hj, gz⟩ := paired_get mp7 hz
        have hlt : i < S.ws.length := (List.getElem?_eq_some_iff.mp hj).1
        refine w_gtupS (s8.ch.sqT gz) rfl ?_
        walk_at "g"
        have hlen := len_putW (S.ws.take i) S.bs
        rw [List.length_take] at hlen
        refine ⟨kA, _, rfl, DPut.k (k := .inl j) ek (Nat.lt_of_le_of_lt (by omega : _ ≤ 500) (by decide)), ?_⟩
        refine ⟨_, _, rfl, s8.wr mem1 ek trivial, ?_⟩
        rw [upd_same, List.take_add_one, hj]
        show some (HO.dK _) = some (HO.dK (putW (S.ws.take i ++ [(j, b)]) S.bs))
        rw [putW_snoc]
      · rintro σ H8 ⟨v9, v10, rfl, s8, ek⟩
        rw [List.length_map, yl, List.take_length] at ek
        have em8 := s8.ch.dk em7 (fun h => nmk (List.mem_singleton.mp h))
        have ink : ∀ {b}, b ∉ [m, kA, uA] → b ∉ [kA] := fun h z => h (by rw [List.mem_singleton.mp z]; simp)
        have nq7 : q' ∉ [m, kA, uA] := fun z => by
          simp only [List.mem_cons, List.not_mem_nil, or_false] at z
          rcases z with z | z | z
          · rw [z, em] at fq; cases fq
          · rw [z, hm5.bs] at fq; cases fq
          · rw [z, mu] at fq; cases fq
        have nw7 : w' ∉ [m, kA, uA] := fun z => by
          simp only [List.mem_cons, List.not_mem_nil, or_false] at z
          rcases z with z | z | z
          · rw [z, em] at fw; cases fw
          · rw [z, hm5.bs] at fw; cases fw
          · rw [z, mu] at fw; cases fw
        have d8 := d7.ch s8.ch (ink nx') (ink nb') (ink nq7) (ink nw7)
        walk_at "g"
        intro u hu
        have s9 := same_new hu (.lst [])
        have eu : upd H8 u (.lst []) u = some (.lst []) := upd_same
        generalize upd H8 u (.lst []) = H9 at s9 eu
        have em9 := s9 _ _ em8
        have ek9 := s9 _ _ ek
        have d9 := d8.sm s9
        walk_at "g"
        refine ⟨m, _, rfl, DPut.k (k := .inr ("waiting" : Str)) em9 (by show 4 < sizeLine; decide), ?_⟩
        rw [mp_waiting]
        have s10 : Cs [m] H9 (upd H9 m (.dK (mdK kA u lA7 tA7))) := (Cs.refl _ _).wr mem1 em9 trivial
        have em10 : upd H9 m (.dK (mdK kA u lA7 tA7)) m = some (.dK (mdK kA u lA7 tA7)) := upd_same
        generalize upd H9 m (.dK (mdK kA u lA7 tA7)) = H10 at s10 em10
        have inm : ∀ {b}, b ∉ [m, kA, uA] → b ∉ [m] := fun h z => h (by rw [List.mem_singleton.mp z]; simp)
        have d10 := d9.ch s10.ch (inm nx') (inm nb') (inm nq7) (inm nw7)
        have s710 := (s8.le (N := [m, kA]) fun b hb => by rw [List.mem_singleton.mp hb]; simp).trans ((Cs.of s9).trans (s10.le fun b hb => by rw [List.mem_singleton.mp hb]; simp))
        obtain ⟨dx9, _, _, zs9, hx9, _, _, hq9, _⟩ := id d8.ex
        have fu5 : ∀ b o, H8 b = some o → u ≠ b := fun b o e z => by rw [z, e] at hu; cases hu
        have fq5 : ∀ b o, H5 b = some o → q' ≠ b := fun b o e z => by rw [z, e] at fq; cases fq
        have fw5 : ∀ b o, H5 b = some o → w' ≠ b := fun b o e z => by rw [z, e] at fw; cases fw
        have s510 : Cs [x, bA, qA, wA, m, kA, uA] H5 H10 := (s7.le fun b hb => in7 b (inb b hb)).trans (s710.le fun b hb => by
          simp only [List.mem_cons, List.not_mem_nil, or_false] at hb ⊢
          rcases hb with z | z
          · exact .inr (.inr (.inr (.inr (.inl z))))
          · exact .inr (.inr (.inr (.inr (.inr (.inl z))))))
        have hu5 : H5 u = none := by
          have k1 := (s7.le (N := [x, bA, kA]) fun b hb => by
            simp only [List.mem_cons, List.not_mem_nil, or_false] at hb ⊢
            rcases hb with z | z
            · exact .inl z
            · exact .inr (.inl z)).trans (s8.le fun b hb => by rw [List.mem_singleton.mp hb]; simp)
          refine k1.free (fun b hb => ?_) hu
          simp only [List.mem_cons, List.not_mem_nil, or_false] at hb
          rcases hb with z | z | z
          · rw [z]; exact ⟨_, hx9⟩
          · rw [z]; exact ⟨_, d8.bs⟩
          · rw [z]; exact ⟨_, ek⟩
        walk_at "g"
        refine good H10 [x, bA, q', w', m, kA, u] S.sync s510 (fun b hb => ?_) ok ⟨⟨bA, q', w', kA, u, rfl, d10, ⟨⟨lA7, tA7, [], em10, ?_, ?_, ?_, .nil⟩, ?_⟩⟩, ?_, rfl⟩ rfl rfl rfl ?_ ?_
        · simp only [List.mem_cons, List.not_mem_nil, or_false] at hb ⊢
          rcases hb with z | z | z | z | z | z | z
          · exact .inl (.inl z)
          · exact .inl (.inr (.inl z))
          · exact .inr (z ▸ fq)
          · exact .inr (z ▸ fw)
          · exact .inl (.inr (.inr (.inr (.inr (.inl z)))))
          · exact .inl (.inr (.inr (.inr (.inr (.inr (.inl z))))))
          · exact .inr (z ▸ hu5)
        · show SqT K H10 lA7 (S.step.lg.map V.int)
          rw [step_lg]
          exact s710.ch.sqT ml7
        · show SqT K H10 tA7 (S.step.tl.map V.int)
          rw [step_tl]
          exact s710.ch.sqT mt7
        · exact s10.ch.lst eu (fun h => fu5 _ _ em8 (List.mem_singleton.mp h))
        · exact s10.ch.dk ek9 (fun h => nmk (List.mem_singleton.mp h).symm)
        · refine nd7n ndL ?_ ?_ nqw6 ?_
          · intro z
            simp only [List.mem_cons, List.not_mem_nil, or_false] at z
            rcases z with z | z | z | z
            · exact fq5 _ _ hx z
            · exact fq5 _ _ hd5.bs z
            · exact fq5 _ _ em z
            · exact fq5 _ _ hm5.bs z
          · intro z
            simp only [List.mem_cons, List.not_mem_nil, or_false] at z
            rcases z with z | z | z | z
            · exact fw5 _ _ hx z
            · exact fw5 _ _ hd5.bs z
            · exact fw5 _ _ em z
            · exact fw5 _ _ hm5.bs z
          · intro z
            simp only [List.mem_cons, List.not_mem_nil, or_false] at z
            rcases z with z | z | z | z | z | z
            · exact fu5 _ _ hx9 z
            · exact fu5 _ _ d8.bs z
            · exact fu5 _ _ hq9 z
            · exact fu5 _ _ d8.wr z
            · exact fu5 _ _ em8 z
            · exact fu5 _ _ ek z
        · show (putW S.ws S.bs).length + ([] : Wq).length ≤ _
          have := len_putW S.ws S.bs
          have z : ([] : Wq).length = 0 := rfl
          omega
        · show S.step.lg.length + S.step.tl.length ≤ _
          rw [step_lg, step_tl]
          omega
    · refine ⟨true, W.x_DD, fun _ => ?_, fun z => by cases z⟩
      walk_at "g"
      refine w_eqSS ?_
      walk_at "g"
      exact fail H6 (s6.le inb) d6 ok
  · walk_at "g"
    refine w_toldV ?_
    walk_at "g"
    refine ⟨f2, _, rfl, v2, ?_⟩
    refine w_lamT ?_
    walk_at "g"
    refine ⟨x, dx, _, rfl, hx, m_none (by decide +kernel), ?_⟩
    walk_at "g"
    refine w_slToZ (n := n) rfl (SqT.of ea5) fun p1 H51 s51 e51 => ?_
    walk_at "g"
    have ltk : (xs.take n).length ≤ n := by rw [List.length_take]; omega
    refine ⟨x, bA, qA, wA, S, p1, xs.take n, rfl, hd5.sm s51, e51, by omega, fun H6 s6 d6 ok => ?_, fun H6 s6 d6 ok => ?_⟩
    · replace s6 := (Cs.of s51).trans s6
      walk_at "g"
      refine w_eqNS ?_
      walk_at "g"
      intro p hp
      refine ⟨p, _, rfl, .inl (SqL.of upd_same), rfl, rfl, ?_⟩
      rw [show inV (.int 2) [.int 0, .int 5] = false from rfl]
      walk_at "g"
      rw [if_neg Bool.false_ne_true]
      have d7 := d6.sm (same_new hp (.lst [.int 0, .int 5]))
      have s7 := same_new hp (.lst [.int 0, .int 5])
      generalize upd H6 p (.lst [.int 0, .int 5]) = H7 at s7 d7
      replace s7 := s6.trans (Cs.of s7)
      obtain ⟨⟨lA7, tA7, ys7, em7, ml7, mt7, mu7, mp7⟩, mb7⟩ := hm5.ch (s7.le in1).ch nm nk nu
      walk_at "g"
      refine ⟨m, _, rfl, dget_s em7 md_tail, ?_⟩
      walk_at "g"
      refine w_slToZ (n := n) rfl (SqT.of (s7.ch.tup ea5)) fun p2 H8 s8 e8 => ?_
      walk_at "g"
      refine w_catInts (sqT_same mt7 s8) e8 (by omega) fun p3 H9 s9 e9 => ?_
      have em9 := s9 _ _ (s8 _ _ em7)
      walk_at "g"
      refine ⟨m, _, rfl, DPut.k (k := .inr ("tail" : Str)) em9 (by show 4 < sizeLine; decide), ?_⟩
      rw [mp_tail]
      have sH10 : Cs [m] H9 (upd H9 m (.dK (mdK kA uA lA7 p3))) := (Cs.refl _ _).wr mem1 em9 trivial
      have emH10 : upd H9 m (.dK (mdK kA uA lA7 p3)) m = some (.dK (mdK kA uA lA7 p3)) := upd_same
      generalize upd H9 m (.dK (mdK kA uA lA7 p3)) = H10 at sH10 emH10
      have sE : Cs [m] H7 H10 := ((Cs.of s8).trans (Cs.of s9)).trans sH10
      have emE := emH10
      have e10 := sH10.ch.sqT e9
      walk_at "g"
      have inm : ∀ {b}, b ∉ [m, kA, uA] → b ∉ [m] := fun h z => h (by rw [List.mem_singleton.mp z]; simp)
      refine good H10 _ { S.step with lg := S.lg, tl := S.tl ++ xs.take n } (((s7.le in1).le in7).trans ((sE).le fun b hb => by rw [List.mem_singleton.mp hb]; simp)) (fun b hb => .inl hb) ok ⟨⟨bA, qA, wA, kA, uA, rfl, d7.ch (sE).ch (inm nx') (inm nb') (inm nq') (inm nw'), ⟨⟨lA7, p3, ys7, emE, sE.ch.sqT ml7, e10, (sE).ch.lst mu7 (fun h => nmu (List.mem_singleton.mp h).symm), ?_⟩, ?_⟩⟩, ndL, ?_⟩ rfl rfl rfl ?_ ?_
      · show Prs K H10 ys7 S.step.ws
        rw [step_ws]
        exact mp7.ch (sE).ch
      · show H10 kA = some (.dK S.step.bs)
        rw [step_bs]
        exact (sE).ch.dk mb7 (fun h => nmk (List.mem_singleton.mp h).symm)
      · show S.step.wr = putW S.step.ws []
        rw [step_wr, step_ws]
        exact hwr
      · show S.step.bs.length + S.step.ws.length ≤ _
        rw [step_bs, step_ws]
        omega
      · show S.lg.length + (S.tl ++ xs.take n).length ≤ _
        rw [List.length_append]
        omega
    · refine ⟨true, W.x_DD, fun _ => ?_, fun z => by cases z⟩
      walk_at "g"
      refine w_eqSS ?_
      walk_at "g"
      exact fail H6 (((Cs.of s51).trans s6).le in1) d6 ok
  · walk_at "g"
    refine w_toldV ?_
    walk_at "g"
    refine ⟨f3, _, rfl, v3, ?_⟩
    refine w_lamT ?_
    walk_at "g"
    refine ⟨x, dx, _, rfl, hx, m_none (by decide +kernel), ?_⟩
    walk_at "g"
    refine ⟨x, bA, qA, wA, S, rfl, hd5, by omega, fun H6 s6 d6 ok => ?_, fun H6 s6 d6 ok => ?_⟩
    · walk_at "g"
      refine w_eqNS ?_
      walk_at "g"
      intro p hp
      refine ⟨p, _, rfl, .inl (SqL.of upd_same), rfl, rfl, ?_⟩
      rw [show inV (.int 3) [.int 0, .int 5] = false from rfl]
      walk_at "g"
      rw [if_neg Bool.false_ne_true]
      have d7 := d6.sm (same_new hp (.lst [.int 0, .int 5]))
      have s7 := same_new hp (.lst [.int 0, .int 5])
      generalize upd H6 p (.lst [.int 0, .int 5]) = H7 at s7 d7
      replace s7 := s6.trans (Cs.of s7)
      obtain ⟨⟨lA7, tA7, ys7, em7, ml7, mt7, mu7, mp7⟩, mb7⟩ := hm5.ch (s7.le in1).ch nm nk nu
      walk_at "g"
      refine ⟨m, _, rfl, dget_s em7 md_log, ?_⟩
      walk_at "g"
      refine ⟨m, _, rfl, dget_s em7 md_tail, ?_⟩
      walk_at "g"
      refine w_catInts ml7 mt7 (by omega) fun p3 H8 s8 e8 => ?_
      walk_at "g"
      intro e he
      have s9 := same_new he (.tup [])
      have e9 : upd H8 e (.tup []) e = some (.tup []) := upd_same
      generalize upd H8 e (.tup []) = H9 at s9 e9
      walk_at "g"
      intro z hz
      have s10 := same_new hz (.tup [.ref p3, .ref e])
      have ez : upd H9 z (.tup [.ref p3, .ref e]) z = some (.tup [.ref p3, .ref e]) := upd_same
      generalize upd H9 z (.tup [.ref p3, .ref e]) = H10 at s10 ez
      have em10 := s10 _ _ (s9 _ _ (s8 _ _ em7))
      have t7 : Cs [m] H7 H10 := ((Cs.of s8).trans (Cs.of s9)).trans (Cs.of s10)
      have eP := sqT_same (sqT_same e8 s9) s10
      have eE := s10 _ _ e9
      walk_at "g"
      refine ⟨m, _, rfl, DPut.k (k := .inr ("log" : Str)) em10 (by show 4 < sizeLine; decide), ?_⟩
      rw [mp_log]
      have sH11 : Cs [m] H10 (upd H10 m (.dK (mdK kA uA p3 tA7))) := (Cs.refl _ _).wr mem1 em10 trivial
      have emH11 : upd H10 m (.dK (mdK kA uA p3 tA7)) m = some (.dK (mdK kA uA p3 tA7)) := upd_same
      generalize upd H10 m (.dK (mdK kA uA p3 tA7)) = H11 at sH11 emH11
      walk_at "g"
      refine ⟨m, _, rfl, DPut.k (k := .inr ("tail" : Str)) emH11 (by show 4 < sizeLine; decide), ?_⟩
      rw [mp_tail]
      have sH12 : Cs [m] H11 (upd H11 m (.dK (mdK kA uA p3 e))) := (Cs.refl _ _).wr mem1 emH11 trivial
      have emH12 : upd H11 m (.dK (mdK kA uA p3 e)) m = some (.dK (mdK kA uA p3 e)) := upd_same
      generalize upd H11 m (.dK (mdK kA uA p3 e)) = H12 at sH12 emH12
      have sE : Cs [m] H7 H12 := (t7.trans sH11).trans sH12
      have emE := emH12
      have eP2 := (sH11.trans sH12).ch.sqT eP
      have eE2 := SqT.of ((sH11.trans sH12).ch.tup eE) (K := K)
      walk_at "g"
      have inm : ∀ {b}, b ∉ [m, kA, uA] → b ∉ [m] := fun h z => h (by rw [List.mem_singleton.mp z]; simp)
      refine good H12 _ { S.step with lg := S.lg ++ S.tl, tl := [] } (((s7.le in1).le in7).trans ((sE).le fun b hb => by rw [List.mem_singleton.mp hb]; simp)) (fun b hb => .inl hb) ok ⟨⟨bA, qA, wA, kA, uA, rfl, d7.ch (sE).ch (inm nx') (inm nb') (inm nq') (inm nw'), ⟨⟨p3, e, ys7, emE, eP2, eE2, (sE).ch.lst mu7 (fun h => nmu (List.mem_singleton.mp h).symm), ?_⟩, ?_⟩⟩, ndL, ?_⟩ rfl rfl rfl ?_ ?_
      · show Prs K H12 ys7 S.step.ws
        rw [step_ws]
        exact mp7.ch (sE).ch
      · show H12 kA = some (.dK S.step.bs)
        rw [step_bs]
        exact (sE).ch.dk mb7 (fun h => nmk (List.mem_singleton.mp h).symm)
      · show S.step.wr = putW S.step.ws []
        rw [step_wr, step_ws]
        exact hwr
      · show S.step.bs.length + S.step.ws.length ≤ _
        rw [step_bs, step_ws]
        omega
      · show (S.lg ++ S.tl).length + ([] : List Int).length ≤ _
        rw [List.length_append]
        have z : ([] : List Int).length = 0 := rfl
        omega
    · refine ⟨true, W.x_DD, fun _ => ?_, fun z => by cases z⟩
      walk_at "g"
      refine w_eqSS ?_
      walk_at "g"
      exact fail H6 (s6.le in1) d6 ok
  · walk_at "g"
    refine w_toldV ?_
    walk_at "g"
    refine ⟨f4, _, rfl, v4, ?_⟩
    refine w_lamT ?_
    walk_at "g"
    refine ⟨x, dx, _, rfl, hx, m_none (by decide +kernel), ?_⟩
    walk_at "g"
    refine ⟨x, bA, qA, wA, S, rfl, hd5, fun H6 s6 d6 ok => ?_, fun H6 s6 d6 ok => ?_⟩
    · walk_at "g"
      refine w_eqNS ?_
      walk_at "g"
      intro p hp
      refine ⟨p, _, rfl, .inl (SqL.of upd_same), rfl, rfl, ?_⟩
      rw [show inV (.int 4) [.int 0, .int 5] = false from rfl]
      walk_at "g"
      rw [if_neg Bool.false_ne_true]
      have d7 := d6.sm (same_new hp (.lst [.int 0, .int 5]))
      have s7 := same_new hp (.lst [.int 0, .int 5])
      generalize upd H6 p (.lst [.int 0, .int 5]) = H7 at s7 d7
      replace s7 := s6.trans (Cs.of s7)
      obtain ⟨⟨lA7, tA7, ys7, em7, ml7, mt7, mu7, mp7⟩, mb7⟩ := hm5.ch (s7.le in1).ch nm nk nu
      walk_at "g"
      intro e' he'
      have s8 := same_new he' (.tup [])
      have e8 : upd H7 e' (.tup []) e' = some (.tup []) := upd_same
      generalize upd H7 e' (.tup []) = H8 at s8 e8
      walk_at "g"
      intro e he
      have s9 := same_new he (.tup [])
      have e9 : upd H8 e (.tup []) e = some (.tup []) := upd_same
      generalize upd H8 e (.tup []) = H9 at s9 e9
      walk_at "g"
      intro z hz
      have s10 := same_new hz (.tup [.ref e', .ref e])
      have ez : upd H9 z (.tup [.ref e', .ref e]) z = some (.tup [.ref e', .ref e]) := upd_same
      generalize upd H9 z (.tup [.ref e', .ref e]) = H10 at s10 ez
      have em10 := s10 _ _ (s9 _ _ (s8 _ _ em7))
      have t7 : Cs [m] H7 H10 := ((Cs.of s8).trans (Cs.of s9)).trans (Cs.of s10)
      have eP := s10 _ _ (s9 _ _ e8)
      have eE := s10 _ _ e9
      walk_at "g"
      refine ⟨m, _, rfl, DPut.k (k := .inr ("log" : Str)) em10 (by show 4 < sizeLine; decide), ?_⟩
      rw [mp_log]
      have sH11 : Cs [m] H10 (upd H10 m (.dK (mdK kA uA e' tA7))) := (Cs.refl _ _).wr mem1 em10 trivial
      have emH11 : upd H10 m (.dK (mdK kA uA e' tA7)) m = some (.dK (mdK kA uA e' tA7)) := upd_same
      generalize upd H10 m (.dK (mdK kA uA e' tA7)) = H11 at sH11 emH11
      walk_at "g"
      refine ⟨m, _, rfl, DPut.k (k := .inr ("tail" : Str)) emH11 (by show 4 < sizeLine; decide), ?_⟩
      rw [mp_tail]
      have sH12 : Cs [m] H11 (upd H11 m (.dK (mdK kA uA e' e))) := (Cs.refl _ _).wr mem1 emH11 trivial
      have emH12 : upd H11 m (.dK (mdK kA uA e' e)) m = some (.dK (mdK kA uA e' e)) := upd_same
      generalize upd H11 m (.dK (mdK kA uA e' e)) = H12 at sH12 emH12
      have sE : Cs [m] H7 H12 := (t7.trans sH11).trans sH12
      have emE := emH12
      have eP2 := SqT.of ((sH11.trans sH12).ch.tup eP) (K := K)
      have eE2 := SqT.of ((sH11.trans sH12).ch.tup eE) (K := K)
      walk_at "g"
      have inm : ∀ {b}, b ∉ [m, kA, uA] → b ∉ [m] := fun h z => h (by rw [List.mem_singleton.mp z]; simp)
      refine good H12 _ { S.step with lg := [], tl := [] } (((s7.le in1).le in7).trans ((sE).le fun b hb => by rw [List.mem_singleton.mp hb]; simp)) (fun b hb => .inl hb) ok ⟨⟨bA, qA, wA, kA, uA, rfl, d7.ch (sE).ch (inm nx') (inm nb') (inm nq') (inm nw'), ⟨⟨e', e, ys7, emE, eP2, eE2, (sE).ch.lst mu7 (fun h => nmu (List.mem_singleton.mp h).symm), ?_⟩, ?_⟩⟩, ndL, ?_⟩ rfl rfl rfl ?_ ?_
      · show Prs K H12 ys7 S.step.ws
        rw [step_ws]
        exact mp7.ch (sE).ch
      · show H12 kA = some (.dK S.step.bs)
        rw [step_bs]
        exact (sE).ch.dk mb7 (fun h => nmk (List.mem_singleton.mp h).symm)
      · show S.step.wr = putW S.step.ws []
        rw [step_wr, step_ws]
        exact hwr
      · show S.step.bs.length + S.step.ws.length ≤ _
        rw [step_bs, step_ws]
        omega
      · show ([] : List Int).length + ([] : List Int).length ≤ _
        exact Nat.zero_le _
    · refine ⟨true, W.x_DD, fun _ => ?_, fun z => by cases z⟩
      walk_at "g"
      refine w_eqSS ?_
      walk_at "g"
      exact fail H6 (s6.le in1) d6 ok
  · walk_at "g"
    refine w_toldV ?_
    walk_at "g"
    refine ⟨f5, _, rfl, v5, ?_⟩
    refine w_lamT ?_
    walk_at "g"
    refine ⟨x, dx, _, rfl, hx, m_none (by decide +kernel), ?_⟩
    walk_at "g"
    refine ⟨x, bA, qA, wA, S, (n : Int), a, xs, rfl, hd5, SqT.of ea5, by omega, by omega, fun z => absurd lx z, fun _ => ⟨fun H6 s6 d6 ok => ?_, fun H6 s6 d6 ok => ?_⟩⟩
    · walk_at "g"
      refine w_eqNS ?_
      walk_at "g"
      intro p hp
      refine ⟨p, _, rfl, .inl (SqL.of upd_same), rfl, rfl, ?_⟩
      rw [show inV (.int 5) [.int 0, .int 5] = true from rfl]
      walk_at "g"
      rw [if_neg Bool.false_ne_true]
      have s6' := s6.le inx
      have d7 := d6.sm (same_new hp (.lst [.int 0, .int 5]))
      have s7 := same_new hp (.lst [.int 0, .int 5])
      generalize upd H6 p (.lst [.int 0, .int 5]) = H7 at s7 d7
      replace s7 := s6.trans (Cs.of s7)
      replace s7 := s7.le inx
      obtain ⟨⟨lA7, tA7, ys7, em7, ml7, mt7, mu7, mp7⟩, mb7⟩ := hm5.ch s7.ch nm nk nu
      have ea7 := s7.ch.tup ea5
      have yl : ys7.length = S.ws.length := Paired.length mp7
      walk_at "g"
      refine ⟨tyL mu7, ?_⟩
      walk_at "g"
      intro z hz
      have s8 := same_new hz (.tup [.int (n : Int), .ref a])
      have ez : upd H7 z (.tup [.int (n : Int), .ref a]) z = some (.tup [.int (n : Int), .ref a]) := upd_same
      generalize upd H7 z (.tup [.int (n : Int), .ref a]) = H8 at s8 ez
      have mu8 := s8 _ _ mu7
      walk_at "g"
      refine w_app mu8 (by rw [List.length_map]; exact Nat.lt_of_le_of_lt (by omega : ys7.length ≤ 500) (by decide)) ?_
      have s9 : Cs [uA] H8 (upd H8 uA (.lst (ys7.map V.ref ++ [.ref z]))) := (Cs.refl _ _).wr mem1 mu8 trivial
      have mu9 : upd H8 uA (.lst (ys7.map V.ref ++ [.ref z])) uA = some (.lst ((ys7 ++ [z]).map V.ref)) := by rw [upd_same, List.map_append]; rfl
      generalize upd H8 uA (.lst (ys7.map V.ref ++ [.ref z])) = H9 at s9 mu9
      have s79 : Cs [uA] H7 H9 := (Cs.of s8).trans s9
      have inu : ∀ {b}, b ∉ [m, kA, uA] → b ∉ [uA] := fun h z => h (by rw [List.mem_singleton.mp z]; simp)
      walk_at "g"
      refine good H9 _ (S.write (n : Int) a) ((s7.le in7).trans (s79.le fun b hb => by rw [List.mem_singleton.mp hb]; simp)) (fun b hb => .inl hb) ok ⟨⟨bA, qA, wA, kA, uA, rfl, d7.ch s79.ch (inu nx') (inu nb') (inu nq') (inu nw'), ⟨⟨lA7, tA7, ys7 ++ [z], s79.ch.dk em7 (fun h => nmu (List.mem_singleton.mp h)), ?_, ?_, mu9, Paired.snoc (mp7.ch s79.ch) (SqT.of (s9.ch.tup ez))⟩, ?_⟩⟩, ndL, ?_⟩ rfl rfl rfl ?_ ?_
      · show SqT K H9 lA7 (S.step.lg.map V.int)
        rw [step_lg]
        exact s79.ch.sqT ml7
      · show SqT K H9 tA7 (S.step.tl.map V.int)
        rw [step_tl]
        exact s79.ch.sqT mt7
      · show H9 kA = some (.dK S.step.bs)
        rw [step_bs]
        exact s79.ch.dk mb7 (fun h => nku (List.mem_singleton.mp h))
      · show putK S.wr (.inl (n : Int)) (.ref a) = putW (S.ws ++ [((n : Int), a)]) []
        rw [putW_snoc, hwr]
      · show S.step.bs.length + (S.ws ++ [((n : Int), a)]).length ≤ _
        rw [step_bs, List.length_append]
        exact Nat.le_refl _
      · show S.step.lg.length + S.step.tl.length ≤ _
        rw [step_lg, step_tl]
        omega
    · refine ⟨true, W.x_DD, fun _ => ?_, fun z => by cases z⟩
      walk_at "g"
      refine w_eqSS ?_
      walk_at "g"
      exact fail H6 (s6.le inx) d6 ok
end
end K09
end

section
-- part K09H
set_option Elab.async false
set_option linter.all false
set_option maxRecDepth 100000
set_option maxHeartbeats 800000
open PySem PySem.Spec PyProof.Rows L2 Fw
local macro_rules | `(tactic| walk_at "e1") => `(tactic| first
  | ((with_reducible refine' w_var ?hv ?_); (case hv => rfl))
  | with_reducible refine w_c ?_
  | with_reducible refine w_op ?_
  | with_reducible refine w_un ?_
  | with_reducible refine w_cons ?_
  | with_reducible refine w_nil ?_
  | with_reducible refine w_cl ?_
  | with_reducible refine w_cb ?_
  | with_reducible refine w_gname ?_
  | with_reducible refine w_gsub ?_
  | with_reducible refine w_test ?_
  | with_reducible refine w_B ?_
  | with_reducible refine w_bl ?_
  | with_reducible refine w_and ?_
  | with_reducible refine w_or ?_
  | with_reducible refine w_not ?_
  | with_reducible refine w_if ?_
  | with_reducible refine w_I0 ?_
  | with_reducible refine Gk.w_rU ?_
  | with_reducible refine Dq.w_orV ?_
  | with_reducible refine Dq.w_js ?_
  | with_reducible refine Dq.w_js0 ?_
  | with_reducible refine Dq.w_fm ?_
  | with_reducible refine Dq.w_andV ?_
  | with_reducible refine Gk.w_iEnum ?_
  | with_reducible refine Dq.w_dget ?_
  | with_reducible refine Dq.w_din ?_
  | with_reducible refine Dq.w_dnotin ?_
  | with_reducible refine Dq.w_dget2 ?_
  | with_reducible refine Dq.w_dnew ?_
  | with_reducible refine Dq.w_fldaug ?_
  | with_reducible refine Dq.w_aSub ?_
  | with_reducible refine Dq.w_aAdd ?_
  | with_reducible refine Dq.w_mkd ?_
  | with_reducible refine Dq.w_notN0 ?_
  | with_reducible refine Dq.w_isN0 ?_
  | with_reducible refine Dq.w_notNR ?_
  | with_reducible refine Dq.w_isNR ?_
  | with_reducible refine Dq.w_notNI ?_
  | with_reducible refine Dq.w_isNI ?_
  | with_reducible refine L2.w_neOs ?_
  | with_reducible refine w_ipI ?_
  | with_reducible refine w_eqS ?_
  | with_reducible refine w_neS ?_
  | with_reducible refine w_eqI ?_
  | with_reducible refine w_neI ?_
  | with_reducible refine w_eqB ?_
  | with_reducible refine w_neB ?_
  | ((with_reducible refine w_eq ?hs ?_); (case hs => rfl))
  | ((with_reducible refine w_ne ?hs ?_); (case hs => rfl))
  | with_reducible refine w_fld ?_
  | with_reducible refine w_bm ?_
  | with_reducible refine w_bm0 ?_
  | with_reducible refine w_sl ?_
  | with_reducible refine w_part ?_
  | with_reducible refine w_partI ?_
  | with_reducible refine w_nopart ?_
  | ((with_reducible refine' w_ixL ?hh ?ha ?_); (case hh => first | assumption | exact upd_same); (case ha => rfl))
  | ((with_reducible refine' w_setLu ?ha ?_); (case ha => rfl))
  | ((with_reducible refine' w_setL ?hh ?ha ?_); (case hh => first | assumption | exact upd_same); (case ha => rfl))
  | with_reducible refine w_iteT ?_
  | with_reducible refine w_iteF ?_
  | with_reducible refine w_lst ?_
  | with_reducible refine w_tup ?_
  | ((with_reducible refine w_new ?hz ?_); (case hz => rfl))
  | with_reducible refine w_lc ?_
  | with_reducible refine w_iL ?_
  | with_reducible refine w_iT ?_
  | with_reducible refine w_iR1 ?_
  | with_reducible refine w_iR2 ?_
  | with_reducible refine w_yes ?_
  | with_reducible refine w_iStr ?_
  | with_reducible exact tyS
  | with_reducible refine And.intro tyS ?_
  | ((with_reducible refine w_find3 ?_); (first | rw [find3_one] | rw [starts3] | skip))
  | ((with_reducible refine w_2s ?_); (try rw [find_one]))
  | ((with_reducible refine w_inS ?_); rw [S_list])
  | ((with_reducible refine w_lenS ?hz ?_); (case hz => first | assumption | omega | decide); rw [SX.S_len])
  | ((with_reducible refine w_addS ?hz ?_); (case hz => first | assumption | omega | decide); rw [vS_cat])
  | with_reducible refine w_mk ?_
  | with_reducible refine w_me ?_
  | with_reducible refine w_sfld ?_
  | ((with_reducible refine' w_gtup ?hh ?hn ?_); (case hh => first | assumption | exact upd_same); (case hn => rfl))
  | with_reducible refine w_gcons ?_
  | with_reducible refine w_gnil ?_
  | with_reducible refine w_repl ?_
  | with_reducible refine w_star ?_
  | with_reducible refine w_revL ?_
  | with_reducible refine w_isiS ?_
  | with_reducible refine w_isiI ?_
  | with_reducible refine w_isiN ?_
  | with_reducible refine w_chain ?_
  | with_reducible refine w_iEnumT ?_
  | with_reducible refine w_iZip3 ?_
  | with_reducible refine w_iZip ?_
  | with_reducible refine w_lenR3 ?_
  | with_reducible refine w_x1i ?_
  | with_reducible refine w_x1b ?_
  | with_reducible refine w_x1s ?_
  | with_reducible refine w_int1i ?_
  | with_reducible refine w_int1b ?_
  | ((with_reducible refine w_mod ?hc ?_); (case hc => omega))
  | ((with_reducible refine w_fdivW ?hc ?hd ?_); (case hc => omega); (case hd => omega))
  | ((with_reducible refine w_mul ?hc ?_); (case hc => first | exact Or.inr ⟨by decide, by decide⟩ | exact Or.inl ⟨by decide, by decide⟩))
  | ((with_reducible refine w_pow ?hc ?_); (case hc => exact ⟨by decide, by decide, by decide⟩)))
local macro_rules | `(tactic| walk_at "f1") => `(tactic| first
  | ((with_reducible refine' K09.g_block_size ?hW ?hK ?hs ?hx ?_); (case hW => assumption); (case hK => rfl); (case hs => rfl); (case hx => first | assumption | exact upd_same))
  | ((with_reducible refine' K09.g_blocks ?hW ?hK ?hs ?hx ?_); (case hW => assumption); (case hK => rfl); (case hs => rfl); (case hx => first | assumption | exact upd_same))
  | ((with_reducible refine' K09.g_log ?hW ?hK ?hs ?hx ?_); (case hW => assumption); (case hK => rfl); (case hs => rfl); (case hx => first | assumption | exact upd_same))
  | ((with_reducible refine' K09.g_waiting ?hW ?hK ?hs ?hx ?_); (case hW => assumption); (case hK => rfl); (case hs => rfl); (case hx => first | assumption | exact upd_same))
  | ((with_reducible refine' K09.g_written ?hW ?hK ?hs ?hx ?_); (case hW => assumption); (case hK => rfl); (case hs => rfl); (case hx => first | assumption | exact upd_same))
  | ((with_reducible refine' K09.g_log_tail ?hW ?hK ?hs ?hx ?_); (case hW => assumption); (case hK => rfl); (case hs => rfl); (case hx => first | assumption | exact upd_same))
  | ((with_reducible refine' K09.g_fuse ?hW ?hK ?hs ?hx ?_); (case hW => assumption); (case hK => rfl); (case hs => rfl); (case hx => first | assumption | exact upd_same))
  | ((with_reducible refine' K09.g_dead ?hW ?hK ?hs ?hx ?_); (case hW => assumption); (case hK => rfl); (case hs => rfl); (case hx => first | assumption | exact upd_same))
  | ((with_reducible refine' K09.g_steps ?hW ?hK ?hs ?hx ?_); (case hW => assumption); (case hK => rfl); (case hs => rfl); (case hx => first | assumption | exact upd_same))
  | walk_at "e1")
local macro_rules | `(tactic| walk_at "s1") => `(tactic| first
  | with_reducible refine w_seq ?_
  | with_reducible refine w_asg ?_
  | with_reducible refine w_ret ?_
  | with_reducible refine w_par ?_
  | with_reducible refine w_drop ?_
  | with_reducible refine w_next ?_
  | with_reducible refine w_ifs ?_
  | ((with_reducible refine' w_aug ?hv ?_); (case hv => rfl))
  | with_reducible refine w_for ?_
  | walk_at "f1"
  | ((with_reducible refine' K09.w_iteDn ?hp ?_); (case hp => decide))
  | ((with_reducible refine' K09.w_iteDy ?hp ?_); (case hp => decide)))
local macro_rules | `(tactic| walk_at "e") => `(tactic| repeat walk_at "e1")
local macro_rules | `(tactic| walk_at "g") => `(tactic| repeat walk_at "s1")

namespace K09
open Dc Gk M9 LamX
theorem w_cut {t : TS} {D : Ends} {σ : L2.St} {H : Hp} (I : L2.St → Hp → Prop) (h1 : ∀ N : L2.St → Hp → Prop, (∀ σ' H', I σ' H' → N σ' H') → t { D with nx := N } σ H) (h2 : ∀ σ' H', I σ' H' → D.nx σ' H') : t D σ H := h1 D.nx h2
theorem w_disp {trs : List (TE × TE)} {σ : L2.St} {H : Hp} {Q : VK} (h : ∀ p, H p = none → tPairs trs σ (upd H p (.dK [])) fun ps H2 => H2 p = some (.dK []) ∧ ∃ kvs : List (Key × V), ps = kvs.map (fun kv => (kV kv.1, kv.2)) ∧ kvs.length ≤ 15 ∧ Q (.ref p) (upd H2 p (.dK (mergeK [] kvs)))) : tDisp trs σ H Q := h
theorem w_pr {tk tv : TE} {r : List (TE × TE)} {σ : L2.St} {H : Hp} {Q : List (V × V) → Hp → Prop} (h : tk σ H fun x H1 => tv σ H1 fun y H2 => tPairs r σ H2 fun ps H3 => Q ((x, y) :: ps) H3) : tPairs ((tk, tv) :: r) σ H Q := h
theorem w_pr0 {σ : L2.St} {H : Hp} {Q : List (V × V) → Hp → Prop} (h : Q [] H) : tPairs [] σ H Q := h
theorem w_lamG {T : List (Addr × Str)} {TT : (XK → Hp → VK → Prop) → Hp → VK → Prop} {t : XK → TE} {σ : L2.St} {H : Hp} {Q : VK} (h : Tabs T H ∧ ∀ H1, ExtN H H1 → Tabs T H1 → TT (fun E H' Q' => t E σ H' Q') H1 Q) : tLam T TT t σ H Q := h
theorem md_merge {kA uA lA tA : Addr} : mergeK [] (mdK kA uA lA tA) = mdK kA uA lA tA := by
  have h1 : putK ([] : List (Key × V)) (.inr ("kept" : Str)) (.ref kA) = [(.inr ("kept" : Str), .ref kA)] := putK_new _ rfl
  have h2 : putK [((.inr ("kept" : Str) : Key), V.ref kA)] (.inr ("waiting" : Str)) (.ref uA) = _ := putK_new _ (val_ng (by decide +kernel))
  have h3 : putK [((.inr ("kept" : Str) : Key), V.ref kA), (.inr ("waiting" : Str), .ref uA)] (.inr ("log" : Str)) (.ref lA) = _ := putK_new _ ((val_ng (by decide +kernel)).trans (val_ng (by decide +kernel)))
  have h4 : putK [((.inr ("kept" : Str) : Key), V.ref kA), (.inr ("waiting" : Str), .ref uA), (.inr ("log" : Str), .ref lA)] (.inr ("tail" : Str)) (.ref tA) = _ := putK_new _ ((val_ng (by decide +kernel)).trans ((val_ng (by decide +kernel)).trans (val_ng (by decide +kernel))))
  show putK (κ := Key) (putK (κ := Key) (putK (κ := Key) (putK (κ := Key) [] (.inr ("kept" : Str)) (.ref kA)) (.inr ("waiting" : Str)) (.ref uA)) (.inr ("log" : Str)) (.ref lA)) (.inr ("tail" : Str)) (.ref tA) = _
  rw [h1, h2]
  show putK (putK [((.inr ("kept" : Str) : Key), V.ref kA), (.inr ("waiting" : Str), .ref uA)] (.inr ("log" : Str)) (.ref lA)) (.inr ("tail" : Str)) (.ref tA) = _
  rw [h3]
  show putK [((.inr ("kept" : Str) : Key), V.ref kA), (.inr ("waiting" : Str), .ref uA), (.inr ("log" : Str), .ref lA)] (.inr ("tail" : Str)) (.ref tA) = _
  rw [h4]
  rfl
def emptyT (K : PySem.W.Frag) (a : Addr) : Bool := match K.lookup a with
  | some ⟨.type c, _, .seq its _, _⟩ => decide (c = "tuple") && decide (its.size = 0)
  | _ => false
theorem emptyT_ok {K : PySem.W.Frag} {a : Addr} (h : emptyT K a = true) (H : Hp) : SqT K H a [] := by
  unfold emptyT at h
  cases q : K.lookup a with
  | none =>
    rw [q] at h
    cases h
  | some o =>
    obtain ⟨oc, od, dt, osl⟩ := o
    rw [q] at h
    cases oc with
    | type c =>
      cases dt with
      | seq its n =>
        have h' : (decide (c = "tuple") && decide (its.size = 0)) = true := h
        obtain ⟨h1, h2⟩ := He.ba h'
        have z : its.size = 0 := of_decide_eq_true h2
        refine .inr ⟨_, its, n, q, congrArg Value.type (of_decide_eq_true h1), rfl, by rw [z]; exact Nat.zero_le _, ?_⟩
        rw [show its.toList = [] from List.eq_nil_of_length_eq_zero (by simpa using z)]
        exact .nil
      | _ => cases h
    | _ => cases dt <;> cases h
structure Good (T : List (Addr × Str)) (p : Addr) (ds : List Addr) (H : Hp) : Prop where
  lst : H p = some (.lst (ds.map V.ref))
  dice : ∀ d ∈ ds, Dice H d
  tab : Tabs T H
theorem Good.ne {T : List (Addr × Str)} {p d : Addr} {ds : List Addr} {H : Hp} (g : Good T p ds H) (hd : d ∈ ds) : p ≠ d := fun n => by
  obtain ⟨x, y, z, e⟩ := g.dice d hd
  have l := g.lst
  rw [n, e] at l
  cases ds with
  | nil => cases hd
  | cons b r => cases l
theorem Good.ch {T : List (Addr × Str)} {M : List Addr} {p : Addr} {ds : List Addr} {H H' : Hp} (g : Good T p ds H) (s : Ch M H H') (np : p ∉ M) (hd : ∀ e ∈ ds, e ∉ M ∨ Dice H' e) (t : Tabs T H') : Good T p ds H' := ⟨s.lst g.lst np, fun e he => (hd e he).elim (fun n => by
  obtain ⟨x, y, z, q⟩ := g.dice e he
  exact ⟨x, y, z, s.lst q n⟩) id, t⟩
theorem Good.sm {T : List (Addr × Str)} {p : Addr} {ds : List Addr} {H H' : Hp} (g : Good T p ds H) (s : Same H H') : Good T p ds H' := g.ch (M := []) (Ch.of s) List.not_mem_nil (fun _ _ => .inl List.not_mem_nil) (g.tab.ext s)
theorem Good.ex {T : List (Addr × Str)} {p : Addr} {ds : List Addr} {H H' : Hp} (g : Good T p ds H) (s : ExtN H H') (t : Tabs T H') : Good T p ds H' := g.ch (M := []) (Ch.ex s) List.not_mem_nil (fun _ _ => .inl List.not_mem_nil) t
theorem Good.kp {T : List (Addr × Str)} {p d : Addr} {ds : List Addr} {H H' : Hp} (g : Good T p ds H) (hd : d ∈ ds) (k : Kp d H H') (h : Dice H' d) : Good T p ds H' :=
  g.ch (Cs.kp k (g.dice d hd)).ch (fun z => g.ne hd (List.mem_singleton.mp z)) (fun e he => by
    by_cases n : e = d
    · exact .inr (n ▸ h)
    · exact .inl fun z => n (List.mem_singleton.mp z)) (M9.Tabs.cs g.tab (Cs.kp k (g.dice d hd)))
/-- foreign to L -/
def For (p : Addr) (ds L : List Addr) : Prop := p ∉ L ∧ ∀ e ∈ ds, e ∉ L
theorem For.nw {p : Addr} {ds L L' : List Addr} {T : List (Addr × Str)} {H : Hp} (h : For p ds L) (g : Good T p ds H) (n : Nw H L L') : For p ds L' := by
  have k : ∀ {e xs}, H e = some (.lst xs) → e ∉ L → e ∉ L' := fun e1 e2 z => (n _ z).elim e2 fun f => by
    obtain ⟨ps, e3⟩ := f _ e1
    cases e3
  exact ⟨k g.lst h.1, fun e he => by
    obtain ⟨x, y, z, q⟩ := g.dice e he
    exact k q (h.2 e he)⟩
structure Run (K : PySem.W.Frag) (C : Addr) (T : List (Addr × Str)) (p : Addr) (ds : List Addr) (H : Hp) (x m : Addr) (S : DS) : Prop where
  ex : ∃ L, Own K C H x m L S ∧ For p ds L
  good : Good T p ds H
theorem Run.ex' {K : PySem.W.Frag} {C : Addr} {T : List (Addr × Str)} {p : Addr} {ds : List Addr} {H H' : Hp} {x m : Addr} {S : DS} (r : Run K C T p ds H x m S) (s : ExtN H H') (t : Tabs T H') : Run K C T p ds H' x m S := by
  obtain ⟨⟨L, o, f⟩, g⟩ := r
  exact ⟨⟨L, o.ch (M := []) (Ch.ex s) (fun _ _ => List.not_mem_nil), f⟩, g.ex s t⟩
theorem Run.sm {K : PySem.W.Frag} {C : Addr} {T : List (Addr × Str)} {p : Addr} {ds : List Addr} {H H' : Hp} {x m : Addr} {S : DS} (r : Run K C T p ds H x m S) (s : Same H H') : Run K C T p ds H' x m S := by
  obtain ⟨⟨L, o, f⟩, g⟩ := r
  exact ⟨⟨L, o.ch (M := []) (Ch.of s) (fun _ _ => List.not_mem_nil), f⟩, g.sm s⟩
theorem Run.kp {K : PySem.W.Frag} {C : Addr} {T : List (Addr × Str)} {p d : Addr} {ds : List Addr} {H H' : Hp} {x m : Addr} {S : DS} (r : Run K C T p ds H x m S) (hd : d ∈ ds) (k : Kp d H H') (h : Dice H' d) : Run K C T p ds H' x m S := by
  obtain ⟨⟨L, o, f⟩, g⟩ := r
  exact ⟨⟨L, o.ch (Cs.kp k (g.dice d hd)).ch (fun b hb z => f.2 d hd (by rw [← List.mem_singleton.mp z]; exact hb)), f⟩, g.kp hd k h⟩
theorem w_neSS {K : PySem.W.Frag} {H : Hp} {Q : VK} (q : Q (.bl false) H) : rNeD K (.str "DiskFault") (.str "DiskFault") H Q :=
  ⟨_, _, .str _, .str _, (Fine.str okDF).shaped (by decide), (Fine.str okDF).shaped (by decide), by
    rw [(Fine.str okDF).2.2]
    exact q⟩
def spLaw (K : PySem.W.Frag) (Pl Pd : Addr) : Sp := fun vs H Q _ => ∃ (a : Addr) (ns : List Int), vs = [.ref a] ∧ SqL K H a (ns.map V.int) ∧ ns.length ≤ 63 ∧ Tabs (TQ Pl Pd) H ∧ ∀ H', Q (.bl true) H'
section
variable {P : Program} {w : World} {K : PySem.W.Frag} {mg : Str → Option Value} {base : Heap} {cDF cD aE : Addr}
theorem ok_law {f c Pl Pd : Addr} {fd : FuncData} (W : Wz K mg cDF cD aE) (F : FunD K "law" "law" (defArgs s_law) (defBody s_law) (defScope s_law) [] [] f fd) (hc : fd.code = .ref c) (TB : TabB base mg c Pl) (nT : Pl ≠ Pd)
    (c__law_roll : Cl P w K mg base 1 "_law_roll" spRoll) (c__law_rounds : Cl P w K mg base 2 "_law_rounds" (spRounds K)) (c__law_deed : Cl P w K mg base 5 "_law_deed" (spDeed K cD (TQ Pl Pd))) (c_Disk1 : Dq.Mcd P w K mg base 1 "Disk" cD (spInit K cD) [.non, .ref aE])
    (c_Disk_arm : Me P w K mg base 1 cD "arm" (spArm K cD)) (c_Disk_read_log : Me P w K mg base 1 cD "read_log" (spRdL K cDF cD)) (c_Disk_sync_log : Me P w K mg base 2 cD "sync_log" (spSyL K cDF cD)) (c_Disk_read_block : Me P w K mg base 1 cD "read_block" (spRead K cDF cD))
    (c_Disk_has_block : Me P w K mg base 1 cD "has_block" (spHas K cD)) (c_Disk_write_block : Me P w K mg base 2 cD "write_block" (spWrite K cDF cD)) (c_Disk_restarted : Me P w K mg base 3 cD "restarted" (spRest K cD)) :
    FnOk P w K mg base (L2.CX P w) 8 f fd ["script"] (spLaw K Pl Pd) := by
  have hTm := tq_l (Pl := Pl) (Pd := Pd)
  have hTu := tq_ul nT
  obtain ⟨oc, od, dV, kV, doc, pm, an, cdv, ct, osl, rfl, lk, hcd, _, _⟩ := F.ex
  obtain rfl : cdv = .ref c := hc
  refine fn_of lk hcd sc_law (fun vs H Q E h => ?_) fun A outer s H vs Q E hr h => ?_
  · obtain ⟨a, ns, rfl, _⟩ := h; rfl
  obtain ⟨a, ns, rfl, hS, h63, hT, q⟩ := h
  refine ⟨_, (pss_cons (ps_for (passes_of rfl) rfl (pi_list (pe_cl c__law_rounds hr (by decide) rfl passL (pa_cons (pv 0) (pa_cons pe_int pa_nil)))) (pg_name (i := 1) sc_law.nd rfl (by first | exact Or.inl rfl | exact Or.inr rfl))
    (pss_cons (ps_asg (pe_tup (pa_cons (Dq.pe_mcd c_Disk1 hr (by decide) rfl passL (pa_cons pe_int pa_nil)) (pa_cons (pe_disp (pps_cons pe_str pe_dnewK (pps_cons pe_str (pe_lst pa_nil) (pps_cons pe_str (pe_tup pa_nil) (pps_cons pe_str (pe_tup pa_nil) pps_nil)))) rfl rfl (fun z => by cases z) (by decide)) pa_nil))) (pg_tup rfl (pgs_cons (pg_name (i := 2) sc_law.nd rfl (Or.inr rfl)) (pgs_cons (pg_name (i := 3) sc_law.nd rfl (Or.inl rfl)) pgs_nil))))
    (pss_cons (ps_par3 (i := 4) (j := 5) (l := 6) (by rfl) sc_law.nd rfl rfl rfl (by decide) (by decide) (by decide) rfl rfl rfl (pa_cons (pe_ix ix_list (pe_lst (pa_cons (pe_cl c__law_roll hr (by decide) rfl passL (pa_cons (pv 1) (pa_cons pe_int pa_nil))) (pa_cons pe_non pa_nil))) (pe_cl c__law_roll hr (by decide) rfl passL (pa_cons (pv 1) (pa_cons pe_int pa_nil))) (fun _ _ => rfl)) (pa_cons (pe_cl c__law_roll hr (by decide) rfl passL (pa_cons (pv 1) (pa_cons pe_int pa_nil))) (pa_cons pe_int pa_nil))) (by rfl))
    (pss_cons (ps_expr (pe_me c_Disk_arm hr (by decide) passL (pv 2) (pa_cons (pv 4) pa_nil)))
    (pss_cons (ps_for (passes_of rfl) rfl (pi_range1 rfl W.n_range (pa_cons (pv 5) pa_nil)) (pg_name (i := 7) sc_law.nd rfl (Or.inl rfl))
    (pss_cons (ps_set (i := 8) sc_law.nd rfl (Or.inl rfl) (pe_cl c__law_deed hr (by decide) rfl passL (pa_cons (pv 1) (pa_cons (pv 2) (pa_cons (pv 3) pa_nil)))))
    (pss_cons (ps_if (pt_cmpR op_ne (pv 8) (pe_or (pe_cmpR op_isN1 (pv 4) pe_non (nomark _)) (pe_one (pe_cmpR op_lt (pv 7) (pv 4) (nomark _)))) (nomark _))
    (pss_one (ps_ret pe_bl))
    pss_nil)
    (pss_cons (ps_set (i := 6) sc_law.nd rfl (Or.inl rfl) (pe_op op_add (pv 6) (pe_callTy call_int1 rfl W.n_int (by decide +kernel) (pa_cons (pv 8) pa_nil))))
    (pss_cons (ps_if (pt_not (pt_val (pv 8)))
    (pss_cons (ps_if (PW.pt (pw_or (pt_cmpR (op_neD (hu64 hr)) (pe_lamT W.d__law_told W.e_DiskFault.og hTm hTu TB rfl (("law" : Str) ++ (".<locals>." : Str)) rfl hr (defScope s_law) rfl (by decide +kernel) rfl (fun _ _ _ _ _ => rfl) rfl (fun A outer s H E f c1 hr => (pe_me0 c_Disk_read_log hr (by decide) passLam (pv 2)))) pe_str (nomark _)) (pw_or1 (pt_cmpR (op_neD (hu64 hr)) (pe_lamT W.d__law_told W.e_DiskFault.og hTm hTu TB rfl (("law" : Str) ++ (".<locals>." : Str)) rfl hr (defScope s_law) rfl (by decide +kernel) rfl (fun _ _ _ _ _ => rfl) rfl (fun A outer s H E f c1 hr => (pe_me0 c_Disk_sync_log hr (by decide) passLam (pv 2)))) pe_str (nomark _)))))
    (pss_one (ps_ret pe_bl))
    pss_nil)
    (pss_one ps_break))
    pss_nil)
    (pss_cons (ps_set (i := 9) sc_law.nd rfl (Or.inl rfl) (pe_callTy Dq.call_dictC rfl W.n_dict (by decide +kernel) (pa_cons (pe_dget (hu_of hr) (pv 3) pe_str (fun _ _ => rfl)) pa_nil)))
    (pss_cons (ps_for (passes_of rfl) rfl (pi_list (pe_dget (hu_of hr) (pv 3) pe_str (fun _ _ => rfl))) (pg_tup rfl (pgs_cons (pg_name (i := 10) sc_law.nd rfl (Or.inl rfl)) (pgs_cons (pg_name (i := 11) sc_law.nd rfl (Or.inl rfl)) pgs_nil)))
    (pss_one (ps_asg (pv 11) (pg_sub (pv 9) (pv 10) (set_dict (hu_of hr))))))
    (pss_cons (ps_for (passes_of rfl) rfl (pi_range1 rfl W.n_range (pa_cons pe_int pa_nil)) (pg_name (i := 12) sc_law.nd rfl (Or.inr rfl))
    (pss_cons (ps_set (i := 13) sc_law.nd rfl (Or.inl rfl) (pe_lamT W.d__law_told W.e_DiskFault.og hTm hTu TB rfl (("law" : Str) ++ (".<locals>." : Str)) rfl hr (defScope s_law) rfl (by decide +kernel) rfl (fun _ _ _ _ _ => rfl) rfl (fun A outer s H E f c1 hr => (pe_me c_Disk_read_block hr (by decide) passLam (pv 2) (pa_cons (pv 12) pa_nil)))))
    (pss_one (ps_if (PW.pt (pw_or (pt_cmpR (op_neD (hu64 hr)) (pv 13) (pe_dget2 (hu_of hr) (pv 9) (pv 12) pe_str ⟨rfl, rfl, rfl, rfl⟩) (nomark _)) (pw_or1 (pt_cmpR op_ne (pe_me c_Disk_has_block hr (by decide) passL (pv 2) (pa_cons (pv 12) pa_nil)) (pe_cmp (pc_din (hu_of hr) (pv 12) (pv 9)) (by with_unfolding_all rfl)) (nomark _)))))
    (pss_one (ps_ret pe_bl))
    pss_nil))))
    (pss_one (ps_if (pt_cmpR (op_neD (hu64 hr)) (pe_me0 c_Disk_read_log hr (by decide) passL (pv 2)) (pe_op op_catA (pe_dget (hu_of hr) (pv 3) pe_str (fun _ _ => rfl)) (pe_dget (hu_of hr) (pv 3) pe_str (fun _ _ => rfl))) (nomark _))
    (pss_one (ps_ret pe_bl))
    pss_nil))))))))))
    (pss_cons (ps_if (PW.pt (pw_or (pt_cmpR op_ne (pe_fld (pv 2) rfl) (pv 6) (nomark _)) (pw_or1 (pt_cmpR (op_neD (hu64 hr)) (pe_lamT W.d__law_told W.e_DiskFault.og hTm hTu TB rfl (("law" : Str) ++ (".<locals>." : Str)) rfl hr (defScope s_law) rfl (by decide +kernel) rfl (fun _ _ _ _ _ => rfl) rfl (fun A outer s H E f c1 hr => (pe_me c_Disk_write_block hr (by decide) passLam (pv 2) (pa_cons pe_int (pa_cons (pe_tup (pa_cons pe_int (pa_cons pe_int pa_nil))) pa_nil))))) pe_str (nomark _)))))
    (pss_one (ps_ret pe_bl))
    pss_nil)
    (pss_cons (ps_par (i := 14) (j := 15) (by rfl) sc_law.nd rfl rfl (by decide) rfl rfl (pa_cons (pe_lc (own := [("k", 16)]) rfl sc_law.nd (pi_range1 rfl W.n_range (pa_cons (pe_cl c__law_roll hr (by decide) rfl passL (pa_cons (pv 1) (pa_cons pe_int pa_nil))) pa_nil)) (blkOk_by (own := [("k", 16)]) (N := ["script", "dice", "disk", "model", "fuse", "many", "steps", "step", "good", "seen", "one", "data", "number", "told_now", "choices", "held", "k", "found", "due", "place", "choice"]) (sc := defScope s_law) (by decide +kernel)) (fun _ _ _ _ _ => (pg_name (i := 16) sc_law.nd rfl (Or.inl rfl))) (fun _ _ _ _ _ => pts_nil) (fun _ _ _ _ _ => (pe_cl c__law_roll hr (by decide) rfl passL (pa_cons (pv 1) (pa_cons pe_int pa_nil))))) (pa_cons (pe_cl c__law_roll hr (by decide) rfl passL (pa_cons (pv 1) (pa_cons pe_int pa_nil))) pa_nil)) (by rfl))
    (pss_cons (ps_par (i := 17) (j := 18) (by rfl) sc_law.nd rfl rfl (by decide) rfl rfl (pa_cons (pe_me c_Disk_restarted hr (by decide) passL (pv 2) (pa_cons (pv 14) (pa_cons (pv 15) pa_nil))) (pa_cons (pe_callTy Dq.call_dictC rfl W.n_dict (by decide +kernel) (pa_cons (pe_dget (hu_of hr) (pv 3) pe_str (fun _ _ => rfl)) pa_nil)) pa_nil)) (by rfl))
    (pss_cons (ps_for (passes_of rfl) rfl (pi_enum rfl W.n_enumerate (pa_cons (pe_dget (hu_of hr) (pv 3) pe_str (fun _ _ => rfl)) pa_nil)) (pg_tup rfl (pgs_cons (pg_name (i := 19) sc_law.nd rfl (Or.inl rfl)) (pgs_cons (pg_tup rfl (pgs_cons (pg_name (i := 12) sc_law.nd rfl (Or.inr rfl)) (pgs_cons (pg_name (i := 11) sc_law.nd rfl (Or.inl rfl)) pgs_nil))) pgs_nil)))
    (pss_cons (ps_set (i := 20) sc_law.nd rfl (Or.inl rfl) (pe_ifExp (pt_cmpR op_lt (pv 19) (pe_callB call_len_seq rfl W.n_len PySem.boot_len (pa_cons (pv 14) pa_nil)) (nomark _)) (pe_ix ix_list (pv 14) (pv 19) (fun _ _ => rfl)) pe_int))
    (pss_cons (ps_if (pt_cmpR op_eq (pv 20) pe_int (nomark _))
    (pss_one (ps_asg (pv 11) (pg_sub (pv 18) (pv 12) (set_dict (hu_of hr)))))
    pss_nil)
    (pss_one (ps_if (pt_cmpR op_eq (pv 20) pe_int (nomark _))
    (pss_one (ps_asg (pe_op op_catA (pe_slice sl_tupA (pv 11) po_none (po_some pe_int)) (pe_slice sl_tupA (pe_dget2 (hu_of hr) (pv 18) (pv 12) (pe_op op_repA (pe_tup (pa_cons pe_int pa_nil)) pe_int) ⟨rfl, rfl, rfl, rfl⟩) (po_some pe_int) po_none)) (pg_sub (pv 18) (pv 12) (set_dict (hu_of hr)))))
    pss_nil)))))
    (pss_cons (ps_if (PW.pt (pw_or (pt_cmpR (Dq.op_ne_dictV (hu64 hr)) (pe_fld (pv 17) rfl) (pv 18) (nomark _)) (pw_or (pt_cmpR (op_neD (hu64 hr)) (pe_me0 c_Disk_read_log hr (by decide) passL (pv 17)) (pe_op op_catA (pe_dget (hu_of hr) (pv 3) pe_str (fun _ _ => rfl)) (pe_slice sl_tupA (pe_dget (hu_of hr) (pv 3) pe_str (fun _ _ => rfl)) po_none (po_some (pv 15)))) (nomark _)) (pw_or1 (pt_cmpR op_ne (pe_fld (pv 17) rfl) pe_int (nomark _))))))
    (pss_one (ps_ret pe_bl))
    pss_nil)
    (pss_one (ps_if (PW.pt (pw_or (pt_cmpR (op_neD (hu64 hr)) (pe_fld (pv 17) rfl) (pe_me0 c_Disk_read_log hr (by decide) passL (pv 17)) (nomark _)) (pw_or (pt_cmpR (op_neD (hu64 hr)) (pe_fld (pv 17) rfl) (pe_lst pa_nil) (nomark _)) (pw_or1 (pt_cmpR op_notN1 (pe_fld (pv 17) rfl) pe_non (nomark _))))))
    (pss_one (ps_ret pe_bl))
    pss_nil))))))))))))
    (pss_one (ps_ret pe_bl))), ?_⟩
  walk_at "g"
  refine ⟨a, ns, 1, rfl, hS, h63, fun p H1 dcs s1 fp ep hds hl => ?_⟩
  refine w_forL (SqL.of ep) (fun i σ Hc => Good (TQ Pl Pd) p dcs Hc ∧ ∃ v1 v2 v3 v4 v5 v6 v7 v8 v9 v10 v11 v12 v13 v14 v15 v16 v17 v18 v19 v20 : Option V, σ = [some (.ref a), v1, v2, v3, v4, v5, v6, v7, v8, v9, v10, v11, v12, v13, v14, v15, v16, v17, v18, v19, v20])
    ⟨⟨ep, fun d hd => (hds d hd).1, hT.ext s1⟩, none, none, none, none, none, none, none, none, none, none, none, none, none, none, none, none, none, none, none, none, rfl⟩ (fun i σ Hc _ h => SqL.of h.1.lst) ?_ ?_
  · rintro i y σ H2 hi ⟨g, v1, v2, v3, v4, v5, v6, v7, v8, v9, v10, v11, v12, v13, v14, v15, v16, v17, v18, v19, v20, rfl⟩
    obtain ⟨d, hd, rfl⟩ : ∃ d ∈ dcs, y = V.ref d := by
      obtain ⟨d, e1, e2⟩ := map_get hi
      exact ⟨d, List.mem_of_getElem? e1, e2⟩
    walk_at "g"
    intro x dx hx hdx ne
    have sx : Same H2 (upd (upd H2 dx (.own x)) x (.ins cD dx [])) := (same_new hdx _).trans (same_new (by rw [upd_ne ne.symm]; exact hx) _)
    refine ⟨x, dx, aE, [], .non, [], rfl, upd_same, W.k_e _, .inl ⟨rfl, rfl⟩, fun bA qA wA H3 s3 f1 f2 f3 n1 n2 n3 d3 => ⟨rfl, ?_⟩⟩
    have ux : ∀ {b}, (upd (upd H2 dx (.own x)) x (.ins cD dx [])) b = none → x ≠ b := fun h z => by rw [← z, upd_same] at h; cases h
    have s23 : Same H2 H3 := fun b o e => s3 b o (sx b o e) (.inl fun z => by
      rw [List.mem_singleton.mp z, hx] at e
      cases e)
    have fr2 : ∀ {b}, (upd (upd H2 dx (.own x)) x (.ins cD dx [])) b = none → H2 b = none := fun {b} h => by
      cases e : H2 b with
      | none => rfl
      | some o => rw [sx b o e] at h; cases h
    walk_at "g"
    refine w_disp fun m hm => ?_
    have s4 := same_new hm (.dK [])
    have em : upd H3 m (.dK []) m = some (.dK []) := upd_same
    generalize upd H3 m (.dK []) = H4 at s4 em
    refine w_pr ?_
    walk_at "g"
    intro kA hk
    have s5 := same_new hk (.dK [])
    have ek : upd H4 kA (.dK []) kA = some (.dK []) := upd_same
    generalize upd H4 kA (.dK []) = H5 at s5 ek
    refine w_pr ?_
    walk_at "g"
    intro uA hu
    have s6 := same_new hu (.lst [])
    have eu : upd H5 uA (.lst []) uA = some (.lst []) := upd_same
    generalize upd H5 uA (.lst []) = H6 at s6 eu
    refine w_pr ?_
    walk_at "g"
    intro lA hl'
    have s7 := same_new hl' (.tup [])
    have el : upd H6 lA (.tup []) lA = some (.tup []) := upd_same
    generalize upd H6 lA (.tup []) = H7 at s7 el
    refine w_pr ?_
    walk_at "g"
    intro tA ht'
    have s8 := same_new ht' (.tup [])
    have et : upd H7 tA (.tup []) tA = some (.tup []) := upd_same
    generalize upd H7 tA (.tup []) = H8 at s8 et
    refine w_pr0 ⟨s8 _ _ (s7 _ _ (s6 _ _ (s5 _ _ em))), mdK kA uA lA tA, rfl, by show 4 ≤ 15; decide, ?_⟩
    rw [md_merge]
    have em8 := s8 _ _ (s7 _ _ (s6 _ _ (s5 _ _ em)))
    have s48 : Same H4 H8 := ((s5.trans s6).trans s7).trans s8
    have s9 : Cs [m] H8 (upd H8 m (.dK (mdK kA uA lA tA))) := (Cs.refl _ _).wr mem1 em8 trivial
    have em9 : upd H8 m (.dK (mdK kA uA lA tA)) m = some (.dK (mdK kA uA lA tA)) := upd_same
    generalize upd H8 m (.dK (mdK kA uA lA tA)) = H9 at s9 em9
    obtain ⟨dx3, l3, t3, zs3, hx3, _, _, hq3, _⟩ := id d3.ex
    have fm : ∀ {b o}, H3 b = some o → b ≠ m := fun e => ne_of_none e hm
    have fk : ∀ {b o}, H4 b = some o → b ≠ kA := fun e => ne_of_none e hk
    have fu' : ∀ {b o}, H5 b = some o → b ≠ uA := fun e => ne_of_none e hu
    have nd7' : [x, bA, qA, wA, m, kA, uA].Nodup := by
      simp only [List.nodup_cons, List.mem_cons, List.not_mem_nil, or_false, not_or, not_false_eq_true, List.nodup_nil, and_true]
      exact ⟨⟨ux f1, ux f2, ux f3, fm hx3, fk (s4 _ _ hx3), fu' (s5 _ _ (s4 _ _ hx3))⟩, ⟨n1, n3, fm d3.bs, fk (s4 _ _ d3.bs), fu' (s5 _ _ (s4 _ _ d3.bs))⟩, ⟨n2, fm hq3, fk (s4 _ _ hq3), fu' (s5 _ _ (s4 _ _ hq3))⟩, ⟨fm d3.wr, fk (s4 _ _ d3.wr), fu' (s5 _ _ (s4 _ _ d3.wr))⟩, ⟨fk em, fu' (s5 _ _ em)⟩, fu' ek⟩
    have c39 : Cs [m] H3 H9 := ((Cs.of s4).trans (Cs.of s48)).trans s9
    have nm1 : ∀ {b}, b ≠ m → b ∉ [m] := fun h z => h (List.mem_singleton.mp z)
    have own9 : Own K cD H9 x m [x, bA, qA, wA, m, kA, uA] ⟨[], [], [], [], [], none, false, 0⟩ := ⟨⟨bA, qA, wA, kA, uA, rfl, d3.ch c39.ch (nm1 (fm hx3)) (nm1 (fm d3.bs)) (nm1 (fm hq3)) (nm1 (fm d3.wr)),
      ⟨⟨lA, tA, [], em9, SqT.of (s9.ch.tup (s8 _ _ el)), SqT.of (s9.ch.tup et), s9.ch.lst (s8 _ _ (s7 _ _ eu)) (nm1 (fu' (s5 _ _ em)).symm), .nil⟩, s9.ch.dk (s8 _ _ (s7 _ _ (s6 _ _ ek))) (nm1 (fk em).symm)⟩⟩, nd7', rfl⟩
    have hm2 : H2 m = none := by
      cases e : H2 m with
      | none => rfl
      | some o => rw [s23 _ _ e] at hm; cases hm
    have c29 : Same H2 H9 := fun b o e => c39 b o (s23 b o e) (.inl fun z => by
      rw [List.mem_singleton.mp z, hm2] at e
      cases e)
    have hk2 : H2 kA = none := by
      cases e : H2 kA with
      | none => rfl
      | some o => rw [s4 _ _ (s23 _ _ e)] at hk; cases hk
    have hu2 : H2 uA = none := by
      cases e : H2 uA with
      | none => rfl
      | some o => rw [s5 _ _ (s4 _ _ (s23 _ _ e))] at hu; cases hu
    have frL : ∀ {e o}, H2 e = some o → e ∉ [x, bA, qA, wA, m, kA, uA] := fun {e o} h z => by
      simp only [List.mem_cons, List.not_mem_nil, or_false] at z
      rcases z with z | z | z | z | z | z | z
      · rw [z, hx] at h; cases h
      · rw [z, fr2 f1] at h; cases h
      · rw [z, fr2 f2] at h; cases h
      · rw [z, fr2 f3] at h; cases h
      · rw [z, hm2] at h; cases h
      · rw [z, hk2] at h; cases h
      · rw [z, hu2] at h; cases h
    have hfor : For p dcs [x, bA, qA, wA, m, kA, uA] := ⟨frL g.lst, fun e he => by
      obtain ⟨u1, u2, u3, z⟩ := g.dice e he
      exact frL z⟩
    have g9 := g.sm c29
    generalize [x, bA, qA, wA, m, kA, uA] = L at own9 hfor
    clear s1 sx s23 fr2 ux s4 em s5 ek s6 eu s7 el s8 et em8 s48 s9 em9 hx3 hq3 fm fk fu' nd7' c39 nm1 hm2 c29 hk2 hu2 frL hx hdx ne hm hk hu hl' ht' f1 f2 f3 n1 n2 n3 d3 g
    walk_at "g"
    intro z hz
    have s10 := same_new hz (.tup [.ref x, .ref m])
    have ez : upd H9 z (.tup [.ref x, .ref m]) z = some (.tup [.ref x, .ref m]) := upd_same
    generalize upd H9 z (.tup [.ref x, .ref m]) = H10 at s10 ez
    have own10 := own9.ch (M := []) (Ch.of s10) (fun _ _ => List.not_mem_nil)
    replace g9 := g9.sm s10
    walk_at "g"
    refine w_par3 ?_
    walk_at "g"
    refine w_roll (by decide) (by decide) (Kp.refl d H10) (g9.dice d hd) fun r H11 r0 r1 k11 _ d11 => ?_
    have nM : ∀ {L : List Addr}, For p dcs L → ∀ b ∈ L, b ∉ [d] := fun h b hb z => h.2 d hd (by rw [← List.mem_singleton.mp z]; exact hb)
    have own11 := own10.ch (Cs.kp k11 (g9.dice d hd)).ch (nM hfor)
    replace g9 := g9.kp hd k11 d11
    clear own9 own10 s10 k11 d11 ez
    walk_at "g"
    intro l hl2
    have s12 := same_new hl2 (.lst [.int r, .non])
    have e12 : upd H11 l (.lst [.int r, .non]) l = some (.lst [.int r, .non]) := upd_same
    generalize upd H11 l (.lst [.int r, .non]) = H12 at s12 e12
    have own12 := own11.ch (M := []) (Ch.of s12) (fun _ _ => List.not_mem_nil)
    replace g9 := g9.sm s12
    have nld : l ≠ d := by
      obtain ⟨u1, u2, u3, ed⟩ := g9.dice d hd
      intro z
      rw [z, ed] at e12
      cases e12
    walk_at "g"
    refine w_roll (by decide) (by decide) (Kp.refl d H12) (g9.dice d hd) fun r2 H13 r20 r21 k13 _ d13 => ?_
    have own13 := own12.ch (Cs.kp k13 (g9.dice d hd)).ch (nM hfor)
    replace g9 := g9.kp hd k13 d13
    have e13 := k13 _ _ nld e12
    obtain ⟨fu, hfu, hf0⟩ : ∃ fu : Option Int, atI [V.int r, V.non] r2 = some (fuV fu) ∧ ∀ g, fu = some g → 0 ≤ g := by
      rcases (by omega : r2 = 0 ∨ r2 = 1) with rfl | rfl
      · exact ⟨some r, rfl, fun g e => by cases e; exact r0⟩
      · exact ⟨none, rfl, fun g e => by cases e⟩
    walk_at "g"
    refine w_ixL e13 hfu ?_
    walk_at "g"
    refine w_roll (by decide) (by decide) (Kp.refl d H13) (g9.dice d hd) fun mn H14 m0 m1 k14 _ d14 => ?_
    have own14 := own13.ch (Cs.kp k14 (g9.dice d hd)).ch (nM hfor)
    replace g9 := g9.kp hd k14 d14
    clear own11 own12 own13 s12 e12 e13 k13 k14 d13 d14 hfu r20 r21 r0 r1
    walk_at "g"
    refine ⟨_, _, _, rfl, ?_⟩
    walk_at "g"
    obtain ⟨⟨bA, qA, wA, kA, uA, rfl, dk14, md14⟩, ndL, hwr⟩ := own14
    obtain ⟨dx, lA, tA, zs, hx, h2, h3, h4, h5⟩ := id dk14.ex
    refine ⟨x, dx, _, rfl, hx, m_none (by decide +kernel), ?_⟩
    walk_at "g"
    refine ⟨x, bA, qA, wA, _, fu, rfl, dk14, fun H15 s15 d15 => ?_⟩
    obtain ⟨⟨nm, nk, nu⟩, ⟨nx', nb', nq', nw'⟩, nmk, nmu, nku⟩ := nd7 ndL
    have inx : ∀ {b}, b ∉ [x, bA, qA, wA] → b ∉ [x] := fun h z => h (by rw [List.mem_singleton.mp z]; simp)
    have run : Run K cD (TQ Pl Pd) p dcs H15 x m ⟨[], [], [], [], [], fu, false, 0⟩ := by
      refine ⟨⟨_, ⟨⟨bA, qA, wA, kA, uA, rfl, d15, ?_⟩, ndL, rfl⟩, hfor⟩, g9.ch s15.ch (fun z => hfor.1 (by rw [List.mem_singleton.mp z]; simp)) (fun e he => .inl fun z => hfor.2 e he (by rw [List.mem_singleton.mp z]; simp)) (M9.Tabs.cs g9.tab s15)⟩
      obtain ⟨⟨l1, t1, ys, e1, e2, e3, e4, e5⟩, e6⟩ := md14.ch s15.ch (inx nm) (inx nk) (inx nu)
      exact ⟨⟨l1, t1, ys, e1, e2, e3, e4, e5⟩, e6⟩
    clear d15 s15 h2 h3 h4 h5 hx dk14 md14 ndL hwr g9 nm nk nu nx' nb' nq' nw' nmk nmu nku inx hfor nld hl2 hz
    iterate 1 walk_at "s1"
    refine w_cut (fun σ' H' => ∃ (S : DS) (v7 v8 v9 v10 v11 v12 v13 v14 v15 v16 v17 v18 v19 v20 : Option V), σ' = [some (.ref a), some (.ref d), some (.ref x), some (.ref m), some (fuV fu), some (.int mn), some (.int S.st), v7, v8, v9, v10, v11, v12, v13, v14, v15, v16, v17, v18, v19, v20] ∧ Run K cD (TQ Pl Pd) p dcs H' x m S ∧ S.bs.length + S.ws.length ≤ 100 ∧ S.lg.length + S.tl.length ≤ 400) (fun N hN => ?_) ?_
    · walk_at "g"
      refine w_forRp ⟨m0, by omega⟩ (fun j σ' H' => ∃ (S : DS) (v7 v8 v9 v10 v11 v12 v13 v14 v15 v16 v17 v18 v19 v20 : Option V), σ' = [some (.ref a), some (.ref d), some (.ref x), some (.ref m), some (fuV fu), some (.int mn), some (.int S.st), v7, v8, v9, v10, v11, v12, v13, v14, v15, v16, v17, v18, v19, v20] ∧ Run K cD (TQ Pl Pd) p dcs H' x m S ∧ S.bs.length + S.ws.length ≤ j ∧ S.lg.length + S.tl.length ≤ 4 * j ∧
          S.st = (j : Int) ∧ S.dd = false ∧ S.fu = fu.map (· - (j : Int)) ∧ ∀ f, fu = some f → (j : Int) ≤ f)
        ⟨⟨[], [], [], [], [], fu, false, 0⟩, _, _, _, _, _, _, _, _, _, _, _, _, _, _, rfl, run, Nat.le_refl _, Nat.le_refl _, rfl, rfl, by cases fu <;> simp, fun f e => hf0 f e⟩ ?_ ?_
      · rintro j σ2 H16 hj ⟨S, v7, v8, v9, v10, v11, v12, v13, v14, v15, v16, v17, v18, v19, v20, rfl, run, b1, b2, hst, hdd, hfu, hle⟩
        have hj30 : j < 31 := by omega
        obtain ⟨⟨L, own, hfor⟩, g⟩ := id run
        walk_at "g"
        refine ⟨d, x, m, L, S, rfl, own, g.dice d hd, hfor.2 d hd, g.tab, by omega, by omega, fun H17 L' c17 d17 t17 nw => ⟨fun ok o17 => ?_, fun ok S' o17 e1 e2 e3 e4 e5 => ?_⟩⟩
        · have run17 : Run K cD (TQ Pl Pd) p dcs H17 x m S.step := ⟨⟨L', o17, hfor.nw g nw⟩, g.ch c17 (fun z => (List.mem_cons.mp z).elim (g.ne hd) hfor.1) (fun e he => by
            by_cases n : e = d
            · exact .inr (n ▸ d17)
            · exact .inl fun z => (List.mem_cons.mp z).elim n (hfor.2 e he)) t17⟩
          have hf : fu = some (j : Int) := by
            unfold DS.ok at ok
            rw [hdd, Bool.not_false, Bool.true_and, Bool.not_eq_false', decide_eq_true_eq, hfu] at ok
            cases fu with
            | none => cases ok
            | some f =>
              have z : f - (j : Int) = 0 := Option.some.inj ok
              rw [show f = (j : Int) by omega]
          have hsd : S.step.dd = true := by
            unfold DS.step
            rw [hfu, hf, if_neg (by rw [hdd]; exact Bool.false_ne_true), if_pos (by simp)]
          have hss : S.step.st = S.st := by
            unfold DS.step
            rw [hfu, hf, if_neg (by rw [hdd]; exact Bool.false_ne_true), if_pos (by simp)]
          have h2s : S.step.ok = false := by
            unfold DS.ok
            rw [hsd]
            rfl
          rw [hf, show fuV (some (j : Int)) = V.int (j : Int) from rfl]
          walk_at "g"
          rw [decide_eq_false (show ¬ 0 + (j : Int) < (j : Int) by omega), show (false != false) = false from rfl]
          walk_at "g"
          rw [Bool.not_false]
          walk_at "g"
          refine w_lamG ⟨run17.good.tab, fun H18 x18 t18 => ?_⟩
          have run18 := run17.ex' x18 t18
          obtain ⟨⟨L18, ⟨⟨bA, qA, wA, kA, uA, rfl, dk18, md18⟩, ndL, hwr⟩, hfor18⟩, g18⟩ := id run18
          obtain ⟨dx, lA, tA, zs, hx, h2, h3, h4, h5⟩ := id dk18.ex
          refine w_lamT ?_
          walk_at "g"
          refine ⟨x, dx, _, rfl, hx, m_none (by decide +kernel), ?_⟩
          walk_at "g"
          have hlen : S.step.lg.length + S.step.tl.length ≤ 2000 := by rw [step_lg, step_tl]; omega
          refine ⟨x, bA, qA, wA, S.step, rfl, dk18, hlen, fun _ H19 s19 => ⟨true, W.x_DD, fun _ => ?_, fun h => absurd h (by decide)⟩, fun z => by rw [hsd] at z; cases z⟩
          have run19 := run18.sm s19
          walk_at "g"
          refine w_neSS ?_
          walk_at "g"
          refine w_lamG ⟨run19.good.tab, fun H20 x20 t20 => ?_⟩
          have run20 := run19.ex' x20 t20
          obtain ⟨⟨L20, ⟨⟨bA', qA', wA', kA', uA', rfl, dk20, md20⟩, ndL20, hwr20⟩, hfor20⟩, g20⟩ := id run20
          obtain ⟨dx', lA', tA', zs', hx', h2', h3', h4', h5'⟩ := id dk20.ex
          refine w_lamT ?_
          walk_at "g"
          refine ⟨x, dx', _, rfl, hx', m_none (by decide +kernel), ?_⟩
          walk_at "g"
          refine ⟨x, bA', qA', wA', S.step, rfl, dk20, hlen, And.intro (fun H21 s21 d21 ok2 => by rw [h2s] at ok2; cases ok2) (fun H21 s21 d21 _ => ⟨true, W.x_DD, fun _ => ?_, fun h => absurd h (by decide)⟩)⟩
          walk_at "g"
          refine w_neSS ?_
          walk_at "g"
          with_reducible refine w_break ?_
          have es : S.step.step = S.step := by
            rw [show S.step.step = if S.step.dd = true then S.step else if S.step.fu = some 0 then { S.step with dd := true } else { S.step with fu := S.step.fu.map (· - 1), st := S.step.st + 1 } from rfl, if_pos hsd]
          rw [es] at d21
          obtain ⟨⟨nm, nk, nu⟩, _, _⟩ := nd7 ndL20
          have inx : ∀ {b}, b ∉ [x, bA', qA', wA'] → b ∉ [x] := fun h z => h (by rw [List.mem_singleton.mp z]; simp)
          refine hN _ _ ⟨S.step, some (.int (0 + (j : Int))), some (.bl false), v9, v10, v11, v12, v13, v14, v15, v16, v17, v18, v19, v20, ?_, ⟨⟨_, ⟨⟨bA', qA', wA', kA', uA', rfl, d21, md20.ch s21.ch (inx nm) (inx nk) (inx nu)⟩, ndL20, hwr20⟩, hfor20⟩, g20.ch s21.ch (fun z => hfor20.1 (by rw [List.mem_singleton.mp z]; simp)) (fun e he => .inl fun z => hfor20.2 e he (by rw [List.mem_singleton.mp z]; simp)) (M9.Tabs.cs g20.tab s21)⟩, ?_, ?_⟩
          · rw [hss, hf, show S.st + (if false = true then 1 else 0) = S.st by rw [if_neg Bool.false_ne_true, Int.add_zero]]
            rfl
          · rw [step_bs, step_ws]; omega
          · rw [step_lg, step_tl]; omega
        · have hokd : S.step = { S with fu := S.fu.map (· - 1), st := S.st + 1 } := by
            unfold DS.ok at ok
            rw [hdd, Bool.not_false, Bool.true_and, Bool.not_eq_true', decide_eq_false_iff_not] at ok
            unfold DS.step
            rw [if_neg (by rw [hdd]; exact Bool.false_ne_true), if_neg ok]
          have run17 : Run K cD (TQ Pl Pd) p dcs H17 x m S' := ⟨⟨L', o17, hfor.nw g nw⟩, g.ch c17 (fun z => (List.mem_cons.mp z).elim (g.ne hd) hfor.1) (fun e he => by
            by_cases n : e = d
            · exact .inr (n ▸ d17)
            · exact .inl fun z => (List.mem_cons.mp z).elim n (hfor.2 e he)) t17⟩
          have hf1 : ∀ f, fu = some f → (j : Int) < f := fun f e => by
            have h1 := hle f e
            unfold DS.ok at ok
            rw [hdd, Bool.not_false, Bool.true_and, Bool.not_eq_true', decide_eq_false_iff_not, hfu, e] at ok
            have h3 : f - (j : Int) ≠ 0 := fun z => ok (congrArg some z)
            omega
          have hf2 : ∀ f, fu = some f → ((j + 1 : Nat) : Int) ≤ f := fun f e => by have := hf1 f e; omega
          rw [hokd] at e1 e2 e3
          replace e1 : S'.fu = S.fu.map (· - 1) := e1
          replace e2 : S'.dd = false := e2.trans hdd
          replace e3 : S'.st = (j : Int) + 1 := by rw [← hst]; exact e3
          have e1' : S'.fu = fu.map (· - ((j + 1 : Nat) : Int)) := by
            rw [e1, hfu]
            cases fu with
            | none => rfl
            | some f => exact congrArg some (by show f - (j : Int) - 1 = f - ((j + 1 : Nat) : Int); omega)
          iterate 2 walk_at "s1"
          refine w_ifRest (fun σ' H' => σ' = [some (.ref a), some (.ref d), some (.ref x), some (.ref m), some (fuV fu), some (.int mn), some (.int S.st), some (.int (0 + (j : Int))), some (.bl true), v9, v10, v11, v12, v13, v14, v15, v16, v17, v18, v19, v20] ∧ H' = H17) (fun N2 hN2 => ?_) ?_
          · cases fu with
            | none =>
              rw [show fuV none = V.non from rfl]
              walk_at "g"
              rw [show (true != true) = false from rfl]
              walk_at "g"
              exact hN2 _ _ ⟨rfl, rfl⟩
            | some f =>
              rw [show fuV (some f) = V.int f from rfl]
              walk_at "g"
              rw [decide_eq_true (show 0 + (j : Int) < f by have := hf1 f rfl; omega), show (true != true) = false from rfl]
              walk_at "g"
              exact hN2 _ _ ⟨rfl, rfl⟩
          rintro σ' H' ⟨rfl, rfl⟩
          have es : S.st + (if true = true then 1 else 0) = S'.st := by rw [hst, e3, if_pos rfl]
          walk_at "g"
          rw [es, Bool.not_true]
          obtain ⟨⟨L17, ⟨⟨bA, qA, wA, kA, uA, rfl, dk17, md17⟩, ndL, hwr⟩, hfor17⟩, g17⟩ := id run17
          obtain ⟨lA, tA, ys, em, ml, mt, mu, mp⟩ := md17.ex
          obtain ⟨dx, lB, tB, zs, hx, h2, h3, h4, h5⟩ := id dk17.ex
          have yl : ys.length = S'.ws.length := Paired.length mp
          clear hf1 hokd ok nw c17 o17 run own hle hfu hst
          walk_at "g"
          refine ⟨m, _, rfl, dget_s em md_kept, ?_⟩
          walk_at "g"
          refine ⟨kA, _, rfl, .inl md17.bs, fun D hD => ?_⟩
          have s18 := same_new hD (.dK S'.bs)
          have eD : upd H' D (.dK S'.bs) D = some (.dK S'.bs) := upd_same
          generalize upd H' D (.dK S'.bs) = H18 at s18 eD
          walk_at "g"
          refine ⟨m, _, rfl, dget_s (s18 _ _ em) md_waiting, ?_⟩
          walk_at "g"
          have nDu : uA ∉ [D] := fun z => absurd (List.mem_singleton.mp z) (ne_of_none mu hD)
          refine w_forL (SqL.of (s18 _ _ mu)) (fun i σ' Hc => ∃ v10 v11 : Option V, σ' = [some (.ref a), some (.ref d), some (.ref x), some (.ref m), some (fuV fu), some (.int mn), some (.int S'.st), some (.int (0 + (j : Int))), some (.bl true), some (.ref D), v10, v11, v12, v13, v14, v15, v16, v17, v18, v19, v20] ∧ Same H' Hc ∧ Hc D = some (.dK (putW (S'.ws.take i) S'.bs)))
            ⟨_, _, rfl, s18, eD⟩ (fun i σ Hc _ ⟨_, _, _, s2, _⟩ => SqL.of (s2 _ _ mu)) ?_ ?_
          · rintro i y σ' H19 hi2 ⟨w10, w11, rfl, s19, eD19⟩
            obtain ⟨z, hz, rfl⟩ := map_get hi2
            obtain ⟨⟨n, b⟩, hp, gz⟩ := paired_get mp hz
            have hlt : i < S'.ws.length := (List.getElem?_eq_some_iff.mp hp).1
            refine w_gtupS (sqT_same gz s19) rfl ?_
            walk_at "g"
            have hlen := len_putW (S'.ws.take i) S'.bs
            rw [List.length_take] at hlen
            refine ⟨D, _, rfl, DPut.k (k := .inl n) eD19 (Nat.lt_of_le_of_lt (by omega : _ ≤ 1000) (by decide)), ?_⟩
            refine ⟨_, _, rfl, same_upd s19 hD, ?_⟩
            rw [upd_same, List.take_add_one, hp]
            show some (HO.dK _) = some (HO.dK (putW (S'.ws.take i ++ [(n, b)]) S'.bs))
            rw [putW_snoc]
          · rintro σ' H19 ⟨w10, w11, rfl, s19, eD19⟩
            rw [List.length_map, yl, List.take_length] at eD19
            have run19 := run17.sm s19
            walk_at "g"
            refine w_forRp ⟨by decide, by decide⟩ (fun i σ' Hc => ∃ w12 w13 : Option V, σ' = [some (.ref a), some (.ref d), some (.ref x), some (.ref m), some (fuV fu), some (.int mn), some (.int S'.st), some (.int (0 + (j : Int))), some (.bl true), some (.ref D), w10, w11, w12, w13, v14, v15, v16, v17, v18, v19, v20] ∧ Run K cD (TQ Pl Pd) p dcs Hc x m S' ∧ Hc D = some (.dK (putW S'.ws S'.bs)))
              ⟨_, _, rfl, run19, eD19⟩ ?_ ?_
            · rintro i σ' H20 hi4 ⟨w12, w13, rfl, run20, eD20⟩
              walk_at "g"
              refine w_lamG ⟨run20.good.tab, fun H21 x21 t21 => ?_⟩
              have run21 := run20.ex' x21 t21
              have eD21 : H21 D = some (.dK (putW S'.ws S'.bs)) := x21 _ _ eD20 (fun _ z => by cases z)
              obtain ⟨⟨L21, ⟨⟨bA, qA, wA, kA, uA, rfl, dk21, md21⟩, ndL21, hwr21⟩, hfor21⟩, g21⟩ := id run21
              obtain ⟨dx, lA, tA, zs, hx, h2, h3, h4, h5⟩ := id dk21.ex
              refine w_lamT ?_
              walk_at "g"
              refine ⟨x, dx, _, rfl, hx, m_none (by decide +kernel), ?_⟩
              walk_at "g"
              have ei : (0 : Int) + (i : Int) = ((i : Nat) : Int) := by omega
              rw [ei]
              have vv := val_putW (.inl (i : Int)) S'.ws S'.bs
              rw [← hwr21] at vv
              refine ⟨x, bA, qA, wA, S', i, rfl, by omega, dk21, ?_⟩
              refine And.intro (fun z => by rw [e2] at z; cases z) (fun _ => ?_)
              cases ev : (valV S'.wr (.inl (i : Int))).or (valV S'.bs (.inl (i : Int))) with
              | none =>
                rw [ev] at vv
                refine fun H22 s22 => ⟨true, W.x_DD, fun _ => ?_, fun h => absurd h (by decide)⟩
                have eD22 := s22 _ _ eD21
                walk_at "g"
                refine ⟨D, rfl, .inl ⟨_, .inl eD22⟩, ?_⟩
                walk_at "g"
                refine ⟨_, DGet.k (k := .inl (i : Int)) eD22, ?_⟩
                rw [vv, Option.getD_none]
                refine w_neSS ?_
                walk_at "g"
                refine ⟨x, dx, _, rfl, s22 _ _ hx, m_none (by decide +kernel), ?_⟩
                walk_at "g"
                refine ⟨x, bA, qA, wA, S', (i : Int), rfl, dk21.sm s22, ?_⟩
                rw [ev]
                walk_at "g"
                refine ⟨D, _, rfl, DGet.k (k := .inl (i : Int)) eD22, ?_⟩
                rw [vv]
                walk_at "g"
                rw [show ((none : Option V).isSome != (none : Option V).isSome) = false from rfl]
                walk_at "g"
                exact ⟨_, _, rfl, run21.sm s22, eD22⟩
              | some v =>
                rw [ev] at vv
                obtain ⟨b, e, rfl, hb⟩ : ∃ b e, v = .ref b ∧ BlkA K H21 b e := by
                  obtain ⟨mw, rw1⟩ := dk21.aw
                  obtain ⟨mb, rb1⟩ := dk21.ab
                  rcases bsR_val (.inl (i : Int)) rw1 with ⟨z1, _⟩ | ⟨b, e, z1, _, z3⟩
                  · rw [z1, Option.none_or] at ev
                    rcases bsR_val (.inl (i : Int)) rb1 with ⟨y1, _⟩ | ⟨b, e, y1, _, y3⟩
                    · rw [y1] at ev; cases ev
                    · rw [y1] at ev; cases ev
                      exact ⟨b, e, rfl, y3⟩
                  · rw [z1, Option.some_or] at ev
                    cases ev
                    exact ⟨b, e, rfl, z3⟩
                dsimp only
                walk_at "g"
                refine ⟨D, rfl, .inl ⟨_, .inl eD21⟩, ?_⟩
                walk_at "g"
                refine ⟨_, DGet.k (k := .inl (i : Int)) eD21, ?_⟩
                rw [vv, Option.getD_some]
                refine w_neInts hb.1 hb.1 ?_
                rw [decide_eq_true rfl, Bool.not_true]
                walk_at "g"
                refine ⟨x, dx, _, rfl, hx, m_none (by decide +kernel), ?_⟩
                walk_at "g"
                refine ⟨x, bA, qA, wA, S', (i : Int), rfl, dk21, ?_⟩
                rw [ev]
                walk_at "g"
                refine ⟨D, _, rfl, DGet.k (k := .inl (i : Int)) eD21, ?_⟩
                rw [vv]
                walk_at "g"
                rw [show ((some (V.ref b)).isSome != (some (V.ref b)).isSome) = false from rfl]
                walk_at "g"
                exact ⟨_, _, rfl, run21, eD21⟩
            · rintro σ' H20 ⟨w12, w13, rfl, run20, eD20⟩
              walk_at "g"
              obtain ⟨⟨L20, ⟨⟨bA, qA, wA, kA, uA, rfl, dk20, md20⟩, ndL20, hwr20⟩, hfor20⟩, g20⟩ := id run20
              obtain ⟨lA, tA, ys, em, ml, mt, mu, mp⟩ := md20.ex
              obtain ⟨dx, lB, tB, zs, hx, h2, h3, h4, h5⟩ := id dk20.ex
              refine ⟨x, dx, _, rfl, hx, m_none (by decide +kernel), ?_⟩
              walk_at "g"
              have hl2 : S'.lg.length + S'.tl.length ≤ 2000 := by omega
              refine ⟨x, bA, qA, wA, S', rfl, dk20, hl2, ?_⟩
              refine And.intro (fun z => by rw [e2] at z; cases z) (fun _ p1 H21 s21 e21 => ?_)
              walk_at "g"
              refine ⟨m, _, rfl, dget_s (s21 _ _ em) md_log, ?_⟩
              walk_at "g"
              refine ⟨m, _, rfl, dget_s (s21 _ _ em) md_tail, ?_⟩
              walk_at "g"
              refine w_catInts (sqT_same ml s21) (sqT_same mt s21) hl2 fun p2 H22 s22 e22 => ?_
              refine w_neInts (sqT_same e21 s22) e22 ?_
              rw [decide_eq_true rfl, Bool.not_true]
              walk_at "g"
              refine ⟨S', _, _, _, _, _, _, _, _, _, _, _, _, _, _, rfl, run20.sm (s21.trans s22), by omega, by omega, e3, e2, e1', fun f e => ?_⟩
              have := hf2 f e
              exact this
      · rintro σ2 H16 ⟨S, v7, v8, v9, v10, v11, v12, v13, v14, v15, v16, v17, v18, v19, v20, rfl, run, b1, b2, _⟩
        exact hN _ _ ⟨S, _, _, _, _, _, _, _, _, _, _, _, _, _, _, rfl, run, by omega, by omega⟩
    · have wd := W.toWd
      rintro σ' H15' ⟨S, v7, v8, v9, v10, v11, v12, v13, v14, v15, v16, v17, v18, v19, v20, rfl, run, b1, b2⟩
      obtain ⟨⟨L, ⟨⟨bA, qA, wA, kA, uA, rfl, dk, md⟩, ndL, hwr⟩, hfor⟩, g⟩ := id run
      obtain ⟨dx, lA, tA, zs, hx, h2, h3, h4, h5⟩ := id dk.ex
      walk_at "g"
      rw [decide_eq_true rfl, Bool.not_true]
      walk_at "g"
      refine w_lamG ⟨g.tab, fun H16 x16 t16 => ?_⟩
      have run1 := run.ex' x16 t16
      obtain ⟨⟨L1, ⟨⟨bA1, qA1, wA1, kA1, uA1, rfl, dk1, md1⟩, ndL1, hwr1⟩, hfor1⟩, g1⟩ := id run1
      obtain ⟨dx1, lA1, tA1, zs1, hx1, _, _, _, _⟩ := id dk1.ex
      refine w_lamT ?_
      walk_at "g"
      refine ⟨x, dx1, _, rfl, hx1, m_none (by decide +kernel), ?_⟩
      walk_at "g"
      intro z hz
      have s17 := same_new hz (.tup [.int 1, .int 2])
      have ez : upd H16 z (.tup [.int 1, .int 2]) z = some (.tup [.int 1, .int 2]) := upd_same
      generalize upd H16 z (.tup [.int 1, .int 2]) = H17 at s17 ez
      have hwl : S.wr.length ≤ 1000 := by
        have := len_putW S.ws []
        rw [← hwr1] at this
        have z : ([] : List (Key × V)).length = 0 := rfl
        omega
      walk_at "g"
      refine ⟨x, bA1, qA1, wA1, S, 1, z, [1, 2], rfl, dk1.sm s17, SqT.of ez, by omega, hwl, ?_⟩
      refine And.intro (fun _ H18 s18 => ⟨true, W.x_DD, fun _ => ?_, fun h => absurd h (by decide)⟩) (fun h => absurd h (by decide))
      replace run1 := (run1.sm s17).sm s18
      clear dk md ndL hwr hfor g hx h2 h3 h4 h5 run dk1 md1 ndL1 hwr1 hfor1 g1 hx1 hwl s17 s18 ez hz x16 t16
      walk_at "g"
      refine w_neSS ?_
      walk_at "g"
      refine w_roll (by decide) (by decide) (Kp.refl d H18) (run1.good.dice d hd) fun cn H19 c0 c1 k19 _ d19 => ?_
      replace run1 := run1.kp hd k19 d19
      walk_at "g"
      refine w_lcRp ⟨c0, by omega⟩ fun D hD => ?_
      obtain ⟨kp1, kp2, dd1, nD, fD, eD⟩ := newl (o := .lst []) (Kp.refl d H19) (run1.good.dice d hd) hD rfl
      refine ⟨fun i Hc => ∃ xs : List Int, xs.length = i ∧ Hc D = some (.lst (xs.map V.int)) ∧ Kp d H19 Hc ∧ Dice Hc d, ⟨[], rfl, eD, kp1, dd1⟩, ?_, ?_⟩
      · rintro i H20 hi5 ⟨xs, rfl, e20, k20, d20⟩
        walk_at "g"
        refine ⟨rfl, ?_⟩
        walk_at "g"
        refine w_roll (by decide) (by decide) k20 d20 fun v H21 _ _ k21 k21' d21 => ?_
        have e21 := k21' _ _ nD e20
        exact ⟨_, e21, by rw [List.length_map]; exact Nat.lt_of_lt_of_le (by omega : xs.length < 1000) (by decide), xs ++ [v], by rw [List.length_append]; rfl, by rw [upd_same, List.map_append]; rfl, Kp.wr k21 fD, Dice.wr d21 nD⟩
      · rintro H20 ⟨xs, hxl, e20, k20, d20⟩
        replace run1 := run1.kp hd k20 d20
        clear kp1 kp2 dd1 eD k20 d20 k19 d19
        walk_at "g"
        refine w_roll (by decide) (by decide) (Kp.refl d H20) (run1.good.dice d hd) fun h H21 h0 h1 k21 _ d21 => ?_
        have e21 := k21 _ _ nD e20
        replace run1 := run1.kp hd k21 d21
        obtain ⟨h, rfl⟩ := Int.eq_ofNat_of_zero_le h0
        walk_at "g"
        refine ⟨_, _, rfl, ?_⟩
        walk_at "g"
        obtain ⟨⟨L, ⟨⟨bA, qA, wA, kA, uA, rfl, dk, md⟩, ndL, hwr⟩, hfor⟩, g⟩ := id run1
        obtain ⟨dx, lA0, tA0, zs, hx, h2, h3, h4, h5⟩ := id dk.ex
        obtain ⟨ms, hms⟩ := dk.ab
        obtain ⟨ds, hds⟩ := wsR_of dk.aq
        have hdl : S.ws.length = ds.length := Paired.length hds
        refine ⟨x, dx, _, rfl, hx, m_none (by decide +kernel), ?_⟩
        walk_at "g"
        refine ⟨x, bA, qA, wA, S, D, xs, h, ms, ds, rfl, dk, e21, hms, hds, by omega, by omega, fun x' b' q' w' H22 kvs' s22 d22 hk22 => ?_⟩
        have md22 := md.ch (M := []) (Ch.of s22) List.not_mem_nil List.not_mem_nil List.not_mem_nil
        obtain ⟨lA, tA, ys, em, ml, mt, mu, mp⟩ := md22.ex
        have hms22 := hms.ch (M := []) (Ch.of s22)
        have hds22 := hds.ch (M := []) (Ch.of s22)
        have e22 := s22 _ _ e21
        have hnd := dk.nd
        have yl : ys.length = S.ws.length := Paired.length mp
        walk_at "g"
        refine ⟨m, _, rfl, dget_s em md_kept, ?_⟩
        walk_at "g"
        refine ⟨kA, _, rfl, .inl md22.bs, fun E' hE => ?_⟩
        have s23 := same_new hE (.dK S.bs)
        have eE : upd H22 E' (.dK S.bs) E' = some (.dK S.bs) := upd_same
        generalize upd H22 E' (.dK S.bs) = H23 at s23 eE
        walk_at "g"
        refine ⟨_, _, rfl, ?_⟩
        walk_at "g"
        refine ⟨m, _, rfl, dget_s (s23 _ _ em) md_waiting, ?_⟩
        walk_at "g"
        refine ⟨uA, _, rfl, SqL.of (s23 _ _ mu), ?_⟩
        clear h2 h3 h4 h5 hx run1 dk hwr hfor ndL md hi hS h63 hT fp ep
        refine Dq.for_enumL (fun i σ' Hc => ∃ (v10 v11 v12 v13 v16 v19 v20 : Option V) (kvs : List (Key × V)), σ' = [some (.ref a), some (.ref d), some (.ref x), some (.ref m), some (fuV fu), some (.int mn), some (.int S.st), v7, v8, v9, v10, v11, v12, v13, some (.ref D), some (.int (h : Int)), v16, some (.ref x'), some (.ref E'), v19, v20] ∧ Same H22 Hc ∧ Hc E' = some (.dK kvs) ∧ BsR K Hc kvs (leftN ms ds xs i) ∧ kvs.length ≤ S.bs.length + i)
          ⟨v10, v11, v12, v13, v16, v19, v20, S.bs, rfl, s23, eE, hms22.ch (M := []) (Ch.of s23), Nat.le_refl _⟩ (fun i σ Hc ⟨_, _, _, _, _, _, _, _, _, s2, _⟩ => SqL.of (s2 _ _ mu)) ?_ ?_
        · rintro i y T σ' H24 hi6 ⟨w10, w11, w12, w13, w16, w19, w20, kvs, rfl, s24, ek, hk, hkl⟩ hT'
          obtain ⟨z1, hz1, rfl⟩ := map_get hi6
          obtain ⟨⟨n, a1⟩, hp, gz⟩ := paired_get mp hz1
          obtain ⟨⟨n', dd⟩, hp', en, ba⟩ := paired_get hds22 hp
          obtain rfl : n = n' := en
          have hlt : i < S.ws.length := (List.getElem?_eq_some_iff.mp hp).1
          have eL := leftN_succ (ms := ms) (cs := xs) hp'
          have eT : upd H24 T (.tup [.int (i : Nat), .ref z1]) T = some (.tup [.int (i : Nat), .ref z1]) := upd_same
          have s25 := same_new hT' (.tup [.int (i : Nat), .ref z1])
          generalize upd H24 T (.tup [.int (i : Nat), .ref z1]) = H25 at eT s25
          have ek25 := s25 _ _ ek
          have hk25 := hk.ch (M := []) (Ch.of s25)
          replace s24 := s24.trans s25
          have e25 := s24 _ _ e22
          have bd := ba.ch (M := []) (Ch.of s24)
          have dz : kvs.length < sizeLine := Nat.lt_of_le_of_lt (by omega : _ ≤ 1000) (by decide)
          clear s25 hk ek hT'
          refine w_gtup eT rfl ?_
          walk_at "g"
          refine w_gtupS (sqT_same gz s24) rfl ?_
          iterate 8 walk_at "s1"
          refine Dq.w_ifV (fun v H' => v = .int (xs.getD i 0) ∧ H' = H25) (fun R hR => ?_) ?_
          · walk_at "g"
            refine ⟨D, _, rfl, .inl (SqL.of e25), ?_⟩
            rw [List.length_map]
            walk_at "g"
            refine w_iteD (fun c1 => ?_) (fun c1 => ?_)
            · have c2 : i < xs.length := by
                have c3 : (i : Int) < (xs.length : Int) := c1
                omega
              have e := List.getElem?_eq_getElem c2
              walk_at "g"
              refine w_ixL e25 (int_get e) ?_
              exact hR _ _ ⟨by rw [List.getD_eq_getElem?_getD, e]; rfl, rfl⟩
            · have c2 : xs.length ≤ i := by
                have c3 : ¬ (i : Int) < (xs.length : Int) := c1
                omega
              walk_at "g"
              exact hR _ _ ⟨by rw [List.getD_eq_getElem?_getD, List.getElem?_eq_none c2]; rfl, rfl⟩
          rintro v H' ⟨rfl, rfl⟩
          generalize hcc : xs.getD i 0 = c at eL
          walk_at "g"
          refine w_iteD (fun c1 => ?_) (fun c1 => ?_)
          · subst c1
            walk_at "g"
            refine ⟨E', _, rfl, DPut.k (k := .inl n) ek25 dz, ?_⟩
            have hput : BsR K (upd H' E' (.dK (putK kvs (.inl n) (.ref a1)))) (putK kvs (.inl n) (.ref a1)) (leftN ms ds xs (i + 1)) := by
              rw [eL]
              unfold left1
              rw [if_pos rfl]
              exact (hk25.put bd).ch (M := [E']) (((Cs.refl [E'] H').wr mem1 ek25 trivial).ch)
            walk_at "g"
            exact ⟨_, _, _, _, _, _, _, _, rfl, same_upd s24 hE, upd_same, hput, Nat.le_trans (len_put _ _ _) (by omega)⟩
          walk_at "g"
          refine w_iteD (fun c2 => ?_) (fun c2 => ?_)
          · subst c2
            walk_at "g"
            refine w_slToZ (n := 4) rfl bd.1 fun p7 H26 s26 e7 => ?_
            have ek26 := s26 _ _ ek25
            have hk26 := hk25.ch (M := []) (Ch.of s26)
            replace s26 := s24.trans s26
            walk_at "g"
            refine ⟨E', rfl, .inl ⟨_, .inl ek26⟩, ?_⟩
            walk_at "g"
            intro z8 hz8
            have s27 := same_new hz8 (.tup [.int 0])
            have e27 : upd H26 z8 (.tup [.int 0]) z8 = some (.tup [.int 0]) := upd_same
            generalize upd H26 z8 (.tup [.int 0]) = H27 at s27 e27
            have ek27 := s27 _ _ ek26
            have hk27 := hk26.ch (M := []) (Ch.of s27)
            have e7' := sqT_same e7 s27
            replace s27 := s26.trans s27
            walk_at "g"
            refine w_repInts (SqT.of e27) (by decide) (by decide) fun p6 H28 s28 e6 => ?_
            have ek28 := s28 _ _ ek27
            have hk28 := hk27.ch (M := []) (Ch.of s28)
            have e7'' := sqT_same e7' s28
            replace s28 := s27.trans s28
            refine ⟨_, DGet.k (k := .inl n) ek28, ?_⟩
            obtain ⟨b, e, g1, g2, g3, g4⟩ : ∃ b e, (valV kvs (.inl n)).getD (.ref p6) = .ref b ∧ SqT K H28 b (e.map V.int) ∧ e.length = 8 ∧ (valM (leftN ms ds xs i) (.inl n)).getD (List.replicate 8 0) = e := by
              rcases bsR_val (.inl n) hk28 with ⟨z1, z2⟩ | ⟨b, e, z1, z2, z3⟩
              · rw [z1, z2]
                exact ⟨p6, _, rfl, e6, by decide, rfl⟩
              · rw [z1, z2]
                exact ⟨b, e, rfl, z3.1, z3.2, rfl⟩
            rw [g1]
            walk_at "g"
            refine w_slFromZ (n := 4) rfl g2 fun p8 H29 s29 e8 => ?_
            have e78 := sqT_same e7'' s29
            have ek29 := s29 _ _ ek28
            have hk29 := hk28.ch (M := []) (Ch.of s29)
            replace s29 := s28.trans s29
            walk_at "g"
            have l1 : (dd.take 4).length = 4 := by rw [List.length_take, bd.2]; rfl
            have l2 : (e.drop 4).length = 4 := by rw [List.length_drop, g3]
            refine w_catInts e78 e8 (by show (dd.take 4).length + (e.drop 4).length ≤ 2000; omega) fun p9 H30 s30 e9 => ?_
            have ek30 := s30 _ _ ek29
            have hk30 := hk29.ch (M := []) (Ch.of s30)
            replace s30 := s29.trans s30
            walk_at "g"
            refine ⟨E', _, rfl, DPut.k (k := .inl n) ek30 dz, ?_⟩
            refine ⟨_, _, _, _, _, _, _, _, rfl, same_upd s30 hE, upd_same, ?_, Nat.le_trans (len_put _ _ _) (by omega)⟩
            rw [eL]
            unfold left1
            rw [if_neg (by decide), if_pos rfl, g4]
            exact (hk30.put ⟨e9, by rw [List.length_append, l1, l2]⟩).ch (M := [E']) (((Cs.refl [E'] H30).wr mem1 ek30 trivial).ch)
          · walk_at "g"
            refine ⟨_, _, _, _, _, _, _, kvs, rfl, s24, ek25, ?_, by omega⟩
            rw [eL]
            unfold left1
            rw [if_neg c1, if_neg c2]
            exact hk25
        · rintro σ' H24 ⟨w10, w11, w12, w13, w16, w19, w20, kvs, rfl, s24, ek, hk, hkl⟩
          rw [List.length_map, yl, hdl] at hk
          have d24 := d22.sm s24
          obtain ⟨dx', lA', tA', zs', hx', h2', h3', h4', hps⟩ := id d24.ex
          have hk24 := hk22.ch (M := []) (Ch.of s24)
          have heq := bsR_eq hk24 hk d24.nd
          walk_at "g"
          refine ⟨b', E', kvs', kvs, rfl, rfl, d24.bs, ek, heq.1, heq.2, ?_⟩
          walk_at "g"
          refine ⟨x', dx', _, rfl, hx', m_none (by decide +kernel), ?_⟩
          walk_at "g"
          have hlt3 : (S.lg ++ S.tl.take h).length + ([] : List Int).length ≤ 2000 := by
            have z : ([] : List Int).length = 0 := rfl
            rw [List.length_append, List.length_take, z]
            omega
          refine ⟨x', b', q', w', _, rfl, d24, hlt3, ?_⟩
          refine And.intro (fun z => by cases z) (fun _ p1 H25 s25 e25 => ?_)
          have s225 := s24.trans s25
          walk_at "g"
          refine ⟨m, _, rfl, dget_s (s225 _ _ em) md_log, ?_⟩
          walk_at "g"
          refine ⟨m, _, rfl, dget_s (s225 _ _ em) md_tail, ?_⟩
          walk_at "g"
          refine w_slToZ (n := h) rfl (sqT_same mt s225) fun p2 H26 s26 e26 => ?_
          walk_at "g"
          refine w_catInts (sqT_same (sqT_same ml s225) s26) e26 (by rw [List.length_take]; omega) fun p3 H27 s27 e27 => ?_
          refine w_neInts (sqT_same (sqT_same e25 s26) s27) e27 ?_
          rw [decide_eq_true (show (S.lg ++ S.tl.take h) ++ [] = S.lg ++ S.tl.take h from List.append_nil _), Bool.not_true]
          have s257 := (s25.trans s26).trans s27
          have hx27 := s257 _ _ hx'
          have d27 := d24.sm s257
          walk_at "g"
          rw [decide_eq_true rfl, Bool.not_true]
          walk_at "g"
          refine ⟨x', dx', _, rfl, hx27, m_none (by decide +kernel), ?_⟩
          walk_at "g"
          refine ⟨x', b', q', w', _, rfl, d27, hlt3, ?_⟩
          refine And.intro (fun z => by cases z) (fun _ p4 H28 s28 e28 => ?_)
          have hx28 := s28 _ _ hx27
          walk_at "g"
          refine w_neInts (sqT_same (sqT_same h2' s257) s28) e28 ?_
          rw [decide_eq_true (show (S.lg ++ S.tl.take h) = (S.lg ++ S.tl.take h) ++ [] from (List.append_nil _).symm), Bool.not_true]
          walk_at "g"
          intro z9 hz9
          have hzs : zs' = [] := by
            cases zs' with
            | nil => rfl
            | cons _ _ => cases hps
          rw [hzs] at h4'
          have s29 := same_new hz9 (.lst [])
          have e29 : upd H28 z9 (.lst []) z9 = some (.lst []) := upd_same
          generalize upd H28 z9 (.lst []) = H29 at s29 e29
          refine ⟨_, _, .lst (SqL.of (s29 _ _ (s28 _ _ (s257 _ _ h4')))) .nil, .lst (SqL.of e29) .nil, rfl, rfl, ?_⟩
          rw [show PyData.eqv (.list []) (.list []) = true by simp [PyData.eqv, PyData.eqvAll], Bool.not_true]
          have hx29 := s29 _ _ hx28
          walk_at "g"
          refine Dq.w_notN0 ?_
          walk_at "g"
          exact ⟨g.sm (s22.trans (s24.trans (s257.trans (s28.trans s29)))), _, _, _, _, _, _, _, _, _, _, _, _, _, _, _, _, _, _, _, _, rfl⟩
  · rintro σ H' ⟨g, v1, v2, v3, v4, v5, v6, v7, v8, v9, v10, v11, v12, v13, v14, v15, v16, v17, v18, v19, v20, rfl⟩
    walk_at "g"
    exact q _
end
end K09
end

section
-- part K09XI0
set_option Elab.async false
set_option linter.all false
set_option maxRecDepth 100000
set_option maxHeartbeats 0
namespace K09
open PySem PySem.Spec PyProof.Rows L2 Fw Dc Gk M9
def fnD : List He.DefD := [⟨("_law_dice", none), "_law_dice", "_law_dice", defArgs s__law_dice, defBody s__law_dice, defScope s__law_dice, [], []⟩,
  ⟨("_law_roll", none), "_law_roll", "_law_roll", defArgs s__law_roll, defBody s__law_roll, defScope s__law_roll, [], []⟩,
  ⟨("_law_rounds", none), "_law_rounds", "_law_rounds", defArgs s__law_rounds, defBody s__law_rounds, defScope s__law_rounds, [], []⟩,
  ⟨("_law_told", none), "_law_told", "_law_told", defArgs s__law_told, defBody s__law_told, defScope s__law_told, [], []⟩,
  ⟨("_law_block", none), "_law_block", "_law_block", defArgs s__law_block, defBody s__law_block, defScope s__law_block, [], []⟩,
  ⟨("_law_deed", none), "_law_deed", "_law_deed", defArgs s__law_deed, defBody s__law_deed, defScope s__law_deed, [], []⟩,
  ⟨("law", none), "law", "law", defArgs s_law, defBody s_law, defScope s_law, [], []⟩,
  ⟨("Disk", some "__init__"), "__init__", "Disk.__init__", defArgs s_Disk___init__, defBody s_Disk___init__, defScope s_Disk___init__, [.non, .adr (He.dflAt ("Disk", some "__init__") 1)], []⟩,
  ⟨("Disk", some "arm"), "arm", "Disk.arm", defArgs s_Disk_arm, defBody s_Disk_arm, defScope s_Disk_arm, [], []⟩,
  ⟨("Disk", some "step"), "step", "Disk.step", defArgs s_Disk_step, defBody s_Disk_step, defScope s_Disk_step, [], []⟩,
  ⟨("Disk", some "has_block"), "has_block", "Disk.has_block", defArgs s_Disk_has_block, defBody s_Disk_has_block, defScope s_Disk_has_block, [], []⟩,
  ⟨("Disk", some "read_block"), "read_block", "Disk.read_block", defArgs s_Disk_read_block, defBody s_Disk_read_block, defScope s_Disk_read_block, [], []⟩,
  ⟨("Disk", some "write_block"), "write_block", "Disk.write_block", defArgs s_Disk_write_block, defBody s_Disk_write_block, defScope s_Disk_write_block, [], []⟩,
  ⟨("Disk", some "sync_blocks"), "sync_blocks", "Disk.sync_blocks", defArgs s_Disk_sync_blocks, defBody s_Disk_sync_blocks, defScope s_Disk_sync_blocks, [], []⟩,
  ⟨("Disk", some "append_log"), "append_log", "Disk.append_log", defArgs s_Disk_append_log, defBody s_Disk_append_log, defScope s_Disk_append_log, [], []⟩,
  ⟨("Disk", some "sync_log"), "sync_log", "Disk.sync_log", defArgs s_Disk_sync_log, defBody s_Disk_sync_log, defScope s_Disk_sync_log, [], []⟩,
  ⟨("Disk", some "clear_log"), "clear_log", "Disk.clear_log", defArgs s_Disk_clear_log, defBody s_Disk_clear_log, defScope s_Disk_clear_log, [], []⟩,
  ⟨("Disk", some "read_log"), "read_log", "Disk.read_log", defArgs s_Disk_read_log, defBody s_Disk_read_log, defScope s_Disk_read_log, [], []⟩,
  ⟨("Disk", some "restarted"), "restarted", "Disk.restarted", defArgs s_Disk_restarted, defBody s_Disk_restarted, defScope s_Disk_restarted, [], []⟩]
def faD : List He.Fa := [.glo "_law_dice", .glo "_law_roll", .glo "_law_rounds", .glo "_law_told", .glo "_law_block", .glo "_law_deed", .glo "law", .glo "Disk", .glo "DiskFault", .free "abs", .free "int", .free "str", .free "len", .free "range", .free "tuple", .free "dict", .free "max", .free "enumerate", .int "KEPT" 1, .int "HALF" 2, .cls "Disk", .noat "Disk" "block_size", .noat "Disk" "blocks", .noat "Disk" "log", .noat "Disk" "waiting", .noat "Disk" "written", .noat "Disk" "log_tail", .noat "Disk" "fuse", .noat "Disk" "dead", .noat "Disk" "steps", .meth "Disk" "arm", .meth "Disk" "step", .meth "Disk" "has_block", .meth "Disk" "read_block", .meth "Disk" "write_block", .meth "Disk" "sync_blocks", .meth "Disk" "append_log", .meth "Disk" "sync_log", .meth "Disk" "clear_log", .meth "Disk" "read_log", .meth "Disk" "restarted", .mkr "Disk", .exc "DiskFault", .exm "DiskFault" "DiskFault" true]
def exD (K : PySem.W.Frag) : Bool := emptyT K (He.dflAt ("Disk", some "__init__") 1 K) && (decide ((He.cT K ("law", none)).2 ≠ (He.cT K ("_law_deed", none)).2))
abbrev tfD : List He.Defn := [("law", none), ("_law_deed", none)]
abbrev R0 : PySem.W.OpenRow := PySem.W.OpenLaw.row PySem.Challenge.rw_tablestack_k09_disks_and_what_a_crash_le
abbrev hk0 : PySem.W.Hook := He.hookX 5 faD fnD [] tfD exD
def ob0 (s : PySem.W.SharedT) : He.AlX := He.obsX 5 faD fnD [] tfD exD (HandSHeadRun.getT s)
theorem ob0_eq (s : PySem.W.SharedT) : ob0 s = hk0.obs s.abs := He.obsX_eq (HandSHeadRun.getT_eq s)
def loose0 : List Str := [("TableError" : Str), ("DiskFault" : Str), ("Disk" : Str), ("KEPT" : Str), ("HALF" : Str), ("_law_dice" : Str), ("_law_roll" : Str), ("_law_rounds" : Str), ("_law_told" : Str), ("_law_block" : Str), ("_law_deed" : Str)]
end K09
end

section
-- part K09XI
set_option Elab.async false
set_option linter.all false
set_option maxRecDepth 100000
set_option maxHeartbeats 2000000
namespace K09
open PySem PySem.Spec PyProof.Rows L2 Fw LamX Dc Gk M9

theorem facts {w : World} {K : PySem.W.Frag} {h : Heap} {mg : Str → Option Value} (X : K.In h) (G : h.Ns mainGlobals mg) (c : He.SaysX faD fnD [] tfD exD w h K) :
    Wz K mg (He.ga K "DiskFault") (He.ga K "Disk") (He.dflAt ("Disk", some "__init__") 1 K) := by
  have d := c.t.d
  have glo : ∀ {x : Str}, (He.Fa.glo x).ok K = true → mg x = some (.ref (He.ga K x)) := fun h => He.glo_ok X G h
  have fre : ∀ {x : Str}, (He.Fa.free x).ok K = true → mg x = none := fun h => He.free_ok X G h
  have it : ∀ {x : Str} {n : Int}, (He.Fa.int x n).ok K = true → Cin mg x n := fun h => by
    obtain ⟨t, e⟩ := He.int_ok X G h
    exact ⟨_, e, t, rfl⟩
  obtain ⟨xe1DiskFault, xe2DiskFault, xe3DiskFault, xe4DiskFault⟩ := He.exc_ok (d.fact 42 (f := .exc "DiskFault") rfl)

  have hx := c.more
  unfold exD at hx
  obtain ⟨hx0, hx⟩ := He.ba hx
  have hx1 := hx
  exact {
    k_cl := He.cls_ok (d.fact 20 (f := .cls "Disk") rfl)
    k_block_size := He.noat_ok (d.fact 21 (f := .noat "Disk" "block_size") rfl)
    k_blocks := He.noat_ok (d.fact 22 (f := .noat "Disk" "blocks") rfl)
    k_log := He.noat_ok (d.fact 23 (f := .noat "Disk" "log") rfl)
    k_waiting := He.noat_ok (d.fact 24 (f := .noat "Disk" "waiting") rfl)
    k_written := He.noat_ok (d.fact 25 (f := .noat "Disk" "written") rfl)
    k_log_tail := He.noat_ok (d.fact 26 (f := .noat "Disk" "log_tail") rfl)
    k_fuse := He.noat_ok (d.fact 27 (f := .noat "Disk" "fuse") rfl)
    k_dead := He.noat_ok (d.fact 28 (f := .noat "Disk" "dead") rfl)
    k_steps := He.noat_ok (d.fact 29 (f := .noat "Disk" "steps") rfl)
    k_g := glo (d.fact 7 (f := .glo "Disk") rfl)
    k_i := by
      obtain ⟨fd, q⟩ := d.def_ 7 (d := ⟨("Disk", some "__init__"), "__init__", "Disk.__init__", defArgs s_Disk___init__, defBody s_Disk___init__, defScope s_Disk___init__, [.non, .adr (He.dflAt ("Disk", some "__init__") 1)], []⟩) rfl
      exact ⟨_, fd, q, He.mkr_ok (d.fact 41 (f := .mkr "Disk") rfl)⟩
    k_arm := by
      obtain ⟨fd, q⟩ := d.def_ 8 (d := ⟨("Disk", some "arm"), "arm", "Disk.arm", defArgs s_Disk_arm, defBody s_Disk_arm, defScope s_Disk_arm, [], []⟩) rfl
      exact ⟨_, fd, q, He.meth_ok (d.fact 30 (f := .meth "Disk" "arm") rfl)⟩
    k_step := by
      obtain ⟨fd, q⟩ := d.def_ 9 (d := ⟨("Disk", some "step"), "step", "Disk.step", defArgs s_Disk_step, defBody s_Disk_step, defScope s_Disk_step, [], []⟩) rfl
      exact ⟨_, fd, q, He.meth_ok (d.fact 31 (f := .meth "Disk" "step") rfl)⟩
    k_has_block := by
      obtain ⟨fd, q⟩ := d.def_ 10 (d := ⟨("Disk", some "has_block"), "has_block", "Disk.has_block", defArgs s_Disk_has_block, defBody s_Disk_has_block, defScope s_Disk_has_block, [], []⟩) rfl
      exact ⟨_, fd, q, He.meth_ok (d.fact 32 (f := .meth "Disk" "has_block") rfl)⟩
    k_read_block := by
      obtain ⟨fd, q⟩ := d.def_ 11 (d := ⟨("Disk", some "read_block"), "read_block", "Disk.read_block", defArgs s_Disk_read_block, defBody s_Disk_read_block, defScope s_Disk_read_block, [], []⟩) rfl
      exact ⟨_, fd, q, He.meth_ok (d.fact 33 (f := .meth "Disk" "read_block") rfl)⟩
    k_write_block := by
      obtain ⟨fd, q⟩ := d.def_ 12 (d := ⟨("Disk", some "write_block"), "write_block", "Disk.write_block", defArgs s_Disk_write_block, defBody s_Disk_write_block, defScope s_Disk_write_block, [], []⟩) rfl
      exact ⟨_, fd, q, He.meth_ok (d.fact 34 (f := .meth "Disk" "write_block") rfl)⟩
    k_sync_blocks := by
      obtain ⟨fd, q⟩ := d.def_ 13 (d := ⟨("Disk", some "sync_blocks"), "sync_blocks", "Disk.sync_blocks", defArgs s_Disk_sync_blocks, defBody s_Disk_sync_blocks, defScope s_Disk_sync_blocks, [], []⟩) rfl
      exact ⟨_, fd, q, He.meth_ok (d.fact 35 (f := .meth "Disk" "sync_blocks") rfl)⟩
    k_append_log := by
      obtain ⟨fd, q⟩ := d.def_ 14 (d := ⟨("Disk", some "append_log"), "append_log", "Disk.append_log", defArgs s_Disk_append_log, defBody s_Disk_append_log, defScope s_Disk_append_log, [], []⟩) rfl
      exact ⟨_, fd, q, He.meth_ok (d.fact 36 (f := .meth "Disk" "append_log") rfl)⟩
    k_sync_log := by
      obtain ⟨fd, q⟩ := d.def_ 15 (d := ⟨("Disk", some "sync_log"), "sync_log", "Disk.sync_log", defArgs s_Disk_sync_log, defBody s_Disk_sync_log, defScope s_Disk_sync_log, [], []⟩) rfl
      exact ⟨_, fd, q, He.meth_ok (d.fact 37 (f := .meth "Disk" "sync_log") rfl)⟩
    k_clear_log := by
      obtain ⟨fd, q⟩ := d.def_ 16 (d := ⟨("Disk", some "clear_log"), "clear_log", "Disk.clear_log", defArgs s_Disk_clear_log, defBody s_Disk_clear_log, defScope s_Disk_clear_log, [], []⟩) rfl
      exact ⟨_, fd, q, He.meth_ok (d.fact 38 (f := .meth "Disk" "clear_log") rfl)⟩
    k_read_log := by
      obtain ⟨fd, q⟩ := d.def_ 17 (d := ⟨("Disk", some "read_log"), "read_log", "Disk.read_log", defArgs s_Disk_read_log, defBody s_Disk_read_log, defScope s_Disk_read_log, [], []⟩) rfl
      exact ⟨_, fd, q, He.meth_ok (d.fact 39 (f := .meth "Disk" "read_log") rfl)⟩
    k_restarted := by
      obtain ⟨fd, q⟩ := d.def_ 18 (d := ⟨("Disk", some "restarted"), "restarted", "Disk.restarted", defArgs s_Disk_restarted, defBody s_Disk_restarted, defScope s_Disk_restarted, [], []⟩) rfl
      exact ⟨_, fd, q, He.meth_ok (d.fact 40 (f := .meth "Disk" "restarted") rfl)⟩
    n_abs := fre (d.fact 9 (f := .free "abs") rfl)
    n_int := fre (d.fact 10 (f := .free "int") rfl)
    n_str := fre (d.fact 11 (f := .free "str") rfl)
    n_len := fre (d.fact 12 (f := .free "len") rfl)
    n_range := fre (d.fact 13 (f := .free "range") rfl)
    n_tuple := fre (d.fact 14 (f := .free "tuple") rfl)
    n_dict := fre (d.fact 15 (f := .free "dict") rfl)
    n_max := fre (d.fact 16 (f := .free "max") rfl)
    n_enumerate := fre (d.fact 17 (f := .free "enumerate") rfl)
    d__law_dice := by
      obtain ⟨fd, q⟩ := d.def_ 0 (d := ⟨("_law_dice", none), "_law_dice", "_law_dice", defArgs s__law_dice, defBody s__law_dice, defScope s__law_dice, [], []⟩) rfl
      exact ⟨_, fd, q, glo (d.fact 0 (f := .glo "_law_dice") rfl)⟩
    d__law_roll := by
      obtain ⟨fd, q⟩ := d.def_ 1 (d := ⟨("_law_roll", none), "_law_roll", "_law_roll", defArgs s__law_roll, defBody s__law_roll, defScope s__law_roll, [], []⟩) rfl
      exact ⟨_, fd, q, glo (d.fact 1 (f := .glo "_law_roll") rfl)⟩
    d__law_rounds := by
      obtain ⟨fd, q⟩ := d.def_ 2 (d := ⟨("_law_rounds", none), "_law_rounds", "_law_rounds", defArgs s__law_rounds, defBody s__law_rounds, defScope s__law_rounds, [], []⟩) rfl
      exact ⟨_, fd, q, glo (d.fact 2 (f := .glo "_law_rounds") rfl)⟩
    d__law_told := by
      obtain ⟨fd, q⟩ := d.def_ 3 (d := ⟨("_law_told", none), "_law_told", "_law_told", defArgs s__law_told, defBody s__law_told, defScope s__law_told, [], []⟩) rfl
      exact ⟨_, fd, q, glo (d.fact 3 (f := .glo "_law_told") rfl)⟩
    d__law_block := by
      obtain ⟨fd, q⟩ := d.def_ 4 (d := ⟨("_law_block", none), "_law_block", "_law_block", defArgs s__law_block, defBody s__law_block, defScope s__law_block, [], []⟩) rfl
      exact ⟨_, fd, q, glo (d.fact 4 (f := .glo "_law_block") rfl)⟩
    d__law_deed := by
      obtain ⟨fd, q⟩ := d.def_ 5 (d := ⟨("_law_deed", none), "_law_deed", "_law_deed", defArgs s__law_deed, defBody s__law_deed, defScope s__law_deed, [], []⟩) rfl
      exact ⟨_, fd, q, glo (d.fact 5 (f := .glo "_law_deed") rfl)⟩
    e_DiskFault := ⟨xe1DiskFault, glo (d.fact 8 (f := .glo "DiskFault") rfl), xe2DiskFault, xe3DiskFault, xe4DiskFault⟩
    c_KEPT := it (d.fact 18 (f := .int "KEPT" 1) rfl)
    c_HALF := it (d.fact 19 (f := .int "HALF" 2) rfl)
    x_DD := He.exm_ok (d.fact 43 (f := .exm "DiskFault" "DiskFault" true) rfl)
    k_e := fun H => emptyT_ok hx0 H
  }
end K09
end

section
-- part K09XJ
set_option Elab.async false
set_option linter.all false
set_option maxRecDepth 100000
set_option maxHeartbeats 0
namespace K09
open PySem PySem.Spec PyProof.Rows L2 Fw Dc Gk M9
theorem run0 (w : World) : HandSHeadRun.RunEq R0 (PySem.W.view R0.prog [14]) hk0 ob0 4000 loose0 w := by
  intro os
  kernel_rfl
end K09
end

section
-- part K09XK
set_option Elab.async false
set_option linter.all false
set_option maxRecDepth 100000
set_option maxHeartbeats 2000000
namespace K09
open PySem PySem.Spec PyProof.Rows L2 Fw LamX Dc Gk M9
theorem law_at {w : World} {h : Heap} {K : PySem.W.Frag} {mg : Str → Option Value} {fa : Addr} (X : K.In h) (G : h.Ns mainGlobals mg) (hfa : mg ("law" : Str) = some (.ref fa)) (c : He.SaysX faD fnD [] tfD exD w h K) :
    LawAtS PySem.Challenge.rw_tablestack_k09_disks_and_what_a_crash_le w K (L2.CX (PySem.Challenge.rw_tablestack_k09_disks_and_what_a_crash_le).prog w) 8 63 "script" mg fa h := by
  have W := facts X G c
  have d := c.t.d
  obtain ⟨fd, F⟩ := d.defs (d := ⟨("law", none), "law", "law", defArgs s_law, defBody s_law, defScope s_law, [], []⟩) (by repeat (first | exact List.mem_cons_self | apply List.mem_cons_of_mem))
  have e := hfa.symm.trans (He.glo_ok X G (d.facts (f := .glo "law") (by repeat (first | exact List.mem_cons_self | apply List.mem_cons_of_mem))))
  cases e
  have b := FunD.bindsA (ps := ["script"]) F fun _ _ _ _ _ _ us hl => match us, hl with | [_], _ => rfl
  have hcode : fd.code = .ref (He.cT K ("law", none)).1 := by
    obtain ⟨oc, od, dV, kV, doc, pm, an, cdv, ct, osl, rfl, lk, hcd, _, _⟩ := F.ex
    obtain ⟨c', rfl⟩ := He.codeIn_ref hcd
    show Value.ref c' = _
    exact congrArg Value.ref (He.codeOf_eq lk rfl).symm
  refine ⟨fd, tfD.map (He.cT K), spLaw K (He.cT K ("law", none)).2 (He.cT K ("_law_deed", none)).2, ?_, ?_, ?_, fun s v => b s [v] rfl, fun H a ns hl _ hH hS => ?_, fun base hK hm hT => ?_⟩
  · intro p hp
    obtain ⟨q, hq, rfl⟩ := List.mem_map.mp hp
    exact c.empty q hq
  · intro p hp
    obtain ⟨q, hq, rfl⟩ := List.mem_map.mp hp
    exact c.out q hq
  · intro p hp
    obtain ⟨q, hq, rfl⟩ := List.mem_map.mp hp
    exact PySem.W.codeHd_of_K X (c.hd q hq)
  · refine ⟨a, ns, rfl, hS, hl, fun q hq => ?_, fun _ => rfl⟩
    rcases List.mem_cons.mp hq with rfl | hq
    · exact TabS.nil (hH _ (List.mem_map_of_mem List.mem_cons_self))
    rw [List.mem_singleton.mp hq]
    exact TabS.nil (hH _ (List.mem_map_of_mem (List.mem_cons_of_mem _ List.mem_cons_self)))
  · have TB := hT _ (List.mem_map_of_mem List.mem_cons_self)
    have hx := c.more
    unfold exD at hx
    obtain ⟨hx0, hx⟩ := He.ba hx
    have hx1 := hx
    have TF1 : TabD K mg base (He.cT K ("_law_deed", none)).2 := by
      obtain ⟨fd2, F2⟩ := d.def_ 5 (d := ⟨("_law_deed", none), "_law_deed", "_law_deed", defArgs s__law_deed, defBody s__law_deed, defScope s__law_deed, [], []⟩) rfl
      refine ⟨_, (He.cT K ("_law_deed", none)).1, fd2, F2, He.glo_ok X G (d.fact 5 (f := .glo "_law_deed") rfl), ?_, hT _ (List.mem_map_of_mem (List.mem_cons_of_mem _ List.mem_cons_self))⟩
      obtain ⟨oc, od, dV, kV, doc, pm, an, cdv, ct, osl, rfl, lk, hcd, _, _⟩ := F2.ex
      obtain ⟨c', rfl⟩ := He.codeIn_ref hcd
      show Value.ref c' = _
      exact congrArg Value.ref (He.codeOf_eq lk rfl).symm
    have nT01 : (He.cT K ("law", none)).2 ≠ (He.cT K ("_law_deed", none)).2 := of_decide_eq_true hx1
    have roll := ok__law_roll (P := (PySem.Challenge.rw_tablestack_k09_disks_and_what_a_crash_le).prog) (w := w) (base := base) W.toWl
    have dice := ok__law_dice (P := (PySem.Challenge.rw_tablestack_k09_disks_and_what_a_crash_le).prog) (w := w) (base := base) W.toWl
    have rounds := ok__law_rounds W.toWl dice
    have st := ok_step (P := (PySem.Challenge.rw_tablestack_k09_disks_and_what_a_crash_le).prog) (w := w) (base := base) W.toWd
    have ar := ok_arm (P := (PySem.Challenge.rw_tablestack_k09_disks_and_what_a_crash_le).prog) (w := w) (base := base) W.toWd
    have hb := ok_has_block (P := (PySem.Challenge.rw_tablestack_k09_disks_and_what_a_crash_le).prog) (w := w) (base := base) W.toWd
    have rb := ok_read_block (P := (PySem.Challenge.rw_tablestack_k09_disks_and_what_a_crash_le).prog) (w := w) (base := base) W.toWd
    have rl := ok_read_log (P := (PySem.Challenge.rw_tablestack_k09_disks_and_what_a_crash_le).prog) (w := w) (base := base) W.toWd
    have wb := ok_write_block W.toWd st
    have sb := ok_sync_blocks W.toWd st
    have al := ok_append_log W.toWd st
    have sl := ok_sync_log W.toWd st
    have cl := ok_clear_log W.toWd st
    have i1 := ok_init1 (P := (PySem.Challenge.rw_tablestack_k09_disks_and_what_a_crash_le).prog) (w := w) (base := base) W.toWd
    have i3 := ok_init3 (P := (PySem.Challenge.rw_tablestack_k09_disks_and_what_a_crash_le).prog) (w := w) (base := base) W.toWd
    have rs := ok_restarted W.toWd i3
    have lb := ok__law_block W roll
    have ld := ok__law_deed W TF1 nT01 roll lb wb sb al sl cl
    exact ok_law W F hcode TB nT01 roll rounds ld i1 ar rl sl rb hb wb rs
end K09
open PySem PySem.W PySem.Calls PyProof.Rows
theorem PySem.Challenge.cw_tablestack_k09_disks_and_what_a_crash_le_holds : PySem.Challenge.rw_tablestack_k09_disks_and_what_a_crash_le.Holds := by
  w_on; o_law
  refine HandSHeadRun.head_any (r := OpenLaw.row PySem.Challenge.rw_tablestack_k09_disks_and_what_a_crash_le) (q := view (OpenLaw.row PySem.Challenge.rw_tablestack_k09_disks_and_what_a_crash_le).prog [14]) (H := K09.hk0) (ob := K09.ob0) (M := 4000) (loose := K09.loose0) (d := HandSHeadRun.topDef (OpenLaw.row PySem.Challenge.rw_tablestack_k09_disks_and_what_a_crash_le).prog 14) (kwd := []) K09.ob0_eq
    (by kernel_rfl) (fun s => by kernel_rfl) K09.run0 (by kernel_rfl) (by kernel_rfl) (by kernel_rfl) (by rfl) (by first | assumption | decide +kernel) (by decide +kernel) ⟨rfl, rfl, rfl, rfl, rfl, by decide +kernel⟩ ?hw ?hc
  case hw => w_witness2
  case hc =>
    refine LamX.walk_ofTsE (l := PySem.Challenge.rw_tablestack_k09_disks_and_what_a_crash_le) (n := 63) (k := 8) (x := "script") (CX := fun w => L2.CX (PySem.Challenge.rw_tablestack_k09_disks_and_what_a_crash_le).prog w) rfl (by decide) (by kernel_rfl) ⟨rfl, by decide, by decide⟩ ?F (fun _ _ _ _ _ z => by
      obtain ⟨_, _, _, _, _, _, _, _, _, _, _, _, z⟩ := z
      exact z)
    intro w mg fa h Y G hmg0
    obtain ⟨K, KX, c⟩ := Y
    have hmg : mg ("law" : PySem.Str) = some (.ref fa) := by
      have e : (HandSHeadRun.topDef (OpenLaw.row PySem.Challenge.rw_tablestack_k09_disks_and_what_a_crash_le).prog 14).name = ("law" : PySem.Str) := by kernel_rfl
      rw [← e]
      exact hmg0
    exact ⟨K, KX, K09.law_at KX G hmg c⟩
end
