import PyProof.Rows.All
import Wide.All
import OpenK.AllK
import Wide.FinOn
import PyProof.EqAt
import PyProof.EqKinds
import PyProof.TupleCall
import KE.KLam
import HandS.ForMost
import HandS.Wide
import HandS.StrMore
import HandS.Replace
import HandS.FStr
import HandS.Exc
import HandS.ExcOwn
import HandS.TryMany
import HandS.WordsExc
import HandS.Small
import HandS.RaiseMore
import HandS.Deep
import HandS.DeepEq
import HandS.CallRecv
import HandS.Lambda
import HandS.EndBits
import HandS.EndTab
import HandS.HeadWalk
import HandS.Defaults
import HandS.Head0
import HandS.Head1
import HandS.Head2
import HandS.HeadHook1
import HandS.HeadHook2
import HandS.HeadHook3
import HandS.HeadHook4
import HandS.ReplaceLit
import PySem.Challenge.RW_tablestack_k01_texts_to_tokens
section
-- part Fw
set_option Elab.async false
set_option linter.all false
set_option maxRecDepth 100000
set_option maxHeartbeats 2000000
/-! Fw: words of our own over the hand layer: a def that may be called by its name, what is kept of a heap, dice. -/
namespace Fw
open PySem PySem.Spec PyProof.Rows L2

/-- a def of the module that may be called by its name x; it may raise -/
structure Cl (P : Program) (w : World) (K : PySem.W.Frag) (mg : Str → Option Value) (base : Heap) (k : Nat) (x : Str) (sp : Sp) : Prop where
  ex : ∃ (f : Addr) (fd : FuncData) (ps : List Str), FnOk P w K mg base (L2.CX P w) k f fd ps sp ∧ mg x = some (.ref f) ∧ PySem.W.keepIn K (.ref f) = true ∧ Binds K fd ps []
abbrev FnP (K : PySem.W.Frag) (mg : Str → Option Value) (x : Str) (st : Stmt) : Prop := ∃ (f : Addr) (fd : FuncData), FunD K x x (defArgs st) (defBody st) (defScope st) [] [] f fd ∧ mg x = some (.ref f)
section
variable {P : Program} {w : World} {K : PySem.W.Frag} {mg : Str → Option Value} {base : Heap} {x : Str} {st : Stmt}
theorem cl_mk {N ps : List Str} {k : Nat} {sp : Sp} (F : FnP K mg x st) (S : FnScope N ps (defScope st))
    (b : ∀ (kV doc pm : Value) (an : Option Addr) (cdv ct : Value) (us : List Value), us.length = ps.length → bindArgs (PySem.W.fnOf x x (defArgs st) (defBody st) (defScope st) .none kV doc pm an cdv ct) ⟨us, []⟩ = pure (ps.zip us))
    (len : ∀ vs H Q E, sp vs H Q E → vs.length = ps.length)
    (hbody : ∀ (f : Addr) (cdv : Value) (A : Around) (outer : List Env) (s : Shared) (H : Hp) (vs : List V) (Q : VK) (E : XK), Room k (A.deeper (envOfC x (defScope st) s.heap.objs.size f cdv)) → sp vs H Q E →
      ∃ t, PSs (cxOf (L2.CX P w) P w K mg base N x (defScope st) f cdv A outer s H E) (defBody st) t ∧ t { nx := fun _ H' => Q .non H', rt := Q } (start N vs) H) : Cl P w K mg base (k + 1) x sp := by
  obtain ⟨f, fd, F, m⟩ := F
  exact ⟨f, fd, ps, F.ok S len (hbody f), m, F.kp, F.bindsN b⟩
theorem Cl.mono {j k : Nat} {sp : Sp} (c : Cl P w K mg base j x sp) (h : j ≤ k) : Cl P w K mg base k x sp := by
  obtain ⟨f, fd, ps, F, m, kp, b⟩ := c.ex
  exact ⟨f, fd, ps, F.mono h, m, kp, b⟩
/-- a promise that says more -/
theorem Cl.imp {k : Nat} {sp sp' : Sp} (c : Cl P w K mg base k x sp) (h : ∀ vs H Q E, sp' vs H Q E → sp vs H Q E) : Cl P w K mg base k x sp' := by
  obtain ⟨f, fd, ps, F, m, kp, b⟩ := c.ex
  exact ⟨f, fd, ps, ⟨fun vs H Q E q => F.len vs H Q E (h _ _ _ _ q), fun A outer s H args us vs Q E hr e0 hb r q => F.run A outer s H args us vs Q E hr e0 hb r (h _ _ _ _ q)⟩, m, kp, b⟩
end
def tCl (sp : Sp) (E : XK) (t : TA) : TE := fun σ H Q => t σ H fun vs H1 => sp vs H1 Q E
section
variable {X : Cx} {k j : Nat} {C : Addr} {x m : Str} {sp : Sp} {E : XK} {p pos apos : Pos} {e o : Expr} {es : List Expr} {ta : TE} {t : TA}
theorem pe_cl (c : Cl X.prog X.w X.K X.mg X.base k x sp) (hr : Room j X.A) (hk : k ≤ j) (hg : Gl X x) (hx : Passes (L2.CX X.prog X.w) X E) (ha : PA X (e :: es) t)
    (hdb : (x == ("__debug__" : Str)) = false := by decide) (he : starEach (e :: es) X.env = (false, eval e X.env) :: starEach es X.env := by rfl) (hpl : (backTo pos (starEach es X.env)).any (·.1) = false := by rfl) :
    PE X (.Call (.Name x p) (e :: es) [] pos) (tCl sp E t) := by
  obtain ⟨f, fd, ps, F, hm, kp, b⟩ := c.ex
  refine ⟨fun pins s σ H Q I h => ?_⟩
  refine (pe_call F (hr.mono hk) hg hm kp b .nil hx ha hdb he hpl).run pins s σ H Q I ?_
  have q : t σ H fun vs H1 => sp vs H1 Q E := h
  show t σ H fun vs H1 => sp (vs ++ []) H1 Q E
  have e0 : (fun (vs : List V) (H1 : Hp) => sp (vs ++ []) H1 Q E) = fun vs H1 => sp vs H1 Q E := by
    funext vs H1
    rw [List.append_nil]
  rw [e0]
  exact q
/-- what leaves a def's own body -/
theorem passD {P : Program} {w : World} {K : PySem.W.Frag} {mg : Str → Option Value} {base : Heap} {N : List Str} {x : Str} {sc : Scope} {f : Addr} {cdv : Value} {A : Around} {outer : List Env} {s : Shared} {H : Hp} {E : XK} :
    Passes (L2.CX P w) (cxOf (L2.CX P w) P w K mg base N x sc f cdv A outer s H E) E := passes_call (takes_of rfl rfl rfl rfl) fun _ _ _ _ h => h
end

/-! ### texts as lists of signs -/
abbrev T (l : List Nat) : V := .str ⟨l.toArray⟩
theorem tl_mk (l : List Nat) : ((⟨l.toArray⟩ : Str).cps.toList) = l := by simp
theorem len_mk (l : List Nat) : (⟨l.toArray⟩ : Str).length = l.length := by simp [Str.length]

/-! ### heaps: all but one object is kept -/
def Kp (d : Addr) (H H' : Hp) : Prop := ∀ b o, b ≠ d → H b = some o → H' b = some o
theorem Kp.refl (d : Addr) (H : Hp) : Kp d H H := fun _ _ _ h => h
theorem Kp.trans {d : Addr} {H H1 H2 : Hp} (a : Kp d H H1) (b : Kp d H1 H2) : Kp d H H2 := fun c o n h => b c o n (a c o n h)
theorem Kp.at_ {d : Addr} {H : Hp} {o : HO} : Kp d H (upd H d o) := fun b u n h => by rw [upd_ne n]; exact h
theorem Kp.of {d : Addr} {H H' : Hp} (h : Same H H') : Kp d H H' := fun b o _ e => h b o e
theorem same_new {H : Hp} {p : Addr} (h : H p = none) (o : HO) : Same H (upd H p o) := fun b u q => by rw [upd_ne (ne_of_none q h)]; exact q
theorem Kp.new {d : Addr} {H : Hp} {p : Addr} {o : HO} (h : H p = none) : Kp d H (upd H p o) := Kp.of (same_new h o)
/-- three ints at d -/
def Dice (H : Hp) (d : Addr) : Prop := ∃ a b c : Int, H d = some (.lst [.int a, .int b, .int c])
theorem Dice.new {H : Hp} {d p : Addr} {o : HO} (h : Dice H d) (hp : H p = none) : Dice (upd H p o) d := by
  obtain ⟨a, b, c, e⟩ := h
  exact ⟨a, b, c, by rw [upd_ne (ne_of_none e hp)]; exact e⟩
/-! ### classes -/
/-- a class that may be made by its name x -/
structure Mc (P : Program) (w : World) (K : PySem.W.Frag) (mg : Str → Option Value) (base : Heap) (k : Nat) (x : Str) (C : Addr) (sp : Sp) : Prop where
  ex : ∃ (f : Addr) (fd : FuncData) (ps : List Str), Mk K C f ∧ FnOk P w K mg base (L2.CX P w) k f fd ps sp ∧ mg x = some (.ref C) ∧ Binds K fd ps []
/-- a method m of the class at C -/
structure Me (P : Program) (w : World) (K : PySem.W.Frag) (mg : Str → Option Value) (base : Heap) (k : Nat) (C : Addr) (m : Str) (sp : Sp) : Prop where
  ex : ∃ (f : Addr) (fd : FuncData) (ps : List Str), Cls K C ∧ Meth K C m f ∧ FnOk P w K mg base (L2.CX P w) k f fd ps sp ∧ Binds K fd ps []
/-- a method's text as it stands -/
abbrev FnM (K : PySem.W.Frag) (C : Addr) (m qual : Str) (st : Stmt) : Prop := ∃ (f : Addr) (fd : FuncData), FunD K m qual (defArgs st) (defBody st) (defScope st) [] [] f fd ∧ Meth K C m f
section
variable {P : Program} {w : World} {K : PySem.W.Frag} {mg : Str → Option Value} {base : Heap} {x m qual : Str} {st : Stmt} {C : Addr}
theorem fn_m {N ps : List Str} {k : Nat} {sp : Sp} {f : Addr} {fd : FuncData} (F : FunD K m qual (defArgs st) (defBody st) (defScope st) [] [] f fd) (S : FnScope N ps (defScope st))
    (len : ∀ vs H Q E, sp vs H Q E → vs.length = ps.length)
    (hbody : ∀ (f : Addr) (cdv : Value) (A : Around) (outer : List Env) (s : Shared) (H : Hp) (vs : List V) (Q : VK) (E : XK), Room k (A.deeper (envOfC qual (defScope st) s.heap.objs.size f cdv)) → sp vs H Q E →
      ∃ t, PSs (cxOf (L2.CX P w) P w K mg base N qual (defScope st) f cdv A outer s H E) (defBody st) t ∧ t { nx := fun _ H' => Q .non H', rt := Q } (start N vs) H) : FnOk P w K mg base (L2.CX P w) (k + 1) f fd ps sp := F.ok S len (hbody f)
theorem mc_mk {N ps : List Str} {k : Nat} {sp : Sp} (F : ∃ (f : Addr) (fd : FuncData), FunD K "__init__" qual (defArgs st) (defBody st) (defScope st) [] [] f fd ∧ Mk K C f) (hm : mg x = some (.ref C)) (S : FnScope N ps (defScope st))
    (b : ∀ (kV doc pm : Value) (an : Option Addr) (cdv ct : Value) (us : List Value), us.length = ps.length → bindArgs (PySem.W.fnOf "__init__" qual (defArgs st) (defBody st) (defScope st) .none kV doc pm an cdv ct) ⟨us, []⟩ = pure (ps.zip us))
    (len : ∀ vs H Q E, sp vs H Q E → vs.length = ps.length)
    (hbody : ∀ (f : Addr) (cdv : Value) (A : Around) (outer : List Env) (s : Shared) (H : Hp) (vs : List V) (Q : VK) (E : XK), Room k (A.deeper (envOfC qual (defScope st) s.heap.objs.size f cdv)) → sp vs H Q E →
      ∃ t, PSs (cxOf (L2.CX P w) P w K mg base N qual (defScope st) f cdv A outer s H E) (defBody st) t ∧ t { nx := fun _ H' => Q .non H', rt := Q } (start N vs) H) : Mc P w K mg base (k + 1) x C sp := by
  obtain ⟨f, fd, F, M⟩ := F
  exact ⟨f, fd, ps, M, fn_m F S len hbody, hm, F.bindsN b⟩
theorem me_mk {N ps : List Str} {k : Nat} {sp : Sp} (F : FnM K C m qual st) (c : Cls K C) (S : FnScope N ps (defScope st))
    (b : ∀ (kV doc pm : Value) (an : Option Addr) (cdv ct : Value) (us : List Value), us.length = ps.length → bindArgs (PySem.W.fnOf m qual (defArgs st) (defBody st) (defScope st) .none kV doc pm an cdv ct) ⟨us, []⟩ = pure (ps.zip us))
    (len : ∀ vs H Q E, sp vs H Q E → vs.length = ps.length)
    (hbody : ∀ (f : Addr) (cdv : Value) (A : Around) (outer : List Env) (s : Shared) (H : Hp) (vs : List V) (Q : VK) (E : XK), Room k (A.deeper (envOfC qual (defScope st) s.heap.objs.size f cdv)) → sp vs H Q E →
      ∃ t, PSs (cxOf (L2.CX P w) P w K mg base N qual (defScope st) f cdv A outer s H E) (defBody st) t ∧ t { nx := fun _ H' => Q .non H', rt := Q } (start N vs) H) : Me P w K mg base (k + 1) C m sp := by
  obtain ⟨f, fd, F, M⟩ := F
  exact ⟨f, fd, ps, c, M, fn_m F S len hbody, F.bindsN b⟩
end
def tMk (C : Addr) (sp : Sp) (E : XK) (t : TA) : TE := fun σ H Q => t σ H fun vs H1 => ∀ x dx, H1 x = none → H1 dx = none → dx ≠ x → sp (.ref x :: vs) (upd (upd H1 dx (.own x)) x (.ins C dx [])) (fun v H2 => v = .non ∧ Q (.ref x) H2) E
def tMe (C : Addr) (m : Str) (sp : Sp) (E : XK) (ta : TE) (t : TA) : TE := fun σ H Q => ta σ H fun x H1 => ∃ a dx fs, x = .ref a ∧ H1 a = some (.ins C dx fs) ∧ fs.lookup m = none ∧ t σ H1 fun vs H2 => sp (x :: vs) H2 Q E
section
variable {X : Cx} {k j : Nat} {C : Addr} {x m : Str} {sp : Sp} {E : XK} {p pos apos : Pos} {e o : Expr} {es : List Expr} {ta : TE} {t : TA}
theorem pe_mc (c : Mc X.prog X.w X.K X.mg X.base k x C sp) (hr : Room j X.A) (hk : k + 1 ≤ j) (hg : Gl X x) (hx : Passes (L2.CX X.prog X.w) X E) (ha : PA X (e :: es) t)
    (hdb : (x == ("__debug__" : Str)) = false := by decide) (he : starEach (e :: es) X.env = (false, eval e X.env) :: starEach es X.env := by rfl) (hpl : (backTo pos (starEach es X.env)).any (·.1) = false := by rfl) :
    PE X (.Call (.Name x p) (e :: es) [] pos) (tMk C sp E t) := by
  obtain ⟨f, fd, ps, M, F, hm, b⟩ := c.ex
  refine ⟨fun pins s σ H Q I h => ?_⟩
  refine (pe_make M F (hr.mono hk) hg hm b .nil hx ha hdb he hpl).run pins s σ H Q I ?_
  have q : t σ H fun vs H1 => ∀ x dx, H1 x = none → H1 dx = none → dx ≠ x → sp (.ref x :: vs) (upd (upd H1 dx (.own x)) x (.ins C dx [])) (fun v H2 => v = .non ∧ Q (.ref x) H2) E := h
  have e0 : (fun (vs : List V) (H1 : Hp) => ∀ x dx, H1 x = none → H1 dx = none → dx ≠ x → sp (.ref x :: (vs ++ [])) (upd (upd H1 dx (.own x)) x (.ins C dx [])) (fun v H2 => v = .non ∧ Q (.ref x) H2) E) =
      fun vs H1 => ∀ x dx, H1 x = none → H1 dx = none → dx ≠ x → sp (.ref x :: vs) (upd (upd H1 dx (.own x)) x (.ins C dx [])) (fun v H2 => v = .non ∧ Q (.ref x) H2) E := by
    funext vs H1
    rw [List.append_nil]
  show t σ H fun vs H1 => ∀ x dx, H1 x = none → H1 dx = none → dx ≠ x → sp (.ref x :: (vs ++ [])) (upd (upd H1 dx (.own x)) x (.ins C dx [])) (fun v H2 => v = .non ∧ Q (.ref x) H2) E
  rw [e0]
  exact q
theorem pe_me {pl : Sem Bool} (c : Me X.prog X.w X.K X.mg X.base k C m sp) (hr : Room j X.A) (hk : k ≤ j) (hx : Passes (L2.CX X.prog X.w) X E) (he : PE X o ta) (ha : PA X (e :: es) t)
    (hst : starEach (e :: es) X.env = (false, eval e X.env) :: starEach es X.env := by rfl) (hpl : (backTo pos (starEach es X.env)).any (·.1) = false := by rfl)
    (ht : eval (.Call (.Attribute o m apos) (e :: es) [] pos) X.env = (do
      let ov ← eval o X.env
      standAt apos.atName
      let (f, first) ← holding [ov] (getMethod ov m pl)
      callWith pos f first (backTo pos (starEach (e :: es) X.env)) (backToKw pos (keywordEach [] X.env))) := by rfl) :
    PE X (.Call (.Attribute o m apos) (e :: es) [] pos) (tMe C m sp E ta t) := by
  obtain ⟨f, fd, ps, hc, hm, F, b⟩ := c.ex
  refine ⟨fun pins s σ H Q I h => ?_⟩
  refine (pe_meth (pl := pl) he hc hm F (hr.mono hk) b .nil hx ha hst hpl ht).run pins s σ H Q I ?_
  have e0 : (fun (x : V) (H1 : Hp) => ∃ a dx fs, x = .ref a ∧ H1 a = some (.ins C dx fs) ∧ fs.lookup m = none ∧ t σ H1 fun vs H2 => sp (x :: (vs ++ [])) H2 Q E) =
      fun x H1 => ∃ a dx fs, x = .ref a ∧ H1 a = some (.ins C dx fs) ∧ fs.lookup m = none ∧ t σ H1 fun vs H2 => sp (x :: vs) H2 Q E := by
    funext x H1
    simp only [List.append_nil]
  show ta σ H fun x H1 => ∃ a dx fs, x = .ref a ∧ H1 a = some (.ins C dx fs) ∧ fs.lookup m = none ∧ t σ H1 fun vs H2 => sp (x :: (vs ++ [])) H2 Q E
  rw [e0]
  exact h
theorem pe_me0 {pl : Sem Bool} (c : Me X.prog X.w X.K X.mg X.base k C m sp) (hr : Room j X.A) (hk : k ≤ j) (hx : Passes (L2.CX X.prog X.w) X E) (he : PE X o ta)
    (ht : eval (.Call (.Attribute o m apos) [] [] pos) X.env = (do
      let ov ← eval o X.env
      standAt apos.atName
      let (f, first) ← holding [ov] (getMethod ov m pl)
      callWith pos f first (backTo pos (starEach [] X.env)) (backToKw pos (keywordEach [] X.env))) := by rfl) :
    PE X (.Call (.Attribute o m apos) [] [] pos) (tMe C m sp E ta tNil) := by
  obtain ⟨f, fd, ps, hc, hm, F, b⟩ := c.ex
  exact pe_meth0 (pl := pl) he hc hm F (hr.mono hk) b .nil hx ht
end
end Fw
end

section
-- part Fs
set_option Elab.async false
set_option linter.all false
set_option maxRecDepth 100000
set_option maxHeartbeats 2000000
/-! Fs: readings, step by step -/
namespace Fw
open PySem PySem.Spec PyProof.Rows L2
section
variable {K : PySem.W.Frag} {σ : L2.St} {H : Hp} {Q : VK} {ta tb te tc : TE} {t u : TS} {D : Ends} {v x y : V} {i : Nat} {r : R2} {tt tu : TT} {QT : Bool → Hp → Prop} {tr : TA} {QA : List V → Hp → Prop} {E : XK} {sp : Sp}
theorem w_seq (h : t { D with nx := u D } σ H) : tSeq t u D σ H := h
theorem w_asg {g : TG} (h : te σ H fun x H1 => g x σ H1 D.nx) : tAsg te g D σ H := h
theorem w_ret (h : te σ H D.rt) : tRet te D σ H := h
theorem w_drop (h : te σ H fun _ H1 => D.nx σ H1) : tDrop te D σ H := h
theorem w_next (h : D.nx σ H) : tNext D σ H := h
theorem w_ifs (h : tt σ H fun b H1 => if b = true then t D σ H1 else u D σ H1) : tIfS tt t u D σ H := h
theorem w_var (h : σ[i]? = some (some v)) (q : Q v H) : tVar i σ H Q := ⟨v, h, q⟩
theorem w_c (q : Q v H) : tC v σ H Q := q
theorem w_op (h : ta σ H fun x H1 => tb σ H1 fun y H2 => r x y H2 Q) : tOp r ta tb σ H Q := h
theorem w_un {r : V → Hp → VK → Prop} (h : ta σ H fun x H1 => r x H1 Q) : tUn r ta σ H Q := h
theorem w_cons (h : ta σ H fun x H1 => tr σ H1 fun xs H2 => QA (x :: xs) H2) : tCons ta tr σ H QA := h
theorem w_nil (q : QA [] H) : tNil σ H QA := q
theorem w_cl (h : tr σ H fun vs H1 => sp vs H1 Q E) : tCl sp E tr σ H Q := h
theorem w_cb {r : List V → Hp → VK → Prop} (h : tr σ H fun vs H1 => r vs H1 Q) : tCB r tr σ H Q := h
theorem w_gname {Q : L2.St → Hp → Prop} (h : Q (σ.set i (some v)) H) : gName i v σ H Q := h
theorem w_gsub {Q : L2.St → Hp → Prop} {s : TSet} (h : ta σ H fun o H1 => tb σ H1 fun i H2 => s o i v H2 fun H3 => Q σ H3) : gSub ta tb s v σ H Q := h
theorem w_test (h : te σ H fun x H1 => ∃ k, x = .bl k ∧ QT k H1) : tTest te σ H QT := h
theorem w_B (h : te σ H fun x H1 => ∃ k, x = .bl k ∧ QT k H1) : tB te σ H QT := h
theorem w_bl {b : Bool} {P : Bool → Prop} (h : P b) : ∃ k, V.bl b = V.bl k ∧ P k := ⟨b, rfl, h⟩
theorem w_and (h : tt σ H fun b H1 => if b = true then tu σ H1 QT else QT false H1) : tAnd tt tu σ H QT := h
theorem w_or (h : tt σ H fun b H1 => if b = true then QT true H1 else tu σ H1 QT) : tOr tt tu σ H QT := h
theorem w_not (h : tt σ H fun b H1 => QT (!b) H1) : tNot tt σ H QT := h
theorem w_if (h : tt σ H fun b H1 => if b = true then ta σ H1 Q else tb σ H1 Q) : tIf tt ta tb σ H Q := h
theorem w_I0 {g : Int → Int → V} {i j : Int} (q : Q (g i j) H) : rI0 g (.int i) (.int j) H Q := ⟨i, j, rfl, rfl, q⟩
theorem w_I {C : Int → Int → Prop} {g : Int → Int → V} {i j : Int} (c : C i j) (q : Q (g i j) H) : rI C g (.int i) (.int j) H Q := ⟨i, j, rfl, rfl, c, q⟩
theorem w_eq (s : scal x y = true) (q : Q (.bl (decide (x = y))) H) : rEq x y H Q := ⟨s, q⟩
theorem w_ne (s : scal x y = true) (q : Q (.bl (!decide (x = y))) H) : rNe x y H Q := ⟨s, q⟩
theorem w_ixL {p : Addr} {xs : List V} {i : Int} (h : H p = some (.lst xs)) (a : atI xs i = some v) (q : Q v H) : rIxL K (.ref p) (.int i) H Q := ⟨p, xs, i, v, rfl, rfl, .inl (.inl h), a, q⟩
theorem w_setL {p : Addr} {xs : List V} {k : Int} {j : Nat} {Q : Hp → Prop} (h : H p = some (.lst xs)) (a : ixN xs.length k = some j) (q : Q (upd H p (.lst (xs.set j v)))) : rSetL (.ref p) (.int k) v H Q := ⟨p, xs, k, j, rfl, rfl, h, a, q⟩
theorem w_lst (h : tr σ H fun xs H1 => xs.length ≤ sizeLine ∧ ∀ p, H1 p = none → Q (.ref p) (upd H1 p (.lst xs))) : tLst tr σ H Q := h
theorem w_tup (h : tr σ H fun xs H1 => xs.length ≤ sizeLine ∧ ∀ p, H1 p = none → Q (.ref p) (upd H1 p (.tup xs))) : tTup tr σ H Q := h
theorem w_iteD {p : Prop} [Decidable p] {A B : Prop} (h1 : p → A) (h2 : ¬ p → B) : if decide p = true then A else B := by
  by_cases c : p
  · rw [if_pos (decide_eq_true c)]
    exact h1 c
  · rw [if_neg (by simp [c])]
    exact h2 c
theorem w_ite {b : Bool} {A B : Prop} (h1 : b = true → A) (h2 : b = false → B) : if b = true then A else B := by
  cases b with
  | true => rw [if_pos rfl]; exact h1 rfl
  | false => rw [if_neg Bool.false_ne_true]; exact h2 rfl
theorem w_iteT {A B : Prop} (h : A) : if true = true then A else B := by rw [if_pos rfl]; exact h
theorem w_iteF {A B : Prop} (h : B) : if false = true then A else B := by rw [if_neg Bool.false_ne_true]; exact h
theorem w_fld {f : Str} (h : ta σ H fun x H1 => ∃ a C dx fs v, x = .ref a ∧ H1 a = some (.ins C dx fs) ∧ Cls K C ∧ NoAttr K C f ∧ fs.lookup f = some v ∧ Q v H1) : tFld K ta f σ H Q := h
theorem w_mk {C : Addr} (h : tr σ H fun vs H1 => ∀ x dx, H1 x = none → H1 dx = none → dx ≠ x → sp (.ref x :: vs) (upd (upd H1 dx (.own x)) x (.ins C dx [])) (fun v H2 => v = .non ∧ Q (.ref x) H2) E) : tMk C sp E tr σ H Q := h
theorem w_me {C : Addr} {m : Str} (h : ta σ H fun x H1 => ∃ a dx fs, x = .ref a ∧ H1 a = some (.ins C dx fs) ∧ fs.lookup m = none ∧ tr σ H1 fun vs H2 => sp (x :: vs) H2 Q E) : tMe C m sp E ta tr σ H Q := h
theorem w_sfld {tv : TE} {f : Str} (h : tv σ H fun y H1 => ta σ H1 fun x H2 => ∃ a C dx fs, x = .ref a ∧ H2 a = some (.ins C dx fs) ∧ Cls K C ∧ NoAttr K C f ∧ fs.length < 1000 ∧ D.nx σ (upd H2 a (.ins C dx (putF f y fs)))) : sFld K ta tv f D σ H := h
theorem w_bm {T : String} {r : V → List V → Hp → VK → Prop} (h : ta σ H fun x H1 => tyV K T x H1 ∧ tr σ H1 fun xs H2 => r x xs H2 Q) : tBM K T r ta tr σ H Q := h
theorem w_bm0 {T : String} {r : V → List V → Hp → VK → Prop} (h : ta σ H fun x H1 => tyV K T x H1 ∧ r x [] H1 Q) : tBM0 K T r ta σ H Q := h
theorem w_sl {r : V → Option Int → Option Int → Hp → VK → Prop} {tl th : TO} (h : te σ H fun x H1 => tl σ H1 fun l H2 => th σ H2 fun u H3 => r x l u H3 Q) : tSl r te tl th σ H Q := h
theorem w_part {Q : Option Int → Hp → Prop} (h : te σ H fun x H1 => ∃ i, x = .int i ∧ Q (some i) H1) : tPart te σ H Q := h
theorem w_nopart {Q : Option Int → Hp → Prop} (h : Q none H) : tNoPart σ H Q := h
theorem w_partI {n : Int} {P : Int → Prop} (h : P n) : ∃ i, V.int n = V.int i ∧ P i := ⟨n, rfl, h⟩
theorem w_aug {ti : TIp} (h : σ[i]? = some (some x)) (q : te σ H fun y H1 => ti x y H1 fun z H2 => D.nx (σ.set i (some z)) H2) : tAug i te ti D σ H := ⟨x, h, q⟩
theorem w_ipI {f : Int → Int → Int} {i j : Int} (q : Q (.int (f i j)) H) : ipI f (.int i) (.int j) H Q := ⟨i, j, rfl, rfl, q⟩
end
theorem hu64 {k : Nat} {A : Around} (r : Room k A) : A.units + 64 < cLine := by have := r.un; omega
theorem hu1 {k : Nat} {A : Around} (r : Room k A) : A.units < cLine := by have := r.un; omega
section
variable {K : PySem.W.Frag} {σ : L2.St} {H : Hp} {Q : VK} {ta tb tc : TE} {r r' : R2} {v x y : V}
theorem w_chain (h : ta σ H fun x H1 => tb σ H1 fun y H2 => r x y H2 fun z H3 => ∃ k, z = .bl k ∧ (if k = true then tc σ H3 fun w' H4 => r' y w' H4 Q else Q (.bl false) H3)) : tChain r r' ta tb tc σ H Q := h
theorem w_x1i {c : Int} {P : Int → Prop} (h : P c) : ∃ i, [V.int c] = [V.int i] ∧ P i := ⟨c, rfl, h⟩
theorem w_x1b {c : Bool} {P : Bool → Prop} (h : P c) : ∃ i, [V.bl c] = [V.bl i] ∧ P i := ⟨c, rfl, h⟩
theorem w_x1s {c : Str} {P : Str → Prop} (h : P c) : ∃ i, [V.str c] = [V.str i] ∧ P i := ⟨c, rfl, h⟩
theorem w_int1i {c : Int} {P : Int → Prop} {R : Prop} (h : P c) : (∃ i, [V.int c] = [V.int i] ∧ P i) ∨ R := .inl ⟨c, rfl, h⟩
theorem w_int1b {c : Bool} {P : Bool → Prop} {R : Prop} (h : P c) : R ∨ ∃ i, [V.bl c] = [V.bl i] ∧ P i := .inr ⟨c, rfl, h⟩
theorem w_mod {i j : Int} (c : 0 < j) (q : Q (.int (i % j)) H) : rI (fun _ j => 0 < j) (fun i j => V.int (i % j)) (.int i) (.int j) H Q := ⟨i, j, rfl, rfl, c, q⟩
theorem w_mul {i j : Int} (c : CMul i j) (q : Q (.int (i * j)) H) : rI CMul (fun i j => V.int (i * j)) (.int i) (.int j) H Q := ⟨i, j, rfl, rfl, c, q⟩
theorem w_fdivW {i j : Int} (c : 0 < j) (c2 : j < 2 ^ 60) (q : Q (.int (i / j)) H) : rI CDivW (fun i j => V.int (i / j)) (.int i) (.int j) H Q :=
  ⟨i, j, rfl, rfl, wide_div (b := 60) c (by omega) (by decide) (by decide), q⟩
theorem w_pow {i j : Int} (c : CPow i j) (q : Q (.int (i ^ j.toNat)) H) : rI CPow (fun i j => V.int (i ^ j.toNat)) (.int i) (.int j) H Q := ⟨i, j, rfl, rfl, c, q⟩
end
section
variable {K : PySem.W.Frag} {σ : L2.St} {H : Hp} {Q : VK} {v x y : V}
theorem w_setLu {p : Addr} {xs : List V} {k : Int} {j : Nat} {Q : Hp → Prop} (a : ixN xs.length k = some j) (q : Q (upd H p (.lst (xs.set j v)))) : rSetL (.ref p) (.int k) v (upd H p (.lst xs)) Q := ⟨p, xs, k, j, rfl, rfl, upd_same, a, by rw [upd_upd]; exact q⟩
theorem w_new {n : Nat} {B : Prop} (hz : Nat.ble n 1000 = true) (h : B) : n ≤ sizeLine ∧ B := ⟨Nat.le_trans (Nat.le_of_ble_eq_true hz) (by decide), h⟩
theorem mod_b {a m : Int} (h : 0 < m) : 0 ≤ a % m ∧ a % m < m := ⟨Int.emod_nonneg a (by omega), Int.emod_lt_of_pos a h⟩
end
section
variable {K : PySem.W.Frag} {σ : L2.St} {H : Hp} {Q : VK} {tl te : TE} {ta : TA} {j : Nat} {vs : List Nat} {tt : TT} {g : TG} {wi : TI}
theorem w_lc (h : wi σ H fun J H1 => ∀ D, H1 D = none → ∃ W : Nat → Nat → Hp → Prop, (∃ m, W 0 m (upd H1 D (.lst []))) ∧ ∀ i m H, W i m H →
  (J.stop i H ∧ Q (.ref D) H) ∨ (J.go i H ∧ ∃ Nx : Hp → Prop, (∀ H', Nx H' → ∃ m', m' < m ∧ W (i + 1) m' H') ∧ ∀ x H', J.yld i H x H' → g x (wipe σ vs) H' fun σ2 H2 => wipe σ2 vs = wipe σ vs ∧ tt σ2 H2 fun b H3 =>
    if b = true then te σ2 H3 fun y H4 => ∃ acc, H4 D = some (.lst acc) ∧ acc.length < sizeLine ∧ Nx (upd H4 D (.lst (acc ++ [y]))) else Nx H3)) : tLc wi g tt te vs σ H Q := h
theorem w_iL {R : It → Hp → Prop} (h : tl σ H fun x H1 => ∃ a, x = .ref a ∧ (∃ xs, SqL K H1 a xs) ∧ R (Itl K a) H1) : iList K tl σ H R := h
theorem w_iT {R : It → Hp → Prop} (h : tl σ H fun x H1 => ∃ a, x = .ref a ∧ (∃ xs, SqT K H1 a xs) ∧ R (Itt K a) H1) : iTup K tl σ H R := h
theorem w_iR1 {R : It → Hp → Prop} (h : ta σ H fun vs H1 => ∃ j : Int, vs = [.int j] ∧ -(2 ^ 62) ≤ j ∧ j < 2 ^ 62 ∧ R (Itr 0 j.toNat) H1) : iRng1 ta σ H R := h
theorem w_iR2 {R : It → Hp → Prop} (h : ta σ H fun vs H1 => ∃ i j : Int, vs = [.int i, .int j] ∧ (-(2 ^ 62) ≤ i ∧ i < 2 ^ 62 ∧ -(2 ^ 62) ≤ j ∧ j < 2 ^ 62) ∧ R (Itr i (j - i).toNat) H1) : iRng2 ta σ H R := h
theorem w_yes {Q : Bool → Hp → Prop} (h : Q true H) : tYes σ H Q := h
/-- a comprehension over a list: the turn's word Pv -/
theorem w_lcL {p : Addr} {xs : List V} (hS : SqL K H p xs) (h : ∀ D, H D = none → ∃ Pv : Nat → Hp → Prop, Pv 0 (upd H D (.lst [])) ∧ (∀ i H2, i ≤ xs.length → Pv i H2 → SqL K H2 p xs) ∧
      (∀ i x H2, xs[i]? = some x → Pv i H2 → g x (wipe σ vs) H2 fun σ2 H2 => wipe σ2 vs = wipe σ vs ∧ tt σ2 H2 fun b H3 =>
        if b = true then te σ2 H3 fun y H4 => ∃ acc, H4 D = some (.lst acc) ∧ acc.length < sizeLine ∧ Pv (i + 1) (upd H4 D (.lst (acc ++ [y]))) else Pv (i + 1) H3) ∧ (∀ H2, Pv xs.length H2 → Q (.ref D) H2)) :
    ∃ a, V.ref p = .ref a ∧ (∃ xs, SqL K H a xs) ∧ ∀ D, H D = none → ∃ W : Nat → Nat → Hp → Prop, (∃ m, W 0 m (upd H D (.lst []))) ∧ ∀ i m H, W i m H →
      ((Itl K a).stop i H ∧ Q (.ref D) H) ∨ ((Itl K a).go i H ∧ ∃ Nx : Hp → Prop, (∀ H', Nx H' → ∃ m', m' < m ∧ W (i + 1) m' H') ∧ ∀ x H', (Itl K a).yld i H x H' → g x (wipe σ vs) H' fun σ2 H2 => wipe σ2 vs = wipe σ vs ∧ tt σ2 H2 fun b H3 =>
        if b = true then te σ2 H3 fun y H4 => ∃ acc, H4 D = some (.lst acc) ∧ acc.length < sizeLine ∧ Nx (upd H4 D (.lst (acc ++ [y]))) else Nx H3) :=
  ⟨p, rfl, ⟨xs, hS⟩, fun D hD => by
    obtain ⟨Pv, h0, hl, hs, hd⟩ := h D hD
    exact lc_list Pv h0 hl hs hd⟩
/-- .. over range(n) -/
theorem w_lcR {n : Int} (hn : 0 ≤ n ∧ n < 2 ^ 62) (h : ∀ D, H D = none → ∃ Pv : Nat → Hp → Prop, Pv 0 (upd H D (.lst [])) ∧
      (∀ (i : Nat) H2, (i : Int) < n → Pv i H2 → g (.int (0 + (i : Int))) (wipe σ vs) H2 fun σ2 H2 => wipe σ2 vs = wipe σ vs ∧ tt σ2 H2 fun b H3 =>
        if b = true then te σ2 H3 fun y H4 => ∃ acc, H4 D = some (.lst acc) ∧ acc.length < sizeLine ∧ Pv (i + 1) (upd H4 D (.lst (acc ++ [y]))) else Pv (i + 1) H3) ∧ (∀ H2, Pv n.toNat H2 → Q (.ref D) H2)) :
    ∃ j : Int, [V.int n] = [.int j] ∧ -(2 ^ 62) ≤ j ∧ j < 2 ^ 62 ∧ ∀ D, H D = none → ∃ W : Nat → Nat → Hp → Prop, (∃ m, W 0 m (upd H D (.lst []))) ∧ ∀ i m H, W i m H →
      ((Itr 0 j.toNat).stop i H ∧ Q (.ref D) H) ∨ ((Itr 0 j.toNat).go i H ∧ ∃ Nx : Hp → Prop, (∀ H', Nx H' → ∃ m', m' < m ∧ W (i + 1) m' H') ∧ ∀ x H', (Itr 0 j.toNat).yld i H x H' → g x (wipe σ vs) H' fun σ2 H2 => wipe σ2 vs = wipe σ vs ∧ tt σ2 H2 fun b H3 =>
        if b = true then te σ2 H3 fun y H4 => ∃ acc, H4 D = some (.lst acc) ∧ acc.length < sizeLine ∧ Nx (upd H4 D (.lst (acc ++ [y]))) else Nx H3) :=
  ⟨n, rfl, by omega, hn.2, fun D hD => by
    obtain ⟨Pv, h0, hs, hd⟩ := h D hD
    exact lc_range Pv h0 (fun i H hi p => hs i H (by omega) p) hd⟩
theorem w_for {wi : TI} {g : TG} {tb : TS} {D : Ends} (h : wi σ H fun J H1 => ∃ W : Nat → Nat → L2.St → Hp → Prop, (∃ m, W 0 m σ H1) ∧ ∀ i m σ H, W i m σ H →
  (J.stop i H ∧ D.nx σ H) ∨ (J.go i H ∧ ∃ N : L2.St → Hp → Prop, (∀ σ' H', N σ' H' → ∃ m', m' < m ∧ W (i + 1) m' σ' H') ∧ ∀ x H', J.yld i H x H' → g x σ H' fun σ2 H2 => tb { D with nx := N, ct := N, bk := D.nx } σ2 H2)) : tFor wi g tb D σ H := h
theorem w_forL {g : TG} {tb : TS} {D : Ends} {p : Addr} {xs : List V} (hS : SqL K H p xs) (Pv : Nat → L2.St → Hp → Prop) (h0 : Pv 0 σ H) (hl : ∀ i σ H, i ≤ xs.length → Pv i σ H → SqL K H p xs)
    (hs : ∀ i x σ H, xs[i]? = some x → Pv i σ H → g x σ H fun σ2 H2 => tb { D with nx := Pv (i + 1), ct := Pv (i + 1), bk := D.nx } σ2 H2) (hd : ∀ σ H, Pv xs.length σ H → D.nx σ H) :
    ∃ a, V.ref p = .ref a ∧ (∃ xs, SqL K H a xs) ∧ ∃ W : Nat → Nat → L2.St → Hp → Prop, (∃ m, W 0 m σ H) ∧ ∀ i m σ H, W i m σ H →
      ((Itl K a).stop i H ∧ D.nx σ H) ∨ ((Itl K a).go i H ∧ ∃ N : L2.St → Hp → Prop, (∀ σ' H', N σ' H' → ∃ m', m' < m ∧ W (i + 1) m' σ' H') ∧ ∀ x H', (Itl K a).yld i H x H' → g x σ H' fun σ2 H2 => tb { D with nx := N, ct := N, bk := D.nx } σ2 H2) :=
  ⟨p, rfl, ⟨xs, hS⟩, for_list Pv h0 hl hs hd⟩
theorem w_forT {g : TG} {tb : TS} {D : Ends} {p : Addr} {xs : List V} (hS : SqT K H p xs) (Pv : Nat → L2.St → Hp → Prop) (h0 : Pv 0 σ H) (hl : ∀ i σ H, i ≤ xs.length → Pv i σ H → SqT K H p xs)
    (hs : ∀ i x σ H, xs[i]? = some x → Pv i σ H → g x σ H fun σ2 H2 => tb { D with nx := Pv (i + 1), ct := Pv (i + 1), bk := D.nx } σ2 H2) (hd : ∀ σ H, Pv xs.length σ H → D.nx σ H) :
    ∃ a, V.ref p = .ref a ∧ (∃ xs, SqT K H a xs) ∧ ∃ W : Nat → Nat → L2.St → Hp → Prop, (∃ m, W 0 m σ H) ∧ ∀ i m σ H, W i m σ H →
      ((Itt K a).stop i H ∧ D.nx σ H) ∨ ((Itt K a).go i H ∧ ∃ N : L2.St → Hp → Prop, (∀ σ' H', N σ' H' → ∃ m', m' < m ∧ W (i + 1) m' σ' H') ∧ ∀ x H', (Itt K a).yld i H x H' → g x σ H' fun σ2 H2 => tb { D with nx := N, ct := N, bk := D.nx } σ2 H2) :=
  ⟨p, rfl, ⟨xs, hS⟩, for_tup Pv h0 hl hs hd⟩
theorem w_forR {g : TG} {tb : TS} {D : Ends} {n : Int} (hn : 0 ≤ n ∧ n < 2 ^ 62) (Pv : Nat → L2.St → Hp → Prop) (h0 : Pv 0 σ H)
    (hs : ∀ (i : Nat) σ H, (i : Int) < n → Pv i σ H → g (.int (0 + (i : Int))) σ H fun σ2 H2 => tb { D with nx := Pv (i + 1), ct := Pv (i + 1), bk := D.nx } σ2 H2) (hd : ∀ σ H, Pv n.toNat σ H → D.nx σ H) :
    ∃ j : Int, [V.int n] = [.int j] ∧ -(2 ^ 62) ≤ j ∧ j < 2 ^ 62 ∧ ∃ W : Nat → Nat → L2.St → Hp → Prop, (∃ m, W 0 m σ H) ∧ ∀ i m σ H, W i m σ H →
      ((Itr 0 j.toNat).stop i H ∧ D.nx σ H) ∨ ((Itr 0 j.toNat).go i H ∧ ∃ N : L2.St → Hp → Prop, (∀ σ' H', N σ' H' → ∃ m', m' < m ∧ W (i + 1) m' σ' H') ∧ ∀ x H', (Itr 0 j.toNat).yld i H x H' → g x σ H' fun σ2 H2 => tb { D with nx := N, ct := N, bk := D.nx } σ2 H2) :=
  ⟨n, rfl, by omega, hn.2, for_range Pv h0 (fun i σ H hi p => hs i σ H (by omega) p) hd⟩
/-- while: a word with a measure; the test is read in the word -/
theorem w_while {c : TT} {tb : TS} {D : Ends} (W : Nat → L2.St → Hp → Prop) (m : Nat) (h0 : W m σ H)
    (hs : ∀ m σ H, W m σ H → c σ H fun b H1 => if b = true then ∃ N : L2.St → Hp → Prop, (∀ σ' H', N σ' H' → ∃ m', m' < m ∧ W m' σ' H') ∧ tb { D with nx := N, ct := N, bk := D.nx } σ H1 else D.nx σ H1) : tWhile c tb D σ H :=
  ⟨W, ⟨m, h0⟩, hs⟩
theorem w_gtup {n : Nat} {t : TGs} {a : Addr} {xs : List V} {Q : L2.St → Hp → Prop} (h : H a = some (.tup xs)) (hn : xs.length = n) (q : t xs σ H Q) : gTup K n t (.ref a) σ H Q := ⟨a, xs, rfl, SqT.of h, hn, q⟩
theorem w_gcons {t : TG} {u : TGs} {v : V} {r : List V} {Q : L2.St → Hp → Prop} (h : t v σ H fun σ' H' => u r σ' H' Q) : gCons t u (v :: r) σ H Q := ⟨v, r, rfl, h⟩
theorem w_gnil {Q : L2.St → Hp → Prop} (h : Q σ H) : gNil [] σ H Q := ⟨rfl, h⟩
theorem w_app {l : Addr} {xs : List V} {y : V} {Q : VK} (h : H l = some (.lst xs)) (hz : xs.length < sizeLine) (q : Q .non (upd H l (.lst (xs ++ [y])))) : rAppend (.ref l) [y] H Q := ⟨l, xs, y, rfl, rfl, h, hz, q⟩
end
end Fw
end

section
-- part Fd
set_option Elab.async false
set_option linter.all false
set_option maxRecDepth 100000
set_option maxHeartbeats 2000000
/-! Fd: data -/
namespace Fw
open PySem PySem.Spec PyProof.Rows L2
section
variable {K : PySem.W.Frag} {H H' : Hp}
theorem dp_ints : ∀ ns : List Int, DpAll K H (ns.map V.int) (ns.map PyData.int)
  | [] => .nil
  | n :: r => .cons (.int n) (dp_ints r)
theorem lay_ints : ∀ ns : List Int, PyData.canLayAll0 (ns.map PyData.int) = true
  | [] => rfl
  | _ :: r => lay_ints r
theorem dep_ints (ns : List Int) : PyData.depth (.list (ns.map PyData.int)) ≤ 64 := by
  have h : ∀ ns : List Int, PyData.depthAll (ns.map PyData.int) ≤ 1 := by
    intro ns
    induction ns with
    | nil => simp [PyData.depthAll]
    | cons n r ih => simp only [List.map_cons, PyData.depthAll, PyData.depth]; omega
  have := h ns
  simp only [PyData.depth]
  omega
theorem shaped_ints (ns : List Int) : SeqAt.shaped (.list (ns.map PyData.int)) = true := by
  unfold SeqAt.shaped
  rw [Bool.and_eq_true]
  exact ⟨lay_ints ns, decide_eq_true (dep_ints ns)⟩
theorem eqv_nil (ns : List Int) : PyData.eqv (.list (ns.map PyData.int)) (.list []) = decide (ns = []) := by
  cases ns <;> rfl
theorem cut_ints (ns : List Int) (lo hi : Option Int) : ∃ ms : List Int, cutV (ns.map V.int) lo hi = ms.map V.int ∧ ms.length ≤ ns.length := by
  refine ⟨(ns.drop (HT.sIx (ns.map V.int).length 0 lo)).take (HT.sIx (ns.map V.int).length (ns.map V.int).length hi - HT.sIx (ns.map V.int).length 0 lo), ?_, ?_⟩
  · unfold cutV
    rw [List.map_take, List.map_drop]
  · rw [List.length_take, List.length_drop]
    omega
end
end Fw
end

section
-- part Fx
set_option Elab.async false
set_option linter.all false
set_option maxRecDepth 100000
set_option maxHeartbeats 2000000
/-! Fx: texts as lists of signs -/
namespace Fw
open PySem PySem.Spec PyProof.Rows L2 SX
open Builtin.Str PySem.StrLaws
abbrev S (l : List Nat) : Str := SX.S l
theorem fromIx {n p : Nat} : fromIndex n (p : Int) = p := by
  unfold fromIndex
  rw [if_neg (by omega)]
  omega
theorem at_pre (l b : List Nat) (i : Nat) : At (S l) (S b) (S l).length i ↔ (i + b.length ≤ l.length ∧ (l.drop i).take b.length = b) := by
  unfold At
  rw [S_len, S_len, subAt_eq, S_len]
  simp [SX.S]
theorem starts3 (l b : List Nat) (p : Nat) : Txt.startswith3 (S l) (S b) (p : Int) = decide ((l.drop p).take b.length = b ∧ p + b.length ≤ l.length) := by
  unfold Txt.startswith3
  rw [fromIx, S_len, S_len, subAt_eq, S_len]
  have e : (S l).cps.toList = l := by simp [SX.S]
  have e2 : (S b).cps.toList = b := by simp [SX.S]
  rw [e, e2]
  by_cases h : p + b.length ≤ l.length
  · by_cases h2 : (l.drop p).take b.length = b
    · simp [h, h2]
    · simp [h, h2]
  · simp [h]
/-- the place of the first c from p on -/
theorem find3_one (l : List Nat) (c p : Nat) : Txt.find3 (S l) (S [c]) (p : Int) = (match (l.drop p).findIdx? (· == c) with | some k => ((p + k : Nat) : Int) | none => -1) := by
  unfold Txt.find3
  rw [fromIx]
  have one : ∀ i, At (S l) (S [c]) (S l).length i ↔ l[i]? = some c := by
    intro i
    rw [at_pre]
    constructor
    · rintro ⟨h1, h2⟩
      simp only [List.length_singleton] at h1 h2
      have hi : i < l.length := by omega
      rw [List.getElem?_eq_getElem hi]
      have e3 : List.take 1 (List.drop i l) = [l[i]] := by rw [List.drop_eq_getElem_cons hi]; rfl
      rw [e3] at h2
      exact congrArg some (List.cons.inj h2).1
    · intro h
      obtain ⟨hi, e⟩ := List.getElem?_eq_some_iff.mp h
      refine ⟨by simp; omega, ?_⟩
      rw [List.drop_eq_getElem_cons hi]
      simp [e]
  rcases occ_head_from (S l) (S [c]) p 1 (by decide) with ⟨h0, hn⟩ | ⟨i, r, h0, hi, ha, hn⟩
  · rw [h0]
    have : (l.drop p).findIdx? (· == c) = none := by
      rw [List.findIdx?_eq_none_iff]
      intro x hx
      obtain ⟨k, hk, e⟩ := List.getElem_of_mem hx
      rw [List.getElem_drop] at e
      cases q : x == c with
      | false => rfl
      | true =>
        have hl : p + k < l.length := by rw [List.length_drop] at hk; omega
        exact absurd ((one (p + k)).mpr (by rw [List.getElem?_eq_getElem hl, e, eq_of_beq q])) (hn (p + k) (by omega))
    rw [this]
  · rw [h0]
    have hk : (l.drop p).findIdx? (· == c) = some (i - p) := by
      rw [List.findIdx?_eq_some_iff_getElem]
      obtain ⟨hl, e⟩ := List.getElem?_eq_some_iff.mp ((one i).mp ha)
      have e2 : (l.drop p)[i - p]? = some c := by
        rw [List.getElem?_drop]
        have : p + (i - p) = i := by omega
        rw [this]
        exact (one i).mp ha
      obtain ⟨h3, e3⟩ := List.getElem?_eq_some_iff.mp e2
      refine ⟨h3, by simp [e3], fun j hj => ?_⟩
      have hj2 : p + j < i := by omega
      have := hn (p + j) (by omega) hj2
      rw [one] at this
      rw [List.getElem_drop]
      intro q
      apply this
      rw [List.getElem?_eq_getElem (by omega)]
      simp at q
      rw [q]
    rw [hk]
    show ((i : Nat) : Int) = ((p + (i - p) : Nat) : Int)
    have : p + (i - p) = i := by omega
    rw [this]
theorem cutS_nat (l : List Nat) {i j : Nat} (hi : i ≤ l.length) (hj : j ≤ l.length) : cutS (S l) (some (i : Int)) (some (j : Int)) = S ((l.drop i).take (j - i)) := by
  unfold cutS
  rw [HT.sIx_nat, HT.sIx_nat, S_len, Nat.min_eq_left hi, Nat.min_eq_left hj]
theorem cutS_any (l : List Nat) {i j : Nat} (hi : i ≤ l.length) : cutS (S l) (some (i : Int)) (some (j : Int)) = S ((l.drop i).take (j - i)) := by
  unfold cutS
  rw [HT.sIx_nat, HT.sIx_nat, S_len, Nat.min_eq_left hi]
  have : ((l.drop i).take (min j l.length - i)) = (l.drop i).take (j - i) := by
    by_cases h : j ≤ l.length
    · rw [Nat.min_eq_left h]
    · rw [Nat.min_eq_right (by omega), List.take_of_length_le (by rw [List.length_drop]; omega), List.take_of_length_le (by rw [List.length_drop]; omega)]
  show (⟨_⟩ : Str) = SX.S _
  rw [show (S l).cps.toList = l by simp [SX.S], this]
theorem cutS_from (l : List Nat) {i : Nat} (hi : i ≤ l.length) : cutS (S l) (some (i : Int)) none = S (l.drop i) := by
  unfold cutS
  rw [HT.sIx_nat, HT.sIx_none, S_len, Nat.min_eq_left hi]
  show (⟨_⟩ : Str) = SX.S _
  rw [show (S l).cps.toList = l by simp [SX.S], List.take_of_length_le (by rw [List.length_drop]; omega)]
theorem atI_nat2 {α : Type} {l : List α} {i : Nat} {c : α} (h : l[i]? = some c) : atI l (i : Int) = some c := atI_nat h
section
variable {H : Hp} {Q : VK} {K : PySem.W.Frag}
theorem w_ixS {l : List Nat} {i c : Nat} (hz : l.length ≤ sizeLine) (h : l[i]? = some c) (q : Q (.str (S [c])) H) : rIxS (.str (S l)) (.int (i : Int)) H Q :=
  ⟨S l, (i : Int), c, rfl, rfl, by rw [S_len]; exact hz, by rw [show (S l).cps.toList = l by simp [SX.S]]; exact atI_nat h, q⟩
theorem S_list (l : List Nat) : (S l).cps.toList = l := by simp [SX.S]
theorem w_inS {l : List Nat} {c : Nat} {P : Nat → Str → Prop} (q : P c (S l)) : ∃ (d : Nat) (z : Str), V.str (S [c]) = .str ⟨#[d]⟩ ∧ V.str (S l) = .str z ∧ P d z := ⟨c, S l, rfl, rfl, q⟩
theorem w_lenS {l : List Nat} {P : Str → Prop} (hz : l.length ≤ sizeLine) (q : P (S l)) : ∃ z, [V.str (S l)] = [V.str z] ∧ z.length ≤ sizeLine ∧ P z := ⟨S l, rfl, by rw [S_len]; exact hz, q⟩
theorem w_find3 {a b : Str} {p : Int} {P : Str → Str → Int → Prop} (q : P a b p) : ∃ (x y : Str) (i : Int), V.str a = .str x ∧ [V.str b, V.int p] = [.str y, .int i] ∧ P x y i := ⟨a, b, p, rfl, rfl, q⟩
theorem w_2s {a b : Str} {P : Str → Str → Prop} (q : P a b) : ∃ (x y : Str), V.str a = .str x ∧ [V.str b] = [.str y] ∧ P x y := ⟨a, b, rfl, rfl, q⟩
theorem w_slS {l : List Nat} {i j : Nat} (hz : l.length ≤ sizeLine) (hi : i ≤ l.length) (q : Q (.str (S ((l.drop i).take (j - i)))) H) : rSlS (.str (S l)) (some (i : Int)) (some (j : Int)) H Q :=
  ⟨S l, rfl, by rw [S_len]; exact hz, by rw [cutS_any l hi]; exact q⟩
theorem w_slS1 {l : List Nat} {i : Nat} (hz : l.length ≤ sizeLine) (hi : i ≤ l.length) (q : Q (.str (S (l.drop i))) H) : rSlS (.str (S l)) (some (i : Int)) none H Q :=
  ⟨S l, rfl, by rw [S_len]; exact hz, by rw [cutS_from l hi]; exact q⟩
theorem w_addS {a b : List Nat} {P : Str → Str → Prop} (hz : a.length + b.length ≤ sizeLine) (q : P (S a) (S b)) : ∃ i j, V.str (S a) = .str i ∧ V.str (S b) = .str j ∧ i.length + j.length ≤ sizeLine ∧ P i j :=
  ⟨S a, S b, rfl, rfl, by rw [S_len, S_len]; exact hz, q⟩
theorem tyS {z : Str} : tyV K "str" (.str z) H := rfl
theorem tyL {p : Addr} {xs : List V} (h : H p = some (.lst xs)) : tyV K "list" (.ref p) H := Or.inl ⟨rfl, xs, SqL.of h⟩
end
section
variable {K : PySem.W.Frag} {σ : L2.St} {H : Hp} {Q : VK} {tl te : TE}
theorem w_iStr {R : It → Hp → Prop} (h : te σ H fun v H1 => ∃ x, v = .str x ∧ R (Its x) H1) : iStr te σ H R := h
theorem for_str {x : Str} {g : TG} {tb : TS} {D : Ends} (Pv : Nat → L2.St → Hp → Prop) (h0 : Pv 0 σ H)
    (hs : ∀ i c σ H, x.cps.toList[i]? = some c → Pv i σ H → g (.str (S [c])) σ H fun σ2 H2 => tb { D with nx := Pv (i + 1), ct := Pv (i + 1), bk := D.nx } σ2 H2) (hd : ∀ σ H, Pv x.cps.toList.length σ H → D.nx σ H) :
    ∃ W : Nat → Nat → L2.St → Hp → Prop, (∃ m, W 0 m σ H) ∧ ∀ i m σ H, W i m σ H →
      ((Its x).stop i H ∧ D.nx σ H) ∨ ((Its x).go i H ∧ ∃ N : L2.St → Hp → Prop, (∀ σ' H', N σ' H' → ∃ m', m' < m ∧ W (i + 1) m' σ' H') ∧ ∀ v H', (Its x).yld i H v H' → g v σ H' fun σ2 H2 => tb { D with nx := N, ct := N, bk := D.nx } σ2 H2) := by
  have el : x.cps.toList.length = x.cps.size := by simp
  refine ⟨fun i m σ H => m = x.cps.size - i ∧ i ≤ x.cps.size ∧ Pv i σ H, ⟨_, rfl, Nat.zero_le _, h0⟩, ?_⟩
  rintro i m σ H ⟨rfl, hi, p⟩
  by_cases hlt : i < x.cps.size
  · refine .inr ⟨hlt, Pv (i + 1), fun σ' H' p' => ⟨x.cps.size - (i + 1), by omega, rfl, hlt, p'⟩, fun v H' y => ?_⟩
    obtain ⟨e, c, hc, rfl⟩ := y
    subst e
    exact hs i c σ _ (by simpa using hc) p
  · have e : i = x.cps.size := by omega
    subst e
    exact .inl ⟨Nat.le_refl _, hd σ H (by rw [el]; exact p)⟩
theorem w_forS {l : List Nat} {g : TG} {tb : TS} {D : Ends} (Pv : Nat → L2.St → Hp → Prop) (h0 : Pv 0 σ H)
    (hs : ∀ i c σ H, l[i]? = some c → Pv i σ H → g (.str (S [c])) σ H fun σ2 H2 => tb { D with nx := Pv (i + 1), ct := Pv (i + 1), bk := D.nx } σ2 H2) (hd : ∀ σ H, Pv l.length σ H → D.nx σ H) :
    ∃ x, V.str (S l) = .str x ∧ ∃ W : Nat → Nat → L2.St → Hp → Prop, (∃ m, W 0 m σ H) ∧ ∀ i m σ H, W i m σ H →
      ((Its x).stop i H ∧ D.nx σ H) ∨ ((Its x).go i H ∧ ∃ N : L2.St → Hp → Prop, (∀ σ' H', N σ' H' → ∃ m', m' < m ∧ W (i + 1) m' σ' H') ∧ ∀ v H', (Its x).yld i H v H' → g v σ H' fun σ2 H2 => tb { D with nx := N, ct := N, bk := D.nx } σ2 H2) :=
  ⟨S l, rfl, for_str Pv h0 (fun i c σ H hi p => hs i c σ H (by simpa [SX.S] using hi) p) (fun σ H p => hd σ H (by simpa [SX.S] using p))⟩
theorem find_one (l : List Nat) (c : Nat) : Txt.find (S l) (S [c]) = (match l.findIdx? (· == c) with | some k => (k : Int) | none => -1) := by
  have h := find3_one l c 0
  have e : Txt.find3 (S l) (S [c]) ((0 : Nat) : Int) = Txt.find (S l) (S [c]) := by
    unfold Txt.find3 Txt.find
    rw [fromIx]
    rfl
  rw [← e, h, List.drop_zero]
  cases l.findIdx? (· == c) with
  | none => rfl
  | some k =>
    show ((0 + k : Nat) : Int) = (k : Int)
    rw [Nat.zero_add]
theorem w_1s {a : Str} {P : Str → Prop} (q : P a) : ∃ (x : Str), V.str a = .str x ∧ ([] : List V) = [] ∧ P x := ⟨a, rfl, rfl, q⟩
end
section
variable {K : PySem.W.Frag} {σ : L2.St} {H : Hp} {Q : VK} {i : Nat}
theorem str_len_app (a b : Str) : (a ++ b).length = a.length + b.length := by
  rw [TL.len_tl, TL.len_tl, TL.len_tl, TL.tl_append, List.length_append]
theorem num_short {n : Nat} (h : n < 10 ^ 7) : (Str.ofString (toString ((n : Nat) : Int))).length ≤ 7 := by
  rw [TL.len_tl, TL.tl_num]
  exact TL.numL_len (by decide) h
theorem w_fmt {n : Nat} {Q : VK} (h : n < 10 ^ 7) (hv : σ[i]? = some (some (.int (n : Int)))) (q : Q (.str (toString ((n : Nat) : Int))) H) : tFmt (tVar i) σ H Q := by
  refine ⟨_, hv, .inr ⟨_, rfl, ?_, q⟩⟩
  by_cases h0 : n = 0
  · subst h0
    decide
  · rw [Int.natAbs_natCast]
    have := (Nat.log2_lt h0 (k := 24)).mpr (Nat.lt_of_lt_of_le h (by decide))
    omega
/-- f'a{n}' and f'a{n}b' -/
theorem w_msg2 {a : Str} {n : Nat} {R : Str → Hp → Prop} (ha : a.length ≤ 1000) (h : n < 10 ^ 7) (hv : σ[i]? = some (some (.int (n : Int)))) (q : ∀ z, R z H) : tJs [tC (.str a), tFmt (tVar i)] Str.empty σ H R := by
  have e0 : (Str.empty ++ a).length = a.length := by rw [str_len_app]; exact Nat.zero_add _
  have l := num_short h
  refine ⟨a, rfl, by rw [e0]; exact Nat.le_trans ha (by decide), w_fmt h hv ⟨_, rfl, ?_, q _⟩⟩
  rw [str_len_app, e0]
  exact Nat.le_trans (Nat.add_le_add ha l) (by decide)
theorem w_msg3 {a b : Str} {n : Nat} {R : Str → Hp → Prop} (ha : a.length ≤ 1000) (hb : b.length ≤ 1000) (h : n < 10 ^ 7) (hv : σ[i]? = some (some (.int (n : Int)))) (q : ∀ z, R z H) : tJs [tC (.str a), tFmt (tVar i), tC (.str b)] Str.empty σ H R := by
  have e0 : (Str.empty ++ a).length = a.length := by rw [str_len_app]; exact Nat.zero_add _
  have l := num_short h
  refine ⟨a, rfl, by rw [e0]; exact Nat.le_trans ha (by decide), w_fmt h hv ⟨_, rfl, ?_, ⟨b, rfl, ?_, q _⟩⟩⟩
  · rw [str_len_app, e0]
    exact Nat.le_trans (Nat.add_le_add ha l) (by decide)
  · rw [str_len_app, str_len_app, e0]
    exact Nat.le_trans (Nat.add_le_add (Nat.add_le_add ha l) hb) (by decide)
/-- in a tuple of texts -/
theorem inV_txt (a : List Nat) : ∀ ls : List (List Nat), inV (.str (S a)) (ls.map fun l => V.str (S l)) = decide (a ∈ ls)
  | [] => by simp [inV]
  | l :: r => by
    have ih := inV_txt a r
    unfold inV at ih ⊢
    rw [List.map_cons, List.any_cons, ih]
    show ((S l == S a) || decide (a ∈ r)) = _
    rw [SX.S_beq]
    by_cases h : l = a
    · subst h; simp
    · have : (l == a) = false := by simp [h]
      rw [this, Bool.false_or]
      have h' : ¬ a = l := fun e => h e.symm
      simp [h']
theorem flat_txt : ∀ ls : List (List Nat), (ls.map fun l => V.str (S l)).all flatV = true
  | [] => rfl
  | _ :: r => flat_txt r
theorem w_inT {a : List Nat} {p : Addr} {ls : List (List Nat)} (h : SqT K H p (ls.map fun l => V.str (S l))) (q : Q (.bl (decide (a ∈ ls))) H) : rIn K false (.str (S a)) (.ref p) H Q :=
  ⟨p, _, rfl, .inr h, rfl, flat_txt ls, by rw [inV_txt]; exact q⟩
theorem str_eq {a b : List Nat} : (decide (V.str (S a) = V.str (S b))) = decide (a = b) := by
  by_cases h : a = b
  · subst h; simp
  · rw [decide_eq_false h, decide_eq_false]
    intro e
    exact h (SX.S_inj (V.str.inj e))
theorem w_eqS {a b : List Nat} (q : Q (.bl (decide (a = b))) H) : rEq (.str (S a)) (.str (S b)) H Q := ⟨rfl, by rw [str_eq]; exact q⟩
theorem w_neS {a b : List Nat} (q : Q (.bl (!decide (a = b))) H) : rNe (.str (S a)) (.str (S b)) H Q := ⟨rfl, by rw [str_eq]; exact q⟩
theorem int_eq {a b : Int} : (decide (V.int a = V.int b)) = decide (a = b) := by simp
theorem w_eqI {a b : Int} (q : Q (.bl (decide (a = b))) H) : rEq (.int a) (.int b) H Q := ⟨rfl, by rw [int_eq]; exact q⟩
theorem w_iteN {p A B : Prop} [Decidable p] (h1 : ¬ p → A) (h2 : p → B) : if (!decide p) = true then A else B := by
  by_cases c : p
  · rw [decide_eq_true c]; exact h2 c
  · rw [decide_eq_false c]; exact h1 c
end
section
variable {X : Cx}
/-- a text times a number -/
theorem op_mulS : OpR X (binaryOp .Mult) (fun x y H Q => ∃ (a : Str) (n : Int), x = .str a ∧ y = .int n ∧ a.length ≤ 4096 ∧ n ≤ 4096 ∧ -(2 ^ 63 : Int) ≤ n ∧ Q (.str (Txt.mul a n)) H) := by
  intro pins s σ H x y v u Q I rx ry h
  obtain ⟨a, n, rfl, rfl, h1, h2, h3, q⟩ := h
  obtain ⟨t, rfl⟩ := rx
  obtain ⟨t', rfl⟩ := ry
  exact PySem.SB.mul (PyProof.Rows.mulOk_of 4096 4096 h1 (by omega) h3 (by decide) (by decide)) fun t'' k => ⟨.str (Txt.mul a n), H, I.tok k, ⟨t'', rfl⟩, q⟩
/-- 'c' op e, where e wants a token that is out -/
theorem pe_opStr {op : Operator} {r : R2} {x : Str} {j : Nat} {p pos : Pos} {f : Expr} {tf : TE} (ho : OpR X (binaryOp op) r) (hb : PET X f tf) : PE X (.BinOp (.Constant (.str x) j p) op f pos) (tOp r (tC (.str x)) tf) := by
  refine ⟨fun pins s σ H Q I h => ?_⟩
  refine wpAny_BinOp (Calls.Constant_str ?_)
  exact thn (hb pins { s with toks := s.toks + 1 } σ H _ (by show 1 ≤ s.toks + 1; omega) (I.tok _) h) fun u s2 ⟨y, H2, I2, r2, q2⟩ => ho pins s2 σ H2 (.str x) y _ u Q I2 ⟨_, rfl⟩ r2 q2
theorem w_repl {σ : L2.St} {H : Hp} {Q : VK} {to : TE} {y z : Str} (h : to σ H fun v H1 => ∃ x, v = .str x ∧ x.length + (x.length + 1) * z.length ≤ 16777216 ∧ Q (.str (Txt.replace x y z)) H1) : CwR.tReplC to y z σ H Q := h
end
theorem vS_cat (a b : List Nat) : V.str (SX.S a ++ SX.S b) = V.str (SX.S (a ++ b)) := congrArg V.str (SX.S_cat a b)
/-- ' doubled -/
theorem repl_dbl (l : List Nat) : Txt.replace (S l) (S [39]) (S [39, 39]) = S (StrLaws.dbl 39 l) := by
  rw [PyProof.Rows.replace_dbl (S l) (S [39]) (S [39, 39]) 39 rfl rfl, S_list]
theorem dbl_len (c : Nat) : ∀ l : List Nat, (StrLaws.dbl c l).length ≤ 2 * l.length
  | [] => by simp [StrLaws.dbl]
  | k :: r => by
    have := dbl_len c r
    rw [StrLaws.dbl]
    split
    · simp only [List.length_cons]; omega
    · simp only [List.length_cons]; omega
end Fw
end

section
-- part K01A
set_option Elab.async false
set_option linter.all false
set_option maxRecDepth 100000
set_option maxHeartbeats 4000000
open PySem PySem.Spec PyProof.Rows L2 Fw
local macro_rules | `(tactic| walk_at "e1") => `(tactic| first
  | ((with_reducible refine' w_var ?hv ?_); (case hv => rfl))
  | with_reducible refine w_c ?_
  | with_reducible refine w_op ?_
  | with_reducible refine w_un ?_
  | with_reducible refine w_cons ?_
  | with_reducible refine w_nil ?_
  | with_reducible refine w_cl ?_
  | with_reducible refine w_cb ?_
  | with_reducible refine w_gname ?_
  | with_reducible refine w_gsub ?_
  | with_reducible refine w_test ?_
  | with_reducible refine w_B ?_
  | with_reducible refine w_bl ?_
  | with_reducible refine w_and ?_
  | with_reducible refine w_or ?_
  | with_reducible refine w_not ?_
  | with_reducible refine w_if ?_
  | with_reducible refine w_I0 ?_
  | with_reducible refine w_ipI ?_
  | with_reducible refine w_eqS ?_
  | with_reducible refine w_neS ?_
  | with_reducible refine w_eqI ?_
  | ((with_reducible refine w_eq ?hs ?_); (case hs => rfl))
  | ((with_reducible refine w_ne ?hs ?_); (case hs => rfl))
  | with_reducible refine w_fld ?_
  | with_reducible refine w_bm ?_
  | with_reducible refine w_bm0 ?_
  | with_reducible refine w_sl ?_
  | with_reducible refine w_part ?_
  | with_reducible refine w_partI ?_
  | with_reducible refine w_nopart ?_
  | ((with_reducible refine' w_ixL ?hh ?ha ?_); (case hh => first | assumption | exact upd_same); (case ha => rfl))
  | ((with_reducible refine' w_setLu ?ha ?_); (case ha => rfl))
  | ((with_reducible refine' w_setL ?hh ?ha ?_); (case hh => first | assumption | exact upd_same); (case ha => rfl))
  | with_reducible refine w_iteT ?_
  | with_reducible refine w_iteF ?_
  | with_reducible refine w_lst ?_
  | with_reducible refine w_tup ?_
  | ((with_reducible refine w_new ?hz ?_); (case hz => rfl))
  | with_reducible refine w_lc ?_
  | with_reducible refine w_iL ?_
  | with_reducible refine w_iT ?_
  | with_reducible refine w_iR1 ?_
  | with_reducible refine w_iR2 ?_
  | with_reducible refine w_yes ?_
  | with_reducible refine w_iStr ?_
  | with_reducible exact tyS
  | with_reducible refine And.intro tyS ?_
  | ((with_reducible refine w_find3 ?_); (first | rw [find3_one] | rw [starts3] | skip))
  | ((with_reducible refine w_2s ?_); (try rw [find_one]))
  | ((with_reducible refine w_inS ?_); rw [S_list])
  | ((with_reducible refine w_lenS ?hz ?_); (case hz => first | assumption | omega | decide); rw [SX.S_len])
  | ((with_reducible refine w_addS ?hz ?_); (case hz => first | assumption | omega | decide); rw [vS_cat])
  | with_reducible refine w_mk ?_
  | with_reducible refine w_me ?_
  | with_reducible refine w_sfld ?_
  | ((with_reducible refine' w_gtup ?hh ?hn ?_); (case hh => first | assumption | exact upd_same); (case hn => rfl))
  | with_reducible refine w_gcons ?_
  | with_reducible refine w_gnil ?_
  | with_reducible refine w_repl ?_
  | with_reducible refine w_chain ?_
  | with_reducible refine w_x1i ?_
  | with_reducible refine w_x1b ?_
  | with_reducible refine w_x1s ?_
  | with_reducible refine w_int1i ?_
  | with_reducible refine w_int1b ?_
  | ((with_reducible refine w_mod ?hc ?_); (case hc => omega))
  | ((with_reducible refine w_fdivW ?hc ?hd ?_); (case hc => omega); (case hd => omega))
  | ((with_reducible refine w_mul ?hc ?_); (case hc => first | exact Or.inr ⟨by decide, by decide⟩ | exact Or.inl ⟨by decide, by decide⟩))
  | ((with_reducible refine w_pow ?hc ?_); (case hc => exact ⟨by decide, by decide, by decide⟩)))
local macro_rules | `(tactic| walk_at "s1") => `(tactic| first
  | with_reducible refine w_seq ?_
  | with_reducible refine w_asg ?_
  | with_reducible refine w_ret ?_
  | with_reducible refine w_drop ?_
  | with_reducible refine w_next ?_
  | with_reducible refine w_ifs ?_
  | ((with_reducible refine' w_aug ?hv ?_); (case hv => rfl))
  | with_reducible refine w_for ?_
  | walk_at "e1")
local macro_rules | `(tactic| walk_at "e") => `(tactic| repeat walk_at "e1")
local macro_rules | `(tactic| walk_at "g") => `(tactic| repeat walk_at "s1")

namespace K01
def top (i : Nat) : Stmt := PySem.Challenge.pw_tablestack_k01_texts_to_tokens.main.body.getD i (.Pass ⟨0, 0, 0, 0⟩)
-- _law_dice: 0:cell
abbrev s__law_dice : Stmt := top 32
theorem sc__law_dice : FnScope ["cell"] ["cell"] (defScope s__law_dice) := ⟨rfl, rfl, rfl, by decide +kernel, rfl, by decide +kernel, by decide +kernel⟩
-- _law_roll: 0:dice 1:many 2:found
abbrev s__law_roll : Stmt := top 33
theorem sc__law_roll : FnScope ["dice", "many", "found"] ["dice", "many"] (defScope s__law_roll) := ⟨rfl, rfl, rfl, by decide +kernel, rfl, by decide +kernel, by decide +kernel⟩
-- _law_rounds: 0:script 1:most 2:cells 3:cell
abbrev s__law_rounds : Stmt := top 34
theorem sc__law_rounds : FnScope ["script", "most", "cells", "cell"] ["script", "most"] (defScope s__law_rounds) := ⟨rfl, rfl, rfl, by decide +kernel, rfl, by decide +kernel, by decide +kernel⟩
structure Wl (K : PySem.W.Frag) (mg : Str → Option Value) : Prop where
  n_abs : mg "abs" = none
  n_int : mg "int" = none
  n_str : mg "str" = none
  n_len : mg "len" = none
  n_range : mg "range" = none
  d__law_dice : FnP K mg "_law_dice" s__law_dice
  d__law_roll : FnP K mg "_law_roll" s__law_roll
  d__law_rounds : FnP K mg "_law_rounds" s__law_rounds
section
variable {P : Program} {w : World} {K : PySem.W.Frag} {mg : Str → Option Value} {base : Heap}
def spDice : Sp := fun vs H Q _ => ∃ c : Int, vs = [.int c] ∧ ∀ p a b e, H p = none → Q (.ref p) (upd H p (.lst [.int a, .int b, .int e]))
theorem ok__law_dice (W : Wl K mg) : Cl P w K mg base 1 "_law_dice" spDice := by
  refine cl_mk W.d__law_dice sc__law_dice (fun _ _ _ _ _ _ us hl => match us, hl with | [_], _ => rfl) (fun vs H Q E h => ?_) (fun f cdv A outer s H vs Q E hr h => ?_)
  · obtain ⟨c, rfl, _⟩ := h; rfl
  obtain ⟨c, rfl, q⟩ := h
  refine ⟨_, (pss_cons (ps_if (pt_chain op_lt op_lt (pe_op op_sub pe_int pe_int) (pv 0) pe_int)
    (pss_one (ps_ret (pe_lst (pa_cons (pe_callB call_abs rfl W.n_abs (by decide +kernel) (pa_cons (pv 0) pa_nil)) (pa_cons pe_int (pa_cons pe_int pa_nil))))))
    pss_nil)
    (pss_one (ps_ret (pe_lst (pa_cons (pv 0) (pa_cons (pe_op op_add pe_int (pe_op op_mod (pe_callTy call_int1 rfl W.n_int (by decide +kernel) (pa_cons (pv 0) pa_nil)) pe_int)) (pa_cons (pe_callTy call_int1 rfl W.n_int (by decide +kernel) (pa_cons (pe_cmpR op_ge (pv 0) (pe_op op_pow pe_int pe_int) (nomark _)) pa_nil)) pa_nil))))))), ?_⟩
  walk_at "g"
  refine w_iteD (fun c1 => ?_) (fun c1 => ?_)
  · walk_at "g"
    refine w_iteD (fun c2 => ?_) (fun c2 => ?_)
    · walk_at "g"
      exact fun p hp => q p _ _ _ hp
    · walk_at "g"
      exact fun p hp => q p _ _ _ hp
  · walk_at "g"
    exact fun p hp => q p _ _ _ hp
/-- the drawn number is anything below m -/
def spRoll : Sp := fun vs H Q _ => ∃ (d : Addr) (m a b c : Int), vs = [.ref d, .int m] ∧ H d = some (.lst [.int a, .int b, .int c]) ∧ 0 < m ∧ m < 2 ^ 60 ∧
  ∀ r a' b' c' : Int, 0 ≤ r → r < m → Q (.int r) (upd H d (.lst [.int a', .int b', .int c']))
theorem ok__law_roll (W : Wl K mg) : Cl P w K mg base 1 "_law_roll" spRoll := by
  refine cl_mk W.d__law_roll sc__law_roll (fun _ _ _ _ _ _ us hl => match us, hl with | [_, _], _ => rfl) (fun vs H Q E h => ?_) (fun f cdv A outer s H vs Q E hr h => ?_)
  · obtain ⟨d, m, a, b, c, rfl, _⟩ := h; rfl
  obtain ⟨d, m, a, b, c, rfl, hd, h0, h1, q⟩ := h
  refine ⟨_, (pss_cons (ps_if (PW.pt (pw_or (pt_cmpR op_eq (pe_ix ix_list (pv 0) pe_int (fun _ _ => rfl)) pe_int (nomark _)) (pw_or1 (PW.pt (pw_and (pt_cmpR op_eq (pe_ix ix_list (pv 0) pe_int (fun _ _ => rfl)) pe_int (nomark _)) (pw_and1 (pt_cmpR op_gt (pe_ix ix_list (pv 0) pe_int (fun _ _ => rfl)) pe_int (nomark _))))))))
    (pss_cons (ps_set (i := 2) sc__law_roll.nd rfl (Or.inl rfl) (pe_op op_mod (pe_callTy call_int1 rfl W.n_int (by decide +kernel) (pa_cons (pe_ix ix_list (pv 0) pe_int (fun _ _ => rfl)) pa_nil)) (pv 1)))
    (pss_cons (ps_asg (pe_op op_fdivW (pe_ix ix_list (pv 0) pe_int (fun _ _ => rfl)) (pv 1)) (pg_sub (pv 0) pe_int set_list))
    (pss_one (ps_ret (pv 2)))))
    pss_nil)
    (pss_cons (ps_asg pe_int (pg_sub (pv 0) pe_int set_list))
    (pss_cons (ps_asg (pe_op op_mod (pe_callTy call_int1 rfl W.n_int (by decide +kernel) (pa_cons (pe_op op_add (pe_op op_add (pe_op op_mul (pe_ix ix_list (pv 0) pe_int (fun _ _ => rfl)) pe_int) (pe_op op_mul (pe_ix ix_list (pv 0) pe_int (fun _ _ => rfl)) pe_int)) pe_int) pa_nil)) pe_int) (pg_sub (pv 0) pe_int set_list))
    (pss_cons (ps_asg (pe_op op_add (pe_ix ix_list (pv 0) pe_int (fun _ _ => rfl)) pe_int) (pg_sub (pv 0) pe_int set_list))
    (pss_one (ps_ret (pe_op op_mod (pe_callTy call_int1 rfl W.n_int (by decide +kernel) (pa_cons (pe_op op_fdivW (pe_ix ix_list (pv 0) pe_int (fun _ _ => rfl)) pe_int) pa_nil)) (pv 1)))))))), ?_⟩
  have fin : ∀ z a' b' c' : Int, Q (.int (z % m)) (upd H d (.lst [.int a', .int b', .int c'])) := fun z a' b' c' => q _ a' b' c' (mod_b h0).1 (mod_b h0).2
  walk_at "g"
  refine w_iteD (fun c1 => ?_) (fun c1 => ?_)
  · walk_at "g"
    exact fin _ _ _ _
  · walk_at "g"
    refine w_iteD (fun c2 => ?_) (fun c2 => ?_)
    · walk_at "g"
      refine w_iteD (fun c3 => ?_) (fun c3 => ?_)
      · walk_at "g"
        exact fin _ _ _ _
      · walk_at "g"
        exact fin _ _ _ _
    · walk_at "g"
      exact fin _ _ _ _
/-- a list of new dice -/
def spRounds (K : PySem.W.Frag) : Sp := fun vs H Q _ => ∃ (a : Addr) (ns : List Int) (m : Int), vs = [.ref a, .int m] ∧ SqL K H a (ns.map V.int) ∧ ns.length ≤ 63 ∧
  ∀ (p : Addr) (H' : Hp) (ds : List Addr), Same H H' → H p = none → H' p = some (.lst (ds.map V.ref)) → (∀ d ∈ ds, Dice H' d ∧ H d = none) → ds.length ≤ 63 → Q (.ref p) H'
theorem ok__law_rounds (W : Wl K mg) (c__law_dice : Cl P w K mg base 1 "_law_dice" spDice) : Cl P w K mg base 2 "_law_rounds" (spRounds K) := by
  refine cl_mk W.d__law_rounds sc__law_rounds (fun _ _ _ _ _ _ us hl => match us, hl with | [_, _], _ => rfl) (fun vs H Q E h => ?_) (fun f cdv A outer s H vs Q E hr h => ?_)
  · obtain ⟨a, ns, m, rfl, _⟩ := h; rfl
  obtain ⟨a, ns, m, rfl, hS, h63, q⟩ := h
  refine ⟨_, (pss_cons (ps_set (i := 2) sc__law_rounds.nd rfl (Or.inl rfl) (pe_slice sl_list (pv 0) po_none (po_some (pv 1))))
    (pss_cons (ps_if (pt_cmpR (op_eqD (hu64 hr)) (pv 2) (pe_lst pa_nil) (nomark _))
    (pss_one (ps_set (i := 2) sc__law_rounds.nd rfl (Or.inl rfl) (pe_lst (pa_cons pe_int pa_nil))))
    pss_nil)
    (pss_one (ps_ret (pe_lc (own := [("cell", 3)]) rfl sc__law_rounds.nd (pi_list (pv 2)) (blkOk_by (own := [("cell", 3)]) (N := ["script", "most", "cells", "cell"]) (sc := defScope s__law_rounds) (by decide +kernel)) (fun _ _ _ _ _ => (pg_name (i := 3) sc__law_rounds.nd rfl (Or.inl rfl))) (fun _ _ _ _ _ => pts_nil) (fun _ _ _ _ _ => (pe_cl c__law_dice hr (by decide) rfl passL (pa_cons (pv 3) pa_nil)))))))), ?_⟩
  walk_at "g"
  refine ⟨a, _, rfl, hS, fun p1 hp1 => ?_⟩
  obtain ⟨ms, em, hm⟩ := cut_ints ns none (some m)
  rw [em]
  have hz : ms.length ≤ 63 := Nat.le_trans hm h63
  have s1 : Same H (upd H p1 (.lst (ms.map V.int))) := same_new hp1 _
  -- the list is walked
  have rest : ∀ (H1 : Hp) (p : Addr) (zs : List Int), Same H H1 → H1 p = some (.lst (zs.map V.int)) → zs.length ≤ 63 → ∀ (c : Option V),
      tRet (tLc (iList K (tVar 2)) (gName 3) tYes (tCl spDice E0 (tCons (tVar 3) tNil)) (List.map (fun x => x.snd) [((Str.ofString "cell" : Str), 3)])) { nx := fun x H' => Q V.non H', rt := Q } [some (.ref a), some (.int m), some (.ref p), c] H1 := by
    intro H1 p zs e1 hp hzs c
    walk_at "g"
    refine w_lcL (SqL.of hp) (fun D hD => ⟨fun i H2 => ∃ ds : List Addr, ds.length = i ∧ Same H1 H2 ∧ H2 D = some (.lst (ds.map V.ref)) ∧ ∀ d ∈ ds, Dice H2 d ∧ H1 d = none ∧ d ≠ D,
      ⟨[], rfl, same_new hD _, upd_same, fun d hd => by cases hd⟩, fun i H2 _ ⟨ds, _, e, _⟩ => SqL.of (e _ _ hp), ?_, ?_⟩)
    · rintro i x H2 hi ⟨ds, el, e2, eD, hds⟩
      have hi2 : i < zs.length := by
        have := (List.getElem?_eq_some_iff.mp hi).1
        rwa [List.length_map] at this
      obtain ⟨z, rfl⟩ : ∃ z, x = V.int z := by
        rw [List.getElem?_map] at hi
        cases e : zs[i]? with
        | none => rw [e] at hi; cases hi
        | some z => rw [e] at hi; exact ⟨z, (Option.some.inj hi).symm⟩
      walk_at "g"
      refine ⟨rfl, ?_⟩
      walk_at "g"
      refine ⟨z, rfl, fun d a b e hd => ?_⟩
      have nd : D ≠ d := ne_of_none eD hd
      refine ⟨ds.map V.ref, by rw [upd_ne nd]; exact eD, by rw [List.length_map, el]; exact Nat.lt_of_lt_of_le (Nat.lt_of_lt_of_le hi2 hzs) (by decide), ds ++ [d], by rw [List.length_append, el]; rfl, fun b o hb => ?_, by rw [upd_same, List.map_append]; rfl, fun b hb => ?_⟩
      · rw [upd_ne (ne_of_none hb hD), upd_ne (ne_of_none (e2 _ _ hb) hd)]
        exact e2 _ _ hb
      · rcases List.mem_append.mp hb with hb | hb
        · obtain ⟨h1, h2, h3⟩ := hds b hb
          obtain ⟨a', b', c', h1⟩ := h1
          exact ⟨⟨a', b', c', by rw [upd_ne h3, upd_ne (ne_of_none h1 hd)]; exact h1⟩, h2, h3⟩
        · rcases List.mem_singleton.mp hb with rfl
          exact ⟨⟨_, _, _, by rw [upd_ne nd.symm, upd_same]⟩, e2.free hd, nd.symm⟩
    · rintro H2 ⟨ds, el, e2, eD, hds⟩
      rw [List.length_map] at el
      exact q D H2 ds (e1.trans e2) (e1.free hD) eD (fun d hd => ⟨(hds d hd).1, e1.free (hds d hd).2.1⟩) (by omega)
  walk_at "g"
  intro p2 hp2
  refine ⟨_, _, .lst (SqL.of (same_new hp2 _ _ _ upd_same)) (dp_ints ms), .lst (SqL.of upd_same) .nil, shaped_ints ms, rfl, ?_⟩
  rw [eqv_nil]
  walk_at "g"
  have s2 := s1.trans (same_new hp2 (.lst []))
  refine w_iteD (fun c1 => ?_) (fun c1 => ?_)
  · walk_at "g"
    intro p3 hp3
    exact rest _ p3 [0] (s2.trans (same_new hp3 _)) upd_same (by decide) none
  · exact rest _ p1 ms s2 (same_new hp2 _ _ _ upd_same) hz none
end
end K01
end

section
-- part K01M
set_option Elab.async false
set_option linter.all false
set_option maxRecDepth 100000
set_option maxHeartbeats 2000000
/-! K01M: what a text's tokens are; core Lean -/
namespace Lx
open PySem PySem.Spec PyProof.Rows L2 Fw
/-- how many of the first signs are of a class -/
def run (p : Nat → Bool) (r : List Nat) : Nat := (r.takeWhile p).length
theorem run_nil (p : Nat → Bool) : run p [] = 0 := rfl
theorem run_cons (p : Nat → Bool) (c : Nat) (r : List Nat) : run p (c :: r) = if p c = true then 1 + run p r else 0 := by
  unfold run
  rw [List.takeWhile_cons]
  cases p c with
  | true => simp; omega
  | false => rfl
theorem run_le (p : Nat → Bool) (r : List Nat) : run p r ≤ r.length := by
  induction r with
  | nil => exact Nat.le_refl _
  | cons c r ih =>
    rw [run_cons]
    split
    · rw [List.length_cons]; omega
    · omega
theorem drop_get {l : List Nat} {q : Nat} (h : q < l.length) : l.drop q = l[q] :: l.drop (q + 1) := List.drop_eq_getElem_cons h
/-- signs between tokens; the flag: within a comment -/
def gap : Bool → List Nat → Nat
  | _, [] => 0
  | true, c :: r => if c = 10 then 1 + gap false r else 1 + gap true r
  | false, c :: r => if c = 32 ∨ c = 10 then 1 + gap false r else if c = 45 ∧ r.head? = some 45 then 1 + gap true r else 0
theorem gap_le : ∀ (b : Bool) (r : List Nat), gap b r ≤ r.length
  | b, [] => by simp [gap]
  | true, c :: r => by
    have h1 := gap_le false r
    have h2 := gap_le true r
    rw [gap, List.length_cons]
    split <;> omega
  | false, c :: r => by
    have h1 := gap_le false r
    have h2 := gap_le true r
    rw [gap, List.length_cons]
    split
    · omega
    · split <;> omega
/-- a comment up to its line's end -/
theorem gap_comment : ∀ (r : List Nat), gap true r = (match r.findIdx? (· == 10) with | some k => k + gap false (r.drop k) | none => r.length)
  | [] => rfl
  | c :: r => by
    rw [gap, List.findIdx?_cons]
    by_cases h : c = 10
    · subst h
      simp [gap]
    · have e : (c == 10) = false := by simp [h]
      rw [if_neg h, gap_comment r, e]
      cases r.findIdx? (· == 10) with
      | none =>
        show 1 + r.length = r.length + 1
        omega
      | some k =>
        show 1 + (k + gap false (r.drop k)) = (k + 1) + gap false ((c :: r).drop (k + 1))
        rw [List.drop_succ_cons]
        omega
/-- a text in quotes behind its first quote: its signs, and how many signs it takes -/
def quot : List Nat → Option (List Nat × Nat)
  | [] => none
  | [c] => if c = 39 then some ([], 1) else none
  | c :: d :: r => if c = 39 then (if d = 39 then (quot r).map (fun sn => (39 :: sn.1, sn.2 + 2)) else some ([], 1)) else (quot (d :: r)).map fun sn => (c :: sn.1, sn.2 + 1)
def small : List Nat := [97, 98, 99, 100, 101, 102, 103, 104, 105, 106, 107, 108, 109, 110, 111, 112, 113, 114, 115, 116, 117, 118, 119, 120, 121, 122]
def letters : List Nat := [97, 98, 99, 100, 101, 102, 103, 104, 105, 106, 107, 108, 109, 110, 111, 112, 113, 114, 115, 116, 117, 118, 119, 120, 121, 122, 65, 66, 67, 68, 69, 70, 71, 72, 73, 74, 75, 76, 77, 78, 79, 80, 81, 82, 83, 84, 85, 86, 87, 88, 89, 90, 95]
def digits : List Nat := [48, 49, 50, 51, 52, 53, 54, 55, 56, 57]
def alphabet : List Nat := [10, 32, 33, 34, 35, 36, 38, 39, 40, 41, 42, 43, 44, 45, 46, 47, 48, 49, 50, 51, 52, 53, 54, 55, 56, 57, 58, 59, 60, 61, 62, 63, 64, 65, 66, 67, 68, 69, 70, 71, 72, 73, 74, 75, 76, 77, 78, 79, 80, 81, 82, 83, 84, 85, 86, 87, 88, 89, 90, 91, 92, 93, 94, 95, 96, 97, 98, 99, 100, 101, 102, 103, 104, 105, 106, 107, 108, 109, 110, 111, 112, 113, 114, 115, 116, 117, 118, 119, 120, 121, 122, 123, 124, 125, 126]
def KW : List (List Nat) := [[97, 108, 108], [97, 110, 97, 108, 121, 122, 101], [97, 110, 100], [97, 115], [97, 115, 99], [98, 101, 103, 105, 110], [98, 101, 116, 119, 101, 101, 110], [98, 121], [99, 97, 115, 101], [99, 104, 101, 99, 107], [99, 111, 109, 109, 105, 116], [99, 114, 101, 97, 116, 101], [100, 101, 102, 97, 117, 108, 116], [100, 101, 108, 101, 116, 101], [100, 101, 115, 99], [100, 105, 115, 116, 105, 110, 99, 116], [100, 114, 111, 112], [101, 108, 115, 101], [101, 110, 100], [101, 120, 99, 101, 112, 116], [101, 120, 105, 115, 116, 115], [101, 120, 112, 108, 97, 105, 110], [102, 111, 114, 101, 105, 103, 110], [102, 114, 111, 109], [103, 114, 111, 117, 112], [104, 97, 118, 105, 110, 103], [105, 110], [105, 110, 100, 101, 120], [105, 110, 115, 101, 114, 116], [105, 110, 116], [105, 110, 116, 101, 114, 115, 101, 99, 116], [105, 110, 116, 111], [105, 115], [106, 111, 105, 110], [107, 101, 121], [108, 101, 102, 116], [108, 105, 107, 101], [108, 105, 109, 105, 116], [109, 111, 100], [110, 111, 116], [110, 117, 108, 108], [111, 102, 102, 115, 101, 116], [111, 110], [111, 114], [111, 114, 100, 101, 114], [112, 114, 105, 109, 97, 114, 121], [114, 101, 102, 101, 114, 101, 110, 99, 101, 115], [114, 101, 108, 101, 97, 115, 101], [114, 111, 108, 108, 98, 97, 99, 107], [115, 97, 118, 101, 112, 111, 105, 110, 116], [115, 101, 108, 101, 99, 116], [115, 101, 116], [116, 97, 98, 108, 101], [116, 101, 120, 116], [116, 104, 101, 110], [116, 111], [117, 110, 105, 111, 110], [117, 110, 105, 113, 117, 101], [117, 112, 100, 97, 116, 101], [118, 97, 108, 117, 101, 115], [118, 105, 101, 119], [119, 104, 101, 110], [119, 104, 101, 114, 101]]
def LONG : List (List Nat) := [[60, 62], [60, 61], [62, 61], [124, 124]]
def SHORT : List (List Nat) := [[40], [41], [44], [46], [59], [61], [60], [62], [43], [45], [42], [47]]
def sInt : List Nat := [105, 110, 116]
def sKind : List Nat := [107, 105, 110, 100, 32, 105, 110, 116]
def sName : List Nat := [110, 97, 109, 101]
def sQuoted : List Nat := [113, 117, 111, 116, 101, 100]
def sEnd : List Nat := [101, 110, 100, 32, 111, 102, 32, 116, 101, 120, 116]
def isLet (c : Nat) : Bool := decide (c ∈ letters)
def isDig (c : Nat) : Bool := decide (c ∈ digits)
def isWd (c : Nat) : Bool := decide (c ∈ letters ++ digits)
/-- a name's class -/
def wordOf (nm : List Nat) : List Nat := if nm = sInt then sKind else if nm ∈ KW then nm else sName
/-- the token that a text begins with: its class, its value, how many signs it takes; none: no token -/
def tokAt : List Nat → Option (List Nat × V × Nat)
  | [] => none
  | c :: r =>
    if isLet c = true then some (wordOf (((c :: r).take (run isWd (c :: r))).map lo1), .str (S (((c :: r).take (run isWd (c :: r))).map lo1)), run isWd (c :: r))
    else if isDig c = true then
      if 19 < run isDig (c :: r) then none
      else if 9223372036854775807 < NumText.digitsVal ((c :: r).take (run isDig (c :: r))) then none
      else some (sInt, .int (NumText.digitsVal ((c :: r).take (run isDig (c :: r))) : Nat), run isDig (c :: r))
    else if c = 39 then
      match quot r with
      | none => none
      | some (s, n) => if ∀ x ∈ s, x ∈ alphabet then some (sQuoted, .str (S s), n + 1) else none
    else if (c :: r).take 2 ∈ LONG then some ((c :: r).take 2, .str (S ((c :: r).take 2)), 2)
    else if [c] ∈ SHORT then some ([c], .str (S [c]), 1)
    else none
/-- the tokens from a place on; none: the text is refused -/
def lex : Nat → Nat → List Nat → Option (List (List Nat × V × Nat))
  | 0, _, _ => none
  | f + 1, p, r =>
    if r.drop (gap false r) = [] then some [(sEnd, .non, p + gap false r)]
    else match tokAt (r.drop (gap false r)) with
      | none => none
      | some (w, v, n) => (lex f (p + gap false r + n) (r.drop (gap false r + n))).map ((w, v, p + gap false r) :: ·)
theorem quot_cons {c : Nat} (h : ¬ c = 39) (r : List Nat) : quot (c :: r) = (quot r).map fun sn => (c :: sn.1, sn.2 + 1) := by
  cases r with
  | nil =>
    show quot [c] = none
    rw [quot, if_neg h]
  | cons d r => rw [quot, if_neg h]
theorem quot_find : ∀ r : List Nat, quot r = (match r.findIdx? (· == 39) with
  | none => none
  | some k => if (r.drop (k + 1)).head? = some 39 then (quot (r.drop (k + 2))).map (fun sn => (r.take k ++ 39 :: sn.1, k + 2 + sn.2)) else some (r.take k, k + 1))
  | [] => rfl
  | c :: r => by
    rw [List.findIdx?_cons]
    by_cases h : c = 39
    · subst h
      cases r with
      | nil => rfl
      | cons d r =>
        rw [quot, if_pos rfl]
        show _ = if some d = some 39 then Option.map _ (quot r) else _
        by_cases hd : d = 39
        · subst hd
          rw [if_pos rfl, if_pos rfl]
          congr 1
          funext sn
          show (39 :: sn.1, sn.2 + 2) = ([] ++ 39 :: sn.1, 0 + 2 + sn.2)
          rw [Nat.zero_add, Nat.add_comm]
          rfl
        · rw [if_neg hd, if_neg (fun e => hd (Option.some.inj e))]
          rfl
    · have e1 : (c == 39) = false := by simp [h]
      rw [quot_cons h, quot_find r, e1]
      cases r.findIdx? (· == 39) with
      | none => rfl
      | some k =>
        show (if (r.drop (k + 1)).head? = some 39 then _ else _ : Option (List Nat × Nat)).map _ = if ((c :: r).drop (k + 1 + 1)).head? = some 39 then _ else _
        rw [List.drop_succ_cons]
        by_cases h2 : (r.drop (k + 1)).head? = some 39
        · rw [if_pos h2, if_pos h2, Option.map_map]
          show Option.map _ (quot (r.drop (k + 2))) = Option.map _ (quot ((c :: r).drop (k + 1 + 2)))
          rw [show (c :: r).drop (k + 1 + 2) = r.drop (k + 2) from rfl]
          congr 1
          funext sn
          show (c :: (r.take k ++ 39 :: sn.1), k + 2 + sn.2 + 1) = ((c :: r).take (k + 1) ++ 39 :: sn.1, k + 1 + 2 + sn.2)
          rw [List.take_succ_cons, List.cons_append]
          congr 1
          omega
        · rw [if_neg h2, if_neg h2]
          rfl
theorem quot_len : ∀ (r s : List Nat) (n : Nat), quot r = some (s, n) → 0 < n ∧ n ≤ r.length
  | [], s, n, h => by cases h
  | [c], s, n, h => by
    rw [quot] at h
    split at h
    · cases h; exact ⟨by decide, by simp⟩
    · cases h
  | c :: d :: r, s, n, h => by
    rw [quot] at h
    split at h
    · split at h
      · obtain ⟨⟨s', n'⟩, h1, h2⟩ := Option.map_eq_some_iff.mp h
        have := quot_len r s' n' h1
        cases h2
        simp only [List.length_cons]
        omega
      · cases h
        exact ⟨by decide, by simp⟩
    · obtain ⟨⟨s', n'⟩, h1, h2⟩ := Option.map_eq_some_iff.mp h
      have := quot_len (d :: r) s' n' h1
      cases h2
      simp only [List.length_cons] at this ⊢
      omega
theorem let_wd {c : Nat} (h : isLet c = true) : isWd c = true := by
  have h2 : c ∈ letters := of_decide_eq_true h
  exact decide_eq_true (List.mem_append_left _ h2)
theorem long_two {x : List Nat} (h : x ∈ LONG) : x.length = 2 := by
  have h2 : LONG.all (fun x => x.length == 2) = true := by decide +kernel
  simpa using List.all_eq_true.mp h2 x h
theorem tokAt_len {r w : List Nat} {v : V} {n : Nat} (h : tokAt r = some (w, v, n)) : 0 < n ∧ n ≤ r.length := by
  cases r with
  | nil => cases h
  | cons c r =>
    unfold tokAt at h
    dsimp only at h
    split at h
    · rename_i c1
      cases h
      refine ⟨?_, run_le _ _⟩
      rw [run_cons, if_pos (let_wd c1)]
      omega
    · split at h
      · rename_i c1 c2
        split at h
        · cases h
        · split at h
          · cases h
          · cases h
            refine ⟨?_, run_le _ _⟩
            rw [run_cons, if_pos c2]
            omega
      · split at h
        · split at h
          · cases h
          · rename_i s n' hq
            split at h
            · cases h
              have := quot_len r _ _ hq
              rw [List.length_cons]
              omega
            · cases h
        · split at h
          · rename_i c4
            cases h
            have e := long_two c4
            rw [List.length_take] at e
            omega
          · split at h
            · cases h
              rw [List.length_cons]
              omega
            · cases h
theorem lex_done {f p : Nat} {r : List Nat} (h : r.drop (gap false r) = []) : lex (f + 1) p r = some [(sEnd, .non, p + gap false r)] := by rw [lex, if_pos h]
theorem lex_bad {f p : Nat} {r : List Nat} (h : r.drop (gap false r) ≠ []) (e : tokAt (r.drop (gap false r)) = none) : lex (f + 1) p r = none := by rw [lex, if_neg h, e]
theorem lex_step {f p n : Nat} {r w : List Nat} {v : V} (h : r.drop (gap false r) ≠ []) (e : tokAt (r.drop (gap false r)) = some (w, v, n)) :
    lex (f + 1) p r = (lex f (p + gap false r + n) (r.drop (gap false r + n))).map ((w, v, p + gap false r) :: ·) := by rw [lex, if_neg h, e]
end Lx
end

section
-- part K01B
set_option Elab.async false
set_option linter.all false
set_option maxRecDepth 100000
set_option maxHeartbeats 4000000
open PySem PySem.Spec PyProof.Rows L2 Fw
local macro_rules | `(tactic| walk_at "e1") => `(tactic| first
  | ((with_reducible refine' w_var ?hv ?_); (case hv => rfl))
  | with_reducible refine w_c ?_
  | with_reducible refine w_op ?_
  | with_reducible refine w_un ?_
  | with_reducible refine w_cons ?_
  | with_reducible refine w_nil ?_
  | with_reducible refine w_cl ?_
  | with_reducible refine w_cb ?_
  | with_reducible refine w_gname ?_
  | with_reducible refine w_gsub ?_
  | with_reducible refine w_test ?_
  | with_reducible refine w_B ?_
  | with_reducible refine w_bl ?_
  | with_reducible refine w_and ?_
  | with_reducible refine w_or ?_
  | with_reducible refine w_not ?_
  | with_reducible refine w_if ?_
  | with_reducible refine w_I0 ?_
  | with_reducible refine w_ipI ?_
  | with_reducible refine w_eqS ?_
  | with_reducible refine w_neS ?_
  | with_reducible refine w_eqI ?_
  | ((with_reducible refine w_eq ?hs ?_); (case hs => rfl))
  | ((with_reducible refine w_ne ?hs ?_); (case hs => rfl))
  | with_reducible refine w_fld ?_
  | with_reducible refine w_bm ?_
  | with_reducible refine w_bm0 ?_
  | with_reducible refine w_sl ?_
  | with_reducible refine w_part ?_
  | with_reducible refine w_partI ?_
  | with_reducible refine w_nopart ?_
  | ((with_reducible refine' w_ixL ?hh ?ha ?_); (case hh => first | assumption | exact upd_same); (case ha => rfl))
  | ((with_reducible refine' w_setLu ?ha ?_); (case ha => rfl))
  | ((with_reducible refine' w_setL ?hh ?ha ?_); (case hh => first | assumption | exact upd_same); (case ha => rfl))
  | with_reducible refine w_iteT ?_
  | with_reducible refine w_iteF ?_
  | with_reducible refine w_lst ?_
  | with_reducible refine w_tup ?_
  | ((with_reducible refine w_new ?hz ?_); (case hz => rfl))
  | with_reducible refine w_lc ?_
  | with_reducible refine w_iL ?_
  | with_reducible refine w_iT ?_
  | with_reducible refine w_iR1 ?_
  | with_reducible refine w_iR2 ?_
  | with_reducible refine w_yes ?_
  | with_reducible refine w_iStr ?_
  | with_reducible exact tyS
  | with_reducible refine And.intro tyS ?_
  | ((with_reducible refine w_find3 ?_); (first | rw [find3_one] | rw [starts3] | skip))
  | ((with_reducible refine w_2s ?_); (try rw [find_one]))
  | ((with_reducible refine w_inS ?_); rw [S_list])
  | ((with_reducible refine w_lenS ?hz ?_); (case hz => first | assumption | omega | decide); rw [SX.S_len])
  | ((with_reducible refine w_addS ?hz ?_); (case hz => first | assumption | omega | decide); rw [vS_cat])
  | with_reducible refine w_mk ?_
  | with_reducible refine w_me ?_
  | with_reducible refine w_sfld ?_
  | ((with_reducible refine' w_gtup ?hh ?hn ?_); (case hh => first | assumption | exact upd_same); (case hn => rfl))
  | with_reducible refine w_gcons ?_
  | with_reducible refine w_gnil ?_
  | with_reducible refine w_repl ?_
  | with_reducible refine w_chain ?_
  | with_reducible refine w_x1i ?_
  | with_reducible refine w_x1b ?_
  | with_reducible refine w_x1s ?_
  | with_reducible refine w_int1i ?_
  | with_reducible refine w_int1b ?_
  | ((with_reducible refine w_mod ?hc ?_); (case hc => omega))
  | ((with_reducible refine w_fdivW ?hc ?hd ?_); (case hc => omega); (case hd => omega))
  | ((with_reducible refine w_mul ?hc ?_); (case hc => first | exact Or.inr ⟨by decide, by decide⟩ | exact Or.inl ⟨by decide, by decide⟩))
  | ((with_reducible refine w_pow ?hc ?_); (case hc => exact ⟨by decide, by decide, by decide⟩)))
local macro_rules | `(tactic| walk_at "s1") => `(tactic| first
  | with_reducible refine w_seq ?_
  | with_reducible refine w_asg ?_
  | with_reducible refine w_ret ?_
  | with_reducible refine w_drop ?_
  | with_reducible refine w_next ?_
  | with_reducible refine w_ifs ?_
  | ((with_reducible refine' w_aug ?hv ?_); (case hv => rfl))
  | with_reducible refine w_for ?_
  | walk_at "e1")
local macro_rules | `(tactic| walk_at "e") => `(tactic| repeat walk_at "e1")
local macro_rules | `(tactic| walk_at "g") => `(tactic| repeat walk_at "s1")

namespace K01
open Lx
-- sign_number: 0:sign 1:place
abbrev s_sign_number : Stmt := top 6
theorem sc_sign_number : FnScope ["sign", "place"] ["sign"] (defScope s_sign_number) := ⟨rfl, rfl, rfl, by decide +kernel, rfl, by decide +kernel, by decide +kernel⟩
-- check_text: 0:text 1:sign
abbrev s_check_text : Stmt := top 7
theorem sc_check_text : FnScope ["text", "sign"] ["text"] (defScope s_check_text) := ⟨rfl, rfl, rfl, by decide +kernel, rfl, by decide +kernel, by decide +kernel⟩
-- run_end: 0:text 1:place 2:signs
abbrev s_run_end : Stmt := top 26
theorem sc_run_end : FnScope ["text", "place", "signs"] ["text", "place", "signs"] (defScope s_run_end) := ⟨rfl, rfl, rfl, by decide +kernel, rfl, by decide +kernel, by decide +kernel⟩
-- gap_end: 0:text 1:place 2:end
abbrev s_gap_end : Stmt := top 24
theorem sc_gap_end : FnScope ["text", "place", "end"] ["text", "place"] (defScope s_gap_end) := ⟨rfl, rfl, rfl, by decide +kernel, rfl, by decide +kernel, by decide +kernel⟩
/-- a text of the top -/
def Ct (mg : Str → Option Value) (x : Str) (l : List Nat) : Prop := ∃ u, mg x = some u ∧ RelV (.str (S l)) u
/-- what is known of an own error's class -/
structure Ex (K : PySem.W.Frag) (mg : Str → Option Value) (x : Str) (C : Addr) : Prop where
  ox : PySem.W.excIn K C [.type "ValueError", .type "Exception", .type "BaseException", .type "object"] "ValueError.__new__" = true
  og : mg x = some (.ref C)
  ok : PySem.W.keepIn K (.ref C) = true
  ob : PySem.W.subIn K (.ref C) (.type "BaseException") = some true
  ot : PySem.W.typeIn K (.ref C) = some (.type "type")
structure Wx (K : PySem.W.Frag) (mg : Str → Option Value) (cTE : Addr) : Prop extends Wl K mg where
  e_TextError : Ex K mg "TextError" cTE
  c_ALPHABET : Ct mg "ALPHABET" alphabet
  c_GAPS : Ct mg "GAPS" [32, 10]
  c_COMMENT : Ct mg "COMMENT" [45, 45]
  d_sign_number : FnP K mg "sign_number" s_sign_number
  d_check_text : FnP K mg "check_text" s_check_text
  d_run_end : FnP K mg "run_end" s_run_end
  d_gap_end : FnP K mg "gap_end" s_gap_end
section
variable {P : Program} {w : World} {K : PySem.W.Frag} {mg : Str → Option Value} {base : Heap} {cTE : Addr}
/-- the sign's place, or a TextError -/
def spSign (C : Addr) : Sp := fun vs H Q E => ∃ c : Nat, vs = [.str (S [c])] ∧ (c ∈ alphabet → ∀ k : Nat, Q (.int (k : Int)) H) ∧ (c ∉ alphabet → E (.ref C) none H)
theorem ok_sign_number (W : Wx K mg cTE) : Cl P w K mg base 1 "sign_number" (spSign cTE) := by
  refine cl_mk W.d_sign_number sc_sign_number (fun _ _ _ _ _ _ us hl => match us, hl with | [_], _ => rfl) (fun vs H Q E h => ?_) (fun f cdv A outer s H vs Q E hr h => ?_)
  · obtain ⟨c, rfl, _⟩ := h; rfl
  obtain ⟨c, rfl, q1, q2⟩ := h
  refine ⟨_, (pss_cons (ps_set (i := 1) sc_sign_number.nd rfl (Or.inl rfl) (pe_bm PySem.F.plainAttrs_str PySem.F.slot_str_find PySem.F.type_str_find mt_find (C8.pe_gc rfl W.c_ALPHABET) (pa_cons (pv 0) pa_nil)))
    (pss_cons (ps_if (pt_cmpR op_lt (pv 1) pe_int (nomark _))
    (pss_one (ps_raise rfl (takes_of rfl rfl rfl rfl) (pmk_own PySem.F.excBase_ValueError W.e_TextError.ox W.e_TextError.og W.e_TextError.ok (raises_own W.e_TextError.ob W.e_TextError.ot) rfl)))
    pss_nil)
    (pss_one (ps_ret (pv 1))))), ?_⟩
  walk_at "g"
  cases e : alphabet.findIdx? (· == c) with
  | none =>
    have hn : c ∉ alphabet := fun hc => by
      have := List.findIdx?_eq_none_iff.mp e c hc
      simp at this
    simp only [e]
    refine w_iteD (fun c1 => ?_) (fun c1 => ?_)
    · exact q2 hn
    · exact absurd (by decide) c1
  | some k =>
    obtain ⟨hk, e1, _⟩ := List.findIdx?_eq_some_iff_getElem.mp e
    have hm : c ∈ alphabet := by
      have := List.getElem_mem hk
      rwa [eq_of_beq e1] at this
    simp only [e]
    refine w_iteD (fun c1 => ?_) (fun c1 => ?_)
    · exfalso
      have c2 : (k : Int) < 0 := c1
      omega
    · walk_at "g"
      exact q1 hm k
def spCheck (C : Addr) : Sp := fun vs H Q E => ∃ l : List Nat, vs = [.str (S l)] ∧ ((∀ c ∈ l, c ∈ alphabet) → Q (.str (S l)) H) ∧ ((¬ ∀ c ∈ l, c ∈ alphabet) → E (.ref C) none H)
theorem ok_check_text (W : Wx K mg cTE) (c_sign_number : Cl P w K mg base 1 "sign_number" (spSign cTE)) : Cl P w K mg base 2 "check_text" (spCheck cTE) := by
  refine cl_mk W.d_check_text sc_check_text (fun _ _ _ _ _ _ us hl => match us, hl with | [_], _ => rfl) (fun vs H Q E h => ?_) (fun f cdv A outer s H vs Q E hr h => ?_)
  · obtain ⟨c, rfl, _⟩ := h; rfl
  obtain ⟨l, rfl, q1, q2⟩ := h
  refine ⟨_, (pss_cons (ps_for (passes_of rfl) rfl (pi_str (pv 0)) (pg_name (i := 1) sc_check_text.nd rfl (Or.inl rfl))
    (pss_one (ps_expr (pe_cl c_sign_number hr (by decide) rfl passD (pa_cons (pv 1) pa_nil)))))
    (pss_one (ps_ret (pv 0)))), ?_⟩
  walk_at "g"
  refine w_forS (fun i σ H' => H' = H ∧ (∀ c ∈ l.take i, c ∈ alphabet) ∧ ∃ v : Option V, σ = [some (.str (S l)), v]) ⟨rfl, by simp, none, rfl⟩ ?_ ?_
  · rintro i c σ H' hi ⟨rfl, ha, v, rfl⟩
    walk_at "g"
    refine ⟨c, rfl, fun hc k => ?_, fun hc => ?_⟩
    · refine ⟨rfl, ?_, _, rfl⟩
      intro d hd
      rw [List.take_add_one, hi] at hd
      rcases List.mem_append.mp hd with hd | hd
      · exact ha d hd
      · rcases List.mem_singleton.mp (by simpa using hd) with rfl
        exact hc
    · exact q2 fun h => hc (h c (List.mem_of_getElem? hi))
  · rintro σ H' ⟨rfl, ha, v, rfl⟩
    rw [List.take_length] at ha
    walk_at "g"
    exact q1 ha
/-- the place behind the signs of a class -/
def spRun : Sp := fun vs H Q _ => ∃ (l signs : List Nat) (p : Nat), vs = [.str (S l), .int (p : Int), .str (S signs)] ∧ l.length ≤ 1000000 ∧ p ≤ l.length ∧ Q (.int ((p + run (fun c => decide (c ∈ signs)) (l.drop p) : Nat) : Int)) H
theorem le_line {n : Nat} (h : n ≤ 1000000) : n ≤ sizeLine := Nat.le_trans h (by decide)
theorem ok_run_end (W : Wx K mg cTE) : Cl P w K mg base 1 "run_end" spRun := by
  refine cl_mk W.d_run_end sc_run_end (fun _ _ _ _ _ _ us hl => match us, hl with | [_, _, _], _ => rfl) (fun vs H Q E h => ?_) (fun f cdv A outer s H vs Q E hr h => ?_)
  · obtain ⟨l, signs, p, rfl, _⟩ := h; rfl
  obtain ⟨l, signs, p, rfl, hl, hp, q⟩ := h
  have hz := le_line hl
  refine ⟨_, (pss_cons (ps_while (passes_of rfl) (PW.pt (pw_and (pt_cmpR op_lt (pv 1) (pe_callB call_len_str rfl W.n_len PySem.boot_len (pa_cons (pv 0) pa_nil)) (nomark _)) (pw_and1 (pt_cmpR op_in_sign (pe_ix ix_str (pv 0) (pv 1) (fun _ _ => rfl)) (pv 2) (by with_unfolding_all rfl)))))
    (pss_one (ps_aug (i := 1) sc_run_end.nd rfl (Or.inl rfl) pe_int ip_add)))
    (pss_one (ps_ret (pv 1)))), ?_⟩
  walk_at "s1"
  refine w_while (fun m σ H' => H' = H ∧ ∃ z : Nat, σ = [some (.str (S l)), some (.int (z : Int)), some (.str (S signs))] ∧ z ≤ l.length ∧ m = l.length - z ∧ z + run (fun c => decide (c ∈ signs)) (l.drop z) = p + run (fun c => decide (c ∈ signs)) (l.drop p))
    (l.length - p) ⟨rfl, p, rfl, hp, rfl, rfl⟩ ?_
  rintro m σ H' ⟨rfl, z, rfl, hz1, rfl, e⟩
  walk_at "g"
  refine w_iteD (fun c1 => ?_) (fun c1 => ?_)
  · have hlt : z < l.length := by omega
    walk_at "g"
    refine w_ixS hz (List.getElem?_eq_getElem hlt) ?_
    walk_at "g"
    have e2 := drop_get hlt
    refine w_iteD (fun c2 => ?_) (fun c2 => ?_)
    · refine ⟨fun σ' H'' => H'' = H' ∧ ∃ z' : Nat, σ' = [some (.str (S l)), some (.int (z' : Int)), some (.str (S signs))] ∧ z' = z + 1, fun σ' H'' ⟨h1, z', h2, h3⟩ => ⟨l.length - z', by omega, h1, z', h2, by omega, rfl, ?_⟩, ?_⟩
      · subst h3
        rw [← e, e2, run_cons, if_pos (decide_eq_true c2)]
        omega
      · walk_at "g"
        exact ⟨rfl, z + 1, rfl, rfl⟩
    · rw [e2, run_cons, if_neg (by simp [c2])] at e
      walk_at "g"
      rw [← e] at q
      exact q
  · have hge : z = l.length := by omega
    walk_at "g"
    have e3 : l.drop z = [] := List.drop_eq_nil_of_le (by omega)
    rw [e3, run_nil] at e
    walk_at "g"
    rw [← e] at q
    exact q
end
end K01
end

section
-- part K01C
set_option Elab.async false
set_option linter.all false
set_option maxRecDepth 100000
set_option maxHeartbeats 4000000
open PySem PySem.Spec PyProof.Rows L2 Fw
local macro_rules | `(tactic| walk_at "e1") => `(tactic| first
  | ((with_reducible refine' w_var ?hv ?_); (case hv => rfl))
  | with_reducible refine w_c ?_
  | with_reducible refine w_op ?_
  | with_reducible refine w_un ?_
  | with_reducible refine w_cons ?_
  | with_reducible refine w_nil ?_
  | with_reducible refine w_cl ?_
  | with_reducible refine w_cb ?_
  | with_reducible refine w_gname ?_
  | with_reducible refine w_gsub ?_
  | with_reducible refine w_test ?_
  | with_reducible refine w_B ?_
  | with_reducible refine w_bl ?_
  | with_reducible refine w_and ?_
  | with_reducible refine w_or ?_
  | with_reducible refine w_not ?_
  | with_reducible refine w_if ?_
  | with_reducible refine w_I0 ?_
  | with_reducible refine w_ipI ?_
  | with_reducible refine w_eqS ?_
  | with_reducible refine w_neS ?_
  | with_reducible refine w_eqI ?_
  | ((with_reducible refine w_eq ?hs ?_); (case hs => rfl))
  | ((with_reducible refine w_ne ?hs ?_); (case hs => rfl))
  | with_reducible refine w_fld ?_
  | with_reducible refine w_bm ?_
  | with_reducible refine w_bm0 ?_
  | with_reducible refine w_sl ?_
  | with_reducible refine w_part ?_
  | with_reducible refine w_partI ?_
  | with_reducible refine w_nopart ?_
  | ((with_reducible refine' w_ixL ?hh ?ha ?_); (case hh => first | assumption | exact upd_same); (case ha => rfl))
  | ((with_reducible refine' w_setLu ?ha ?_); (case ha => rfl))
  | ((with_reducible refine' w_setL ?hh ?ha ?_); (case hh => first | assumption | exact upd_same); (case ha => rfl))
  | with_reducible refine w_iteT ?_
  | with_reducible refine w_iteF ?_
  | with_reducible refine w_lst ?_
  | with_reducible refine w_tup ?_
  | ((with_reducible refine w_new ?hz ?_); (case hz => rfl))
  | with_reducible refine w_lc ?_
  | with_reducible refine w_iL ?_
  | with_reducible refine w_iT ?_
  | with_reducible refine w_iR1 ?_
  | with_reducible refine w_iR2 ?_
  | with_reducible refine w_yes ?_
  | with_reducible refine w_iStr ?_
  | with_reducible exact tyS
  | with_reducible refine And.intro tyS ?_
  | ((with_reducible refine w_find3 ?_); (first | rw [find3_one] | rw [starts3] | skip))
  | ((with_reducible refine w_2s ?_); (try rw [find_one]))
  | ((with_reducible refine w_inS ?_); rw [S_list])
  | ((with_reducible refine w_lenS ?hz ?_); (case hz => first | assumption | omega | decide); rw [SX.S_len])
  | ((with_reducible refine w_addS ?hz ?_); (case hz => first | assumption | omega | decide); rw [vS_cat])
  | with_reducible refine w_mk ?_
  | with_reducible refine w_me ?_
  | with_reducible refine w_sfld ?_
  | ((with_reducible refine' w_gtup ?hh ?hn ?_); (case hh => first | assumption | exact upd_same); (case hn => rfl))
  | with_reducible refine w_gcons ?_
  | with_reducible refine w_gnil ?_
  | with_reducible refine w_repl ?_
  | with_reducible refine w_chain ?_
  | with_reducible refine w_x1i ?_
  | with_reducible refine w_x1b ?_
  | with_reducible refine w_x1s ?_
  | with_reducible refine w_int1i ?_
  | with_reducible refine w_int1b ?_
  | ((with_reducible refine w_mod ?hc ?_); (case hc => omega))
  | ((with_reducible refine w_fdivW ?hc ?hd ?_); (case hc => omega); (case hd => omega))
  | ((with_reducible refine w_mul ?hc ?_); (case hc => first | exact Or.inr ⟨by decide, by decide⟩ | exact Or.inl ⟨by decide, by decide⟩))
  | ((with_reducible refine w_pow ?hc ?_); (case hc => exact ⟨by decide, by decide, by decide⟩)))
local macro_rules | `(tactic| walk_at "s1") => `(tactic| first
  | with_reducible refine w_seq ?_
  | with_reducible refine w_asg ?_
  | with_reducible refine w_ret ?_
  | with_reducible refine w_drop ?_
  | with_reducible refine w_next ?_
  | with_reducible refine w_ifs ?_
  | ((with_reducible refine' w_aug ?hv ?_); (case hv => rfl))
  | with_reducible refine w_for ?_
  | walk_at "e1")
local macro_rules | `(tactic| walk_at "e") => `(tactic| repeat walk_at "e1")
local macro_rules | `(tactic| walk_at "g") => `(tactic| repeat walk_at "s1")

namespace K01
open Lx
-- Token.__init__: 0:self 1:word 2:value 3:place
abbrev s_Token___init__ : Stmt := inClass (top 22) 0
theorem sc_Token___init__ : FnScope ["self", "word", "value", "place"] ["self", "word", "value", "place"] (defScope s_Token___init__) := ⟨rfl, rfl, rfl, by decide +kernel, rfl, by decide +kernel, by decide +kernel⟩
-- Token.shown: 0:self
abbrev s_Token_shown : Stmt := inClass (top 22) 1
theorem sc_Token_shown : FnScope ["self"] ["self"] (defScope s_Token_shown) := ⟨rfl, rfl, rfl, by decide +kernel, rfl, by decide +kernel, by decide +kernel⟩
-- word_token: 0:text 1:place 2:end 3:name
abbrev s_word_token : Stmt := top 27
theorem sc_word_token : FnScope ["text", "place", "end", "name"] ["text", "place"] (defScope s_word_token) := ⟨rfl, rfl, rfl, by decide +kernel, rfl, by decide +kernel, by decide +kernel⟩
-- number_token: 0:text 1:place 2:end 3:number
abbrev s_number_token : Stmt := top 28
theorem sc_number_token : FnScope ["text", "place", "end", "number"] ["text", "place"] (defScope s_number_token) := ⟨rfl, rfl, rfl, by decide +kernel, rfl, by decide +kernel, by decide +kernel⟩
-- quoted_token: 0:text 1:place 2:parts 3:start 4:end
abbrev s_quoted_token : Stmt := top 29
theorem sc_quoted_token : FnScope ["text", "place", "parts", "start", "end"] ["text", "place"] (defScope s_quoted_token) := ⟨rfl, rfl, rfl, by decide +kernel, rfl, by decide +kernel, by decide +kernel⟩
-- token_at: 0:text 1:place 2:sign 3:pair
abbrev s_token_at : Stmt := top 25
theorem sc_token_at : FnScope ["text", "place", "sign", "pair"] ["text", "place"] (defScope s_token_at) := ⟨rfl, rfl, rfl, by decide +kernel, rfl, by decide +kernel, by decide +kernel⟩
-- tokenize: 0:text 1:tokens 2:place 3:token
abbrev s_tokenize : Stmt := top 23
theorem sc_tokenize : FnScope ["text", "tokens", "place", "token"] ["text"] (defScope s_tokenize) := ⟨rfl, rfl, rfl, by decide +kernel, rfl, by decide +kernel, by decide +kernel⟩
-- is_plain_name: 0:text
abbrev s_is_plain_name : Stmt := top 30
theorem sc_is_plain_name : FnScope ["text"] ["text"] (defScope s_is_plain_name) := ⟨rfl, rfl, rfl, by decide +kernel, rfl, by decide +kernel, by decide +kernel⟩
/-- a tuple of texts of the top -/
def Ctt (K : PySem.W.Frag) (mg : Str → Option Value) (x : Str) (ls : List (List Nat)) : Prop := ∃ a : Addr, mg x = some (.ref a) ∧ ∀ H, SqT K H a (ls.map fun l => V.str (S l))
def Cin (mg : Str → Option Value) (x : Str) (n : Int) : Prop := ∃ u, mg x = some u ∧ RelV (.int n) u
/-- the fields of a token -/
def tokF (w v p : V) : List (Str × V) := [("word", w), ("value", v), ("place", p)]
structure Wt (K : PySem.W.Frag) (mg : Str → Option Value) (cTE cTk aL aS aK : Addr) : Prop extends Wx K mg cTE where
  t_cl : Cls K cTk
  t_w : NoAttr K cTk "word"
  t_v : NoAttr K cTk "value"
  t_p : NoAttr K cTk "place"
  t_g : mg "Token" = some (.ref cTk)
  t_i : ∃ (f : Addr) (fd : FuncData), FunD K "__init__" "Token.__init__" (defArgs s_Token___init__) (defBody s_Token___init__) (defScope s_Token___init__) [] [] f fd ∧ Mk K cTk f
  t_s : FnM K cTk "shown" "Token.shown" s_Token_shown
  c_LETTERS : Ct mg "LETTERS" letters
  c_SMALL_LETTERS : Ct mg "SMALL_LETTERS" small
  c_DIGITS : Ct mg "DIGITS" digits
  c_QUOTE : Ct mg "QUOTE" [39]
  c_INT_KEYWORD : Ct mg "INT_KEYWORD" sInt
  c_INT_KIND : Ct mg "INT_KIND" sKind
  c_END : Ct mg "END" sEnd
  c_MOST_DIGITS : Cin mg "MOST_DIGITS" 19
  c_HIGHEST : Cin mg "HIGHEST" 9223372036854775807
  c_LONG_SIGNS : ∃ u, mg "LONG_SIGNS" = some u ∧ RelV (.ref aL) u
  c_SHORT_SIGNS : ∃ u, mg "SHORT_SIGNS" = some u ∧ RelV (.ref aS) u
  c_KEYWORDS : ∃ u, mg "KEYWORDS" = some u ∧ RelV (.ref aK) u
  q_LONG_SIGNS : ∀ H, SqT K H aL (LONG.map fun l => V.str (S l))
  q_SHORT_SIGNS : ∀ H, SqT K H aS (SHORT.map fun l => V.str (S l))
  q_KEYWORDS : ∀ H, SqT K H aK (KW.map fun l => V.str (S l))
  d_word_token : FnP K mg "word_token" s_word_token
  d_number_token : FnP K mg "number_token" s_number_token
  d_quoted_token : FnP K mg "quoted_token" s_quoted_token
  d_token_at : FnP K mg "token_at" s_token_at
  d_tokenize : FnP K mg "tokenize" s_tokenize
  d_is_plain_name : FnP K mg "is_plain_name" s_is_plain_name
section
variable {P : Program} {w : World} {K : PySem.W.Frag} {mg : Str → Option Value} {base : Heap} {cTE cTk aL aS aK : Addr}
def spGap : Sp := fun vs H Q _ => ∃ (l : List Nat) (p : Nat), vs = [.str (S l), .int (p : Int)] ∧ l.length ≤ 1000000 ∧ p ≤ l.length ∧ Q (.int ((p + gap false (l.drop p) : Nat) : Int)) H
theorem ok_gap_end (W : Wx K mg cTE) : Cl P w K mg base 1 "gap_end" spGap := by
  refine cl_mk W.d_gap_end sc_gap_end (fun _ _ _ _ _ _ us hl => match us, hl with | [_, _], _ => rfl) (fun vs H Q E h => ?_) (fun f cdv A outer s H vs Q E hr h => ?_)
  · obtain ⟨l, p, rfl, _⟩ := h; rfl
  obtain ⟨l, p, rfl, hl, hp, q⟩ := h
  have hz := le_line hl
  refine ⟨_, (pss_cons (ps_while (passes_of rfl) (pt_cmpR op_lt (pv 1) (pe_callB call_len_str rfl W.n_len PySem.boot_len (pa_cons (pv 0) pa_nil)) (nomark _))
    (pss_one (ps_if (pt_cmpR op_in_sign (pe_ix ix_str (pv 0) (pv 1) (fun _ _ => rfl)) (C8.pe_gc rfl W.c_GAPS) (by with_unfolding_all rfl))
    (pss_one (ps_aug (i := 1) sc_gap_end.nd rfl (Or.inl rfl) pe_int ip_add))
    (pss_one (ps_if (pt_val (pe_bm PySem.F.plainAttrs_str PySem.F.slot_str_startswith PySem.F.type_str_startswith mt_startswith3 (pv 0) (pa_cons (C8.pe_gc rfl W.c_COMMENT) (pa_cons (pv 1) pa_nil))))
    (pss_cons (ps_set (i := 2) sc_gap_end.nd rfl (Or.inl rfl) (pe_bm PySem.F.plainAttrs_str PySem.F.slot_str_find PySem.F.type_str_find mt_find3 (pv 0) (pa_cons pe_str (pa_cons (pv 1) pa_nil))))
    (pss_one (ps_set (i := 1) sc_gap_end.nd rfl (Or.inl rfl) (pe_ifExp (pt_cmpR op_lt (pv 2) pe_int (nomark _)) (pe_callB call_len_str rfl W.n_len PySem.boot_len (pa_cons (pv 0) pa_nil)) (pv 2)))))
    (pss_one (ps_ret (pv 1))))))))
    (pss_one (ps_ret (pv 1)))), ?_⟩
  walk_at "s1"
  refine w_while (fun m σ H' => H' = H ∧ ∃ (z : Nat) (v : Option V), σ = [some (.str (S l)), some (.int (z : Int)), v] ∧ z ≤ l.length ∧ m = l.length - z ∧ z + gap false (l.drop z) = p + gap false (l.drop p))
    (l.length - p) ⟨rfl, p, none, rfl, hp, rfl, rfl⟩ ?_
  rintro m σ H' ⟨rfl, z, v, rfl, hz1, rfl, e⟩
  walk_at "g"
  refine w_iteD (fun c1 => ?_) (fun c1 => ?_)
  · have hlt : z < l.length := by omega
    have e2 := drop_get hlt
    refine ⟨fun σ' H'' => H'' = H' ∧ ∃ (z' : Nat) (v' : Option V), σ' = [some (.str (S l)), some (.int (z' : Int)), v'] ∧ z < z' ∧ z' ≤ l.length ∧ z' + gap false (l.drop z') = z + gap false (l.drop z), fun σ' H'' ⟨h1, z', v', h2, h3, h4, h5⟩ => ⟨l.length - z', by omega, h1, z', v', h2, h4, rfl, by omega⟩, ?_⟩
    walk_at "g"
    refine w_ixS hz (List.getElem?_eq_getElem hlt) ?_
    walk_at "g"
    refine w_iteD (fun c2 => ?_) (fun c2 => ?_)
    · walk_at "g"
      refine ⟨rfl, z + 1, v, rfl, by omega, hlt, ?_⟩
      rw [e2, gap, if_pos (by simpa using c2)]
      omega
    · walk_at "g"
      refine w_iteD (fun c3 => ?_) (fun c3 => ?_)
      · -- a comment
        have c3' : (l.drop z).take 2 = [45, 45] ∧ z + 2 ≤ l.length := c3
        obtain ⟨c4, c5⟩ := c3'
        have hlt2 : z + 1 < l.length := by omega
        have e4 := drop_get hlt2
        rw [e2, e4] at c4
        have a1 : l[z] = 45 := (List.cons.inj c4).1
        have a2 : l[z + 1] = 45 := (List.cons.inj (List.cons.inj c4).2).1
        have g0 : gap false (l.drop z) = gap true (l.drop z) := by
          rw [e2, e4, a1, a2]
          simp [gap]
        have gc := gap_comment (l.drop z)
        have en : (Str.ofString "\n" : Str) = S [10] := by rfl
        walk_at "g"
        rw [en, find3_one]
        cases ef : (l.drop z).findIdx? (· == 10) with
        | none =>
          simp only [ef] at gc ⊢
          refine w_iteD (fun c6 => ?_) (fun c6 => absurd (by decide) c6)
          walk_at "g"
          rw [List.length_drop] at gc
          refine ⟨rfl, l.length, _, rfl, hlt, Nat.le_refl _, ?_⟩
          have : l.drop l.length = [] := List.drop_eq_nil_of_le (Nat.le_refl _)
          rw [this, g0, gc]
          simp only [gap]
          omega
        | some k =>
          simp only [ef] at gc ⊢
          obtain ⟨hk, ek, _⟩ := List.findIdx?_eq_some_iff_getElem.mp ef
          rw [List.length_drop] at hk
          have hk0 : k ≠ 0 := by
            rintro rfl
            simp only [e2, List.getElem_cons_zero, a1] at ek
            exact absurd ek (by decide)
          refine w_iteD (fun c6 => ?_) (fun c6 => ?_)
          · exfalso
            have c7 : ((z + k : Nat) : Int) < 0 := c6
            omega
          · walk_at "g"
            refine ⟨rfl, z + k, _, rfl, by omega, by omega, ?_⟩
            have gd : (l.drop z).drop k = l.drop (z + k) := by rw [List.drop_drop]
            rw [gd] at gc
            rw [g0, gc]
            exact Nat.add_assoc z k _
      · -- a token
        walk_at "g"
        have g1 : gap false (l.drop z) = 0 := by
          rw [e2, gap, if_neg (by simpa using c2), if_neg]
          rintro ⟨h1, h2⟩
          apply c3
          have hlt2 : z + 1 < l.length := by
            rcases Nat.lt_or_ge (z + 1) l.length with h | h
            · exact h
            · rw [List.drop_eq_nil_of_le h] at h2
              cases h2
          refine ⟨?_, hlt2⟩
          have e4 := drop_get hlt2
          rw [e4] at h2
          have h3 : l[z + 1] = 45 := Option.some.inj h2
          show (l.drop z).take 2 = [45, 45]
          rw [e2, e4, h1, h3]
          rfl
        rw [← e, g1] at q
        exact q
  · have hge : z = l.length := by omega
    walk_at "g"
    have e3 : l.drop z = [] := List.drop_eq_nil_of_le (by omega)
    rw [e3] at e
    rw [← e] at q
    exact q
/-! ### the class Token -/
/-- a token stands at x -/
def TokO (C : Addr) (H : Hp) (x : Addr) (w v p : V) : Prop := ∃ dx, H x = some (.ins C dx (tokF w v p))
theorem put3 (w v p : V) : putF "place" p (putF "value" v (putF "word" w [])) = tokF w v p := by
  have n1 : ¬ (("word" : Str) = "value") := by decide +kernel
  have n2 : ¬ (("word" : Str) = "place") := by decide +kernel
  have n3 : ¬ (("value" : Str) = "place") := by decide +kernel
  show putF "place" p (if ("word" : Str) = "value" then _ else (("word" : Str), w) :: putF "value" v []) = _
  rw [if_neg n1]
  show (if ("word" : Str) = "place" then _ else (("word" : Str), w) :: (if ("value" : Str) = "place" then _ else (("value" : Str), v) :: putF "place" p [])) = _
  rw [if_neg n2, if_neg n3]
  rfl
section
variable (w v p : V)
theorem look1 {f g : Str} {x : V} {r : List (Str × V)} (h : (g == f) = true) : List.lookup g ((f, x) :: r) = some x := by rw [List.lookup_cons, h]
theorem look0 {f g : Str} {x : V} {r : List (Str × V)} (h : (g == f) = false) : List.lookup g ((f, x) :: r) = r.lookup g := by rw [List.lookup_cons, h]
theorem tok_w : (tokF w v p).lookup ("word" : Str) = some w := look1 (by decide +kernel)
theorem tok_v : (tokF w v p).lookup ("value" : Str) = some v := (look0 (by decide +kernel)).trans (look1 (by decide +kernel))
theorem tok_p : (tokF w v p).lookup ("place" : Str) = some p := (look0 (by decide +kernel)).trans ((look0 (by decide +kernel)).trans (look1 (by decide +kernel)))
theorem tok_s : (tokF w v p).lookup ("shown" : Str) = none := (look0 (by decide +kernel)).trans ((look0 (by decide +kernel)).trans ((look0 (by decide +kernel)).trans rfl))
end
def spInit (C : Addr) : Sp := fun vs H Q _ => ∃ (x dx : Addr) (w v p : V) (H0 : Hp), vs = [.ref x, w, v, p] ∧ H = upd H0 x (.ins C dx []) ∧ Q .non (upd H0 x (.ins C dx (tokF w v p)))
theorem ok_tok_init (W : Wt K mg cTE cTk aL aS aK) : Mc P w K mg base 1 "Token" cTk (spInit cTk) := by
  refine mc_mk W.t_i W.t_g sc_Token___init__ (fun _ _ _ _ _ _ us hl => match us, hl with | [_, _, _, _], _ => rfl) (fun vs H Q E h => ?_) (fun f cdv A outer s H vs Q E hr h => ?_)
  · obtain ⟨x, dx, w, v, p, H0, rfl, _⟩ := h; rfl
  obtain ⟨x, dx, w, v, p, H0, rfl, rfl, q⟩ := h
  refine ⟨_, (pss_cons (ps_fld (pv 0) (pv 1) rfl)
    (pss_cons (ps_fld (pv 0) (pv 2) rfl)
    (pss_one (ps_fld (pv 0) (pv 3) rfl)))), ?_⟩
  walk_at "g"
  refine ⟨x, cTk, dx, _, rfl, upd_same, W.t_cl, W.t_w, by show 0 < 1000; decide, ?_⟩
  walk_at "g"
  refine ⟨x, cTk, dx, _, rfl, upd_same, W.t_cl, W.t_v, by show 1 < 1000; decide, ?_⟩
  walk_at "g"
  refine ⟨x, cTk, dx, _, rfl, upd_same, W.t_cl, W.t_p, ?_, ?_⟩
  · have n1 : ¬ (("word" : Str) = "value") := by decide +kernel
    show (if ("word" : Str) = "value" then _ else (("word" : Str), w) :: putF "value" v []).length < 1000
    rw [if_neg n1]
    show 2 < 1000
    decide
  · rw [put3, upd_upd, upd_upd, upd_upd]
    exact q
def spShown (C : Addr) : Sp := fun vs H Q _ => ∃ (x : Addr) (w v p : V), vs = [.ref x] ∧ TokO C H x w v p ∧ ∀ q, H q = none → Q (.ref q) (upd H q (.tup [w, v, p]))
theorem ok_tok_shown (W : Wt K mg cTE cTk aL aS aK) : Me P w K mg base 1 cTk "shown" (spShown cTk) := by
  refine me_mk W.t_s W.t_cl sc_Token_shown (fun _ _ _ _ _ _ us hl => match us, hl with | [_], _ => rfl) (fun vs H Q E h => ?_) (fun f cdv A outer s H vs Q E hr h => ?_)
  · obtain ⟨x, w, v, p, rfl, _⟩ := h; rfl
  obtain ⟨x, w, v, p, rfl, ⟨dx, hx⟩, q⟩ := h
  refine ⟨_, (pss_one (ps_ret (pe_tup (pa_cons (pe_fld (pv 0) rfl) (pa_cons (pe_fld (pv 0) rfl) (pa_cons (pe_fld (pv 0) rfl) pa_nil)))))), ?_⟩
  walk_at "g"
  refine ⟨x, cTk, dx, _, _, rfl, hx, W.t_cl, W.t_w, tok_w _ _ _, ?_⟩
  walk_at "g"
  refine ⟨x, cTk, dx, _, _, rfl, hx, W.t_cl, W.t_v, tok_v _ _ _, ?_⟩
  walk_at "g"
  refine ⟨x, cTk, dx, _, _, rfl, hx, W.t_cl, W.t_p, tok_p _ _ _, ?_⟩
  walk_at "g"
  exact q
/-! ### tokens -/
/-- a token and the place behind it are handed back -/
def Gives (C : Addr) (H : Hp) (Q : VK) (w : List Nat) (v : V) (p e : Nat) : Prop := ∀ (H' : Hp) (x q : Addr), Same H H' → H x = none → TokO C H' x (.str (S w)) v (.int (p : Int)) → H' q = some (.tup [.ref x, .int (e : Int)]) → Q (.ref q) H'
/-- the tuple (Token(w, v, p), e) -/
theorem gives_of {C : Addr} {H : Hp} {Q : VK} {w : List Nat} {v : V} {p e : Nat} (g : Gives C H Q w v p e) {x dx q : Addr} (hx : H x = none) (hd : H dx = none) (ne : dx ≠ x)
    (hq : upd (upd H dx (.own x)) x (.ins C dx (tokF (.str (S w)) v (.int (p : Int)))) q = none) :
    Q (.ref q) (upd (upd (upd H dx (.own x)) x (.ins C dx (tokF (.str (S w)) v (.int (p : Int))))) q (.tup [.ref x, .int (e : Int)])) := by
  have nq : x ≠ q := fun z => by subst z; rw [upd_same] at hq; cases hq
  refine g _ x q (fun b o hb => ?_) hx ⟨dx, by rw [upd_ne nq, upd_same]⟩ upd_same
  rw [upd_ne (fun z => by
    subst z
    have e1 : upd (upd H dx (.own x)) x (.ins C dx (tokF (.str (S w)) v (.int (p : Int)))) b = some o := by rw [upd_ne (ne_of_none hb hx), upd_ne (ne_of_none hb hd)]; exact hb
    rw [hq] at e1; cases e1), upd_ne (ne_of_none hb hx), upd_ne (ne_of_none hb hd)]
  exact hb
def spWord (C : Addr) : Sp := fun vs H Q _ => ∃ (l : List Nat) (p : Nat), vs = [.str (S l), .int (p : Int)] ∧ l.length ≤ 1000000 ∧ p ≤ l.length ∧
  Gives C H Q (wordOf (((l.drop p).take (run isWd (l.drop p))).map lo1)) (.str (S (((l.drop p).take (run isWd (l.drop p))).map lo1))) p (p + run isWd (l.drop p))
theorem take_run_all (f : Nat → Bool) : ∀ r : List Nat, (r.take (run f r)).all f = true
  | [] => rfl
  | c :: r => by
    rw [run_cons]
    by_cases h : f c = true
    · rw [if_pos h, Nat.add_comm, List.take_succ_cons, List.all_cons, h, take_run_all f r]
      rfl
    · rw [if_neg h]; rfl
theorem wd_ascii : ∀ c, isWd c = true → c < 128 := by
  intro c h
  have h2 : c ∈ letters ++ digits := of_decide_eq_true h
  have h3 : (letters ++ digits).all (· < 128) = true := by decide +kernel
  simpa using List.all_eq_true.mp h3 c h2
theorem take_ascii (r : List Nat) : (r.take (run isWd r)).all (· < 128) = true := by
  rw [List.all_eq_true]
  intro c hc
  have := List.all_eq_true.mp (take_run_all isWd r) c hc
  simpa using wd_ascii c this
theorem ok_word_token (W : Wt K mg cTE cTk aL aS aK) (c_run_end : Cl P w K mg base 1 "run_end" spRun) (c_Token : Mc P w K mg base 1 "Token" cTk (spInit cTk)) : Cl P w K mg base 3 "word_token" (spWord cTk) := by
  refine cl_mk W.d_word_token sc_word_token (fun _ _ _ _ _ _ us hl => match us, hl with | [_, _], _ => rfl) (fun vs H Q E h => ?_) (fun f cdv A outer s H vs Q E hr h => ?_)
  · obtain ⟨l, p, rfl, _⟩ := h; rfl
  obtain ⟨l, p, rfl, hl, hp, q⟩ := h
  have hz := le_line hl
  refine ⟨_, (pss_cons (ps_set (i := 2) sc_word_token.nd rfl (Or.inl rfl) (pe_cl c_run_end hr (by decide) rfl passL (pa_cons (pv 0) (pa_cons (pv 1) (pa_cons (pe_op op_add_str (C8.pe_gc rfl W.c_LETTERS) (C8.pe_gc rfl W.c_DIGITS)) pa_nil)))))
    (pss_cons (ps_set (i := 3) sc_word_token.nd rfl (Or.inl rfl) (pe_bm0 PySem.F.plainAttrs_str PySem.F.slot_str_lower PySem.F.type_str_lower mt_lower (pe_slice sl_str (pv 0) (po_some (pv 1)) (po_some (pv 2)))))
    (pss_cons (ps_if (pt_cmpR op_eq (pv 3) (C8.pe_gc rfl W.c_INT_KEYWORD) (nomark _))
    (pss_one (ps_ret (pe_tup (pa_cons (pe_mc c_Token hr (by decide) rfl passL (pa_cons (C8.pe_gc rfl W.c_INT_KIND) (pa_cons (pv 3) (pa_cons (pv 1) pa_nil)))) (pa_cons (pv 2) pa_nil)))))
    pss_nil)
    (pss_cons (ps_if (pt_cmpR op_in_seq (pv 3) (C8.pe_gc rfl W.c_KEYWORDS) (by with_unfolding_all rfl))
    (pss_one (ps_ret (pe_tup (pa_cons (pe_mc c_Token hr (by decide) rfl passL (pa_cons (pv 3) (pa_cons (pv 3) (pa_cons (pv 1) pa_nil)))) (pa_cons (pv 2) pa_nil)))))
    pss_nil)
    (pss_one (ps_ret (pe_tup (pa_cons (pe_mc c_Token hr (by decide) rfl passL (pa_cons pe_str (pa_cons (pv 3) (pa_cons (pv 1) pa_nil)))) (pa_cons (pv 2) pa_nil))))))))), ?_⟩
  walk_at "g"
  refine ⟨l, letters ++ digits, p, rfl, hl, hp, ?_⟩
  rw [show run (fun c => decide (c ∈ letters ++ digits)) = run isWd from rfl]
  have hn := run_le isWd (l.drop p)
  rw [List.length_drop] at hn
  walk_at "g"
  refine w_slS hz hp ?_
  rw [Nat.add_sub_cancel_left]
  walk_at "g"
  refine ⟨_, rfl, rfl, ?_, ?_⟩
  · rw [SX.S_len, List.length_take, List.length_drop]
    omega
  rw [SX.lower_S (take_ascii _)]
  walk_at "g"
  unfold wordOf at q
  refine w_iteD (fun c1 => ?_) (fun c1 => ?_)
  · rw [if_pos c1] at q
    walk_at "g"
    intro x dx hx hd ne
    refine ⟨x, dx, _, _, _, upd H dx (.own x), rfl, rfl, rfl, ?_⟩
    walk_at "g"
    exact fun z hz2 => gives_of q hx hd ne hz2
  · rw [if_neg c1] at q
    walk_at "g"
    refine w_inT (W.q_KEYWORDS _) ?_
    walk_at "g"
    refine w_iteD (fun c2 => ?_) (fun c2 => ?_)
    · rw [if_pos c2] at q
      walk_at "g"
      intro x dx hx hd ne
      refine ⟨x, dx, _, _, _, upd H dx (.own x), rfl, rfl, rfl, ?_⟩
      walk_at "g"
      exact fun z hz2 => gives_of q hx hd ne hz2
    · rw [if_neg c2] at q
      walk_at "g"
      intro x dx hx hd ne
      refine ⟨x, dx, _, _, _, upd H dx (.own x), rfl, rfl, rfl, ?_⟩
      walk_at "g"
      exact fun z hz2 => gives_of q hx hd ne hz2
theorem dig_val : ∀ c, isDig c = true → 48 ≤ c ∧ c ≤ 57 := by
  intro c h
  have h2 : c ∈ digits := of_decide_eq_true h
  have h3 : digits.all (fun c => decide (48 ≤ c) && decide (c ≤ 57)) = true := by decide +kernel
  simpa using List.all_eq_true.mp h3 c h2
theorem take_dig (r : List Nat) : (r.take (run isDig r)).all (fun c => decide (48 ≤ c) && decide (c ≤ 57)) = true := by
  rw [List.all_eq_true]
  intro c hc
  have := List.all_eq_true.mp (take_run_all isDig r) c hc
  simpa using dig_val c this
/-- a number, or a TextError -/
def spNum (C T : Addr) : Sp := fun vs H Q E => ∃ (l : List Nat) (p : Nat), vs = [.str (S l), .int (p : Int)] ∧ l.length ≤ 1000000 ∧ p ≤ l.length ∧ 0 < run isDig (l.drop p) ∧
  if 19 < run isDig (l.drop p) ∨ 9223372036854775807 < NumText.digitsVal ((l.drop p).take (run isDig (l.drop p))) then E (.ref T) none H
  else Gives C H Q sInt (.int (NumText.digitsVal ((l.drop p).take (run isDig (l.drop p))) : Nat)) p (p + run isDig (l.drop p))
theorem ok_number_token (W : Wt K mg cTE cTk aL aS aK) (c_run_end : Cl P w K mg base 1 "run_end" spRun) (c_Token : Mc P w K mg base 1 "Token" cTk (spInit cTk)) : Cl P w K mg base 3 "number_token" (spNum cTk cTE) := by
  refine cl_mk W.d_number_token sc_number_token (fun _ _ _ _ _ _ us hl => match us, hl with | [_, _], _ => rfl) (fun vs H Q E h => ?_) (fun f cdv A outer s H vs Q E hr h => ?_)
  · obtain ⟨l, p, rfl, _⟩ := h; rfl
  obtain ⟨l, p, rfl, hl, hp, h0, q⟩ := h
  have hz := le_line hl
  refine ⟨_, (pss_cons (ps_set (i := 2) sc_number_token.nd rfl (Or.inl rfl) (pe_cl c_run_end hr (by decide) rfl passL (pa_cons (pv 0) (pa_cons (pv 1) (pa_cons (C8.pe_gc rfl W.c_DIGITS) pa_nil)))))
    (pss_cons (ps_if (pt_cmpR op_gt (pe_op op_sub (pv 2) (pv 1)) (C8.pe_gc rfl W.c_MOST_DIGITS) (nomark _))
    (pss_one (ps_raise rfl (takes_of rfl rfl rfl rfl) (SkE.pmk_own1 PySem.F.excBase_ValueError W.e_TextError.ox W.e_TextError.og W.e_TextError.ok (raises_own W.e_TextError.ob W.e_TextError.ot) rfl (pe_joined (PJ.cons pe_str (PJ.cons (pe_fmt (pv 1)) (PJ.cons pe_str PJ.nil)))))))
    pss_nil)
    (pss_cons (ps_set (i := 3) sc_number_token.nd rfl (Or.inl rfl) (pe_callTy call_int_str rfl W.n_int (by decide +kernel) (pa_cons (pe_slice sl_str (pv 0) (po_some (pv 1)) (po_some (pv 2))) pa_nil)))
    (pss_cons (ps_if (pt_cmpR op_gt (pv 3) (C8.pe_gc rfl W.c_HIGHEST) (nomark _))
    (pss_one (ps_raise rfl (takes_of rfl rfl rfl rfl) (SkE.pmk_own1 PySem.F.excBase_ValueError W.e_TextError.ox W.e_TextError.og W.e_TextError.ok (raises_own W.e_TextError.ob W.e_TextError.ot) rfl (pe_joined (PJ.cons pe_str (PJ.cons (pe_fmt (pv 1)) (PJ.cons pe_str PJ.nil)))))))
    pss_nil)
    (pss_one (ps_ret (pe_tup (pa_cons (pe_mc c_Token hr (by decide) rfl passL (pa_cons pe_str (pa_cons (pv 3) (pa_cons (pv 1) pa_nil)))) (pa_cons (pv 2) pa_nil))))))))), ?_⟩
  walk_at "g"
  refine ⟨l, digits, p, rfl, hl, hp, ?_⟩
  rw [show run (fun c => decide (c ∈ digits)) = run isDig from rfl]
  have hn := run_le isDig (l.drop p)
  rw [List.length_drop] at hn
  walk_at "g"
  have e1 : ((p + run isDig (l.drop p) : Nat) : Int) - (p : Int) = (run isDig (l.drop p) : Int) := by omega
  rw [e1]
  refine w_iteD (fun c1 => ?_) (fun c1 => ?_)
  · rw [if_pos (.inl (by have c2 : (19 : Int) < (run isDig (l.drop p) : Int) := c1; omega))] at q
    walk_at "g"
    exact w_msg3 (n := p) (by decide +kernel) (by decide +kernel) (by omega) rfl fun _ => q
  · have c2 : ¬ 19 < run isDig (l.drop p) := by
      intro h
      exact c1 (show (19 : Int) < (run isDig (l.drop p) : Int) by omega)
    walk_at "g"
    refine w_slS hz hp ?_
    rw [Nat.add_sub_cancel_left]
    walk_at "g"
    have hlen : ((l.drop p).take (run isDig (l.drop p))).length = run isDig (l.drop p) := by
      rw [List.length_take, List.length_drop]
      omega
    refine ⟨_, _, rfl, SX.int_S (take_dig _) (fun e => by rw [e] at hlen; simp at hlen; omega) (by omega), by rw [SX.S_len]; omega, ?_⟩
    walk_at "g"
    refine w_iteD (fun c3 => ?_) (fun c3 => ?_)
    · rw [if_pos (.inr (by have c4 : (9223372036854775807 : Int) < ((NumText.digitsVal ((l.drop p).take (run isDig (l.drop p))) : Nat) : Int) := c3; omega))] at q
      walk_at "g"
      exact w_msg3 (n := p) (by decide +kernel) (by decide +kernel) (by omega) rfl fun _ => q
    · have c4 : ¬ (9223372036854775807 : Int) < ((NumText.digitsVal ((l.drop p).take (run isDig (l.drop p))) : Nat) : Int) := c3
      rw [if_neg (by omega)] at q
      walk_at "g"
      intro x dx hx hd ne
      refine ⟨x, dx, _, _, _, upd H dx (.own x), rfl, rfl, rfl, ?_⟩
      walk_at "g"
      exact fun z hz2 => gives_of q hx hd ne hz2
end
end K01
end

section
-- part K01D
set_option Elab.async false
set_option linter.all false
set_option maxRecDepth 100000
set_option maxHeartbeats 4000000
open PySem PySem.Spec PyProof.Rows L2 Fw
local macro_rules | `(tactic| walk_at "e1") => `(tactic| first
  | ((with_reducible refine' w_var ?hv ?_); (case hv => rfl))
  | with_reducible refine w_c ?_
  | with_reducible refine w_op ?_
  | with_reducible refine w_un ?_
  | with_reducible refine w_cons ?_
  | with_reducible refine w_nil ?_
  | with_reducible refine w_cl ?_
  | with_reducible refine w_cb ?_
  | with_reducible refine w_gname ?_
  | with_reducible refine w_gsub ?_
  | with_reducible refine w_test ?_
  | with_reducible refine w_B ?_
  | with_reducible refine w_bl ?_
  | with_reducible refine w_and ?_
  | with_reducible refine w_or ?_
  | with_reducible refine w_not ?_
  | with_reducible refine w_if ?_
  | with_reducible refine w_I0 ?_
  | with_reducible refine w_ipI ?_
  | with_reducible refine w_eqS ?_
  | with_reducible refine w_neS ?_
  | with_reducible refine w_eqI ?_
  | ((with_reducible refine w_eq ?hs ?_); (case hs => rfl))
  | ((with_reducible refine w_ne ?hs ?_); (case hs => rfl))
  | with_reducible refine w_fld ?_
  | with_reducible refine w_bm ?_
  | with_reducible refine w_bm0 ?_
  | with_reducible refine w_sl ?_
  | with_reducible refine w_part ?_
  | with_reducible refine w_partI ?_
  | with_reducible refine w_nopart ?_
  | ((with_reducible refine' w_ixL ?hh ?ha ?_); (case hh => first | assumption | exact upd_same); (case ha => rfl))
  | ((with_reducible refine' w_setLu ?ha ?_); (case ha => rfl))
  | ((with_reducible refine' w_setL ?hh ?ha ?_); (case hh => first | assumption | exact upd_same); (case ha => rfl))
  | with_reducible refine w_iteT ?_
  | with_reducible refine w_iteF ?_
  | with_reducible refine w_lst ?_
  | with_reducible refine w_tup ?_
  | ((with_reducible refine w_new ?hz ?_); (case hz => rfl))
  | with_reducible refine w_lc ?_
  | with_reducible refine w_iL ?_
  | with_reducible refine w_iT ?_
  | with_reducible refine w_iR1 ?_
  | with_reducible refine w_iR2 ?_
  | with_reducible refine w_yes ?_
  | with_reducible refine w_iStr ?_
  | with_reducible exact tyS
  | with_reducible refine And.intro tyS ?_
  | ((with_reducible refine w_find3 ?_); (first | rw [find3_one] | rw [starts3] | skip))
  | ((with_reducible refine w_2s ?_); (try rw [find_one]))
  | ((with_reducible refine w_inS ?_); rw [S_list])
  | ((with_reducible refine w_lenS ?hz ?_); (case hz => first | assumption | omega | decide); rw [SX.S_len])
  | ((with_reducible refine w_addS ?hz ?_); (case hz => first | assumption | omega | decide); rw [vS_cat])
  | with_reducible refine w_mk ?_
  | with_reducible refine w_me ?_
  | with_reducible refine w_sfld ?_
  | ((with_reducible refine' w_gtup ?hh ?hn ?_); (case hh => first | assumption | exact upd_same); (case hn => rfl))
  | with_reducible refine w_gcons ?_
  | with_reducible refine w_gnil ?_
  | with_reducible refine w_repl ?_
  | with_reducible refine w_chain ?_
  | with_reducible refine w_x1i ?_
  | with_reducible refine w_x1b ?_
  | with_reducible refine w_x1s ?_
  | with_reducible refine w_int1i ?_
  | with_reducible refine w_int1b ?_
  | ((with_reducible refine w_mod ?hc ?_); (case hc => omega))
  | ((with_reducible refine w_fdivW ?hc ?hd ?_); (case hc => omega); (case hd => omega))
  | ((with_reducible refine w_mul ?hc ?_); (case hc => first | exact Or.inr ⟨by decide, by decide⟩ | exact Or.inl ⟨by decide, by decide⟩))
  | ((with_reducible refine w_pow ?hc ?_); (case hc => exact ⟨by decide, by decide, by decide⟩)))
local macro_rules | `(tactic| walk_at "s1") => `(tactic| first
  | with_reducible refine w_seq ?_
  | with_reducible refine w_asg ?_
  | with_reducible refine w_ret ?_
  | with_reducible refine w_drop ?_
  | with_reducible refine w_next ?_
  | with_reducible refine w_ifs ?_
  | ((with_reducible refine' w_aug ?hv ?_); (case hv => rfl))
  | with_reducible refine w_for ?_
  | walk_at "e1")
local macro_rules | `(tactic| walk_at "e") => `(tactic| repeat walk_at "e1")
local macro_rules | `(tactic| walk_at "g") => `(tactic| repeat walk_at "s1")

namespace K01
open Lx
section
variable {P : Program} {w : World} {K : PySem.W.Frag} {mg : Str → Option Value} {base : Heap} {cTE cTk aL aS aK : Addr}
/-- parts joined by quotes -/
theorem join_pre : ∀ (parts : List (List Nat)) (x : List Nat), TL.joinL [39] (parts ++ [x]) = (parts.flatMap fun q => q ++ [39]) ++ x
  | [], x => rfl
  | q :: r, x => by
    have ih := join_pre r x
    rw [List.cons_append, List.flatMap_cons]
    cases r with
    | nil =>
      show q ++ ([39] ++ TL.joinL [39] [x]) = _
      simp [TL.joinL]
    | cons q2 r =>
      show q ++ ([39] ++ TL.joinL [39] (q2 :: (r ++ [x]))) = _
      rw [show q2 :: (r ++ [x]) = (q2 :: r) ++ [x] from rfl, ih]
      simp
theorem flat_len : ∀ parts : List (List Nat), (parts.map (·.length)).sum + parts.length = (parts.flatMap fun q => q ++ [39]).length
  | [] => rfl
  | q :: r => by
    have ih := flat_len r
    rw [List.flatMap_cons, List.length_append, List.length_append, ← ih, List.map_cons, List.sum_cons, List.length_cons, List.length_singleton]
    omega
theorem starts_head {l : List Nat} {n : Nat} : ((l.drop n).take ([39] : List Nat).length = [39] ∧ n + ([39] : List Nat).length ≤ l.length) ↔ (l.drop n).head? = some 39 := by
  constructor
  · rintro ⟨h1, h2⟩
    have hn : n < l.length := by have : ([39] : List Nat).length = 1 := rfl; omega
    rw [drop_get hn] at h1 ⊢
    exact congrArg some (List.cons.inj h1).1
  · intro h
    have hn : n < l.length := by
      rcases Nat.lt_or_ge n l.length with h2 | h2
      · exact h2
      · rw [List.drop_eq_nil_of_le h2] at h; cases h
    refine ⟨?_, hn⟩
    rw [drop_get hn] at h ⊢
    have e : l[n] = 39 := Option.some.inj h
    rw [e]; rfl
theorem Gives.up {C : Addr} {H H2 : Hp} {Q : VK} {w : List Nat} {v : V} {p e : Nat} (g : Gives C H Q w v p e) (s : Same H H2) : Gives C H2 Q w v p e := fun H' x q s2 hx ht hq => g H' x q (s.trans s2) (s.free hx) ht hq
theorem same_upd {H H' : Hp} {L : Addr} {o : HO} (s : Same H H') (hL : H L = none) : Same H (upd H' L o) := fun b u e => by rw [upd_ne (ne_of_none e hL)]; exact s _ _ e
def spQuot (C T : Addr) : Sp := fun vs H Q E => ∃ (l : List Nat) (p : Nat), vs = [.str (S l), .int (p : Int)] ∧ l.length ≤ 1000000 ∧ p < l.length ∧
  match quot (l.drop (p + 1)) with
  | none => ∀ H', Same H H' → E (.ref T) none H'
  | some sn => if ∀ x ∈ sn.1, x ∈ alphabet then Gives C H Q sQuoted (.str (S sn.1)) p (p + (sn.2 + 1)) else ∀ H', Same H H' → E (.ref T) none H'
theorem ok_quoted_token (W : Wt K mg cTE cTk aL aS aK) (c_check_text : Cl P w K mg base 2 "check_text" (spCheck cTE)) (c_Token : Mc P w K mg base 1 "Token" cTk (spInit cTk)) : Cl P w K mg base 4 "quoted_token" (spQuot cTk cTE) := by
  refine cl_mk W.d_quoted_token sc_quoted_token (fun _ _ _ _ _ _ us hl => match us, hl with | [_, _], _ => rfl) (fun vs H Q E h => ?_) (fun f cdv A outer s H vs Q E hr h => ?_)
  · obtain ⟨l, p, rfl, _⟩ := h; rfl
  obtain ⟨l, p, rfl, hl, hp, q⟩ := h
  have hz := le_line hl
  refine ⟨_, (pss_cons (ps_set (i := 2) sc_quoted_token.nd rfl (Or.inl rfl) (pe_lst pa_nil))
    (pss_cons (ps_set (i := 3) sc_quoted_token.nd rfl (Or.inl rfl) (pe_op op_add (pv 1) pe_int))
    (pss_one (ps_while (passes_of rfl) (pt_val pe_bl)
    (pss_cons (ps_set (i := 4) sc_quoted_token.nd rfl (Or.inl rfl) (pe_bm PySem.F.plainAttrs_str PySem.F.slot_str_find PySem.F.type_str_find mt_find3 (pv 0) (pa_cons (C8.pe_gc rfl W.c_QUOTE) (pa_cons (pv 3) pa_nil))))
    (pss_cons (ps_if (pt_cmpR op_lt (pv 4) pe_int (nomark _))
    (pss_one (ps_raise rfl (takes_of rfl rfl rfl rfl) (SkE.pmk_own1 PySem.F.excBase_ValueError W.e_TextError.ox W.e_TextError.og W.e_TextError.ok (raises_own W.e_TextError.ob W.e_TextError.ot) rfl (pe_joined (PJ.cons pe_str (PJ.cons (pe_fmt (pv 1)) (PJ.cons pe_str PJ.nil)))))))
    pss_nil)
    (pss_cons (ps_expr (pe_bm PySem.F.plainAttrs_list PySem.F.slot_list_append PySem.F.type_list_append mt_append (pv 2) (pa_cons (pe_slice sl_str (pv 0) (po_some (pv 3)) (po_some (pv 4))) pa_nil)))
    (pss_cons (ps_if (pt_not (pt_val (pe_bm PySem.F.plainAttrs_str PySem.F.slot_str_startswith PySem.F.type_str_startswith mt_startswith3 (pv 0) (pa_cons (C8.pe_gc rfl W.c_QUOTE) (pa_cons (pe_op op_add (pv 4) pe_int) pa_nil)))))
    (pss_one (ps_ret (pe_tup (pa_cons (pe_mc c_Token hr (by decide) rfl passL (pa_cons pe_str (pa_cons (pe_cl c_check_text hr (by decide) rfl passD (pa_cons (pe_bm PySem.F.plainAttrs_str PySem.F.slot_str_join PySem.F.type_str_join mt_join (C8.pe_gc rfl W.c_QUOTE) (pa_cons (pv 2) pa_nil)) pa_nil)) (pa_cons (pv 1) pa_nil)))) (pa_cons (pe_op op_add (pv 4) pe_int) pa_nil)))))
    pss_nil)
    (pss_one (ps_set (i := 3) sc_quoted_token.nd rfl (Or.inl rfl) (pe_op op_add (pv 4) pe_int))))))))))), ?_⟩
  walk_at "g"
  intro L hL
  walk_at "g"
  refine w_while (fun m σ H' => ∃ (parts : List (List Nat)) (z : Nat) (v : Option V), σ = [some (.str (S l)), some (.int (p : Int)), some (.ref L), some (.int (z : Int)), v] ∧ H' L = some (.lst (parts.map fun q => V.str (S q))) ∧ Same H H' ∧ p < z ∧ z ≤ l.length ∧ parts.length ≤ z ∧
      m = l.length - z ∧ (parts.flatMap fun q => q ++ [39]).length ≤ z ∧ quot (l.drop (p + 1)) = (quot (l.drop z)).map fun sn => ((parts.flatMap fun q => q ++ [39]) ++ sn.1, z - (p + 1) + sn.2))
    (l.length - (p + 1)) ⟨[], p + 1, none, ?_, upd_same, same_new hL _, by omega, hp, Nat.zero_le _, rfl, Nat.zero_le _, ?_⟩ ?_
  · rfl
  · rw [Nat.sub_self]
    cases quot (l.drop (p + 1)) with
    | none => rfl
    | some sn => simp
  rintro m σ H' ⟨parts, z, v, rfl, eL, sH, hz1, hz2, hz3, rfl, hz4, eq⟩
  have qf := quot_find (l.drop z)
  walk_at "g"
  cases ef : (l.drop z).findIdx? (· == 39) with
  | none =>
    rw [ef] at qf
    simp only [] at qf
    rw [qf] at eq
    rw [eq] at q
    refine ⟨fun _ _ => False, fun _ _ n => n.elim, ?_⟩
    walk_at "g"
    simp only [ef]
    refine w_iteD (fun c1 => ?_) (fun c1 => absurd (by decide) c1)
    walk_at "g"
    exact w_msg3 (n := p) (by decide +kernel) (by decide +kernel) (by omega) rfl fun _ => q _ sH
  | some k =>
    obtain ⟨hk, ek, _⟩ := List.findIdx?_eq_some_iff_getElem.mp ef
    rw [List.length_drop] at hk
    rw [ef] at qf
    simp only [] at qf
    have gd1 : (l.drop z).drop (k + 1) = l.drop (z + k + 1) := by rw [List.drop_drop]; rfl
    have gd2 : (l.drop z).drop (k + 2) = l.drop (z + k + 2) := by rw [List.drop_drop]; rfl
    rw [gd1, gd2] at qf
    have sU : ∀ o, Same H (upd H' L o) := fun o => same_upd sH hL
    have hx : ((l.drop z).take k).length = k := by rw [List.length_take, List.length_drop]; omega
    refine ⟨fun σ' H'' => ∃ v' : Option V, σ' = [some (.str (S l)), some (.int (p : Int)), some (.ref L), some (.int ((z + k + 2 : Nat) : Int)), v'] ∧ H'' L = some (.lst ((parts ++ [(l.drop z).take k]).map fun q => V.str (S q))) ∧ Same H H'' ∧ (l.drop (z + k + 1)).head? = some 39, ?_, ?_⟩
    · rintro σ' H'' ⟨v', rfl, e1, e2, e3⟩
      have hlt : z + k + 1 < l.length := by
        rcases Nat.lt_or_ge (z + k + 1) l.length with h2 | h2
        · exact h2
        · rw [List.drop_eq_nil_of_le h2] at e3; cases e3
      rw [if_pos e3] at qf
      refine ⟨l.length - (z + k + 2), by omega, parts ++ [(l.drop z).take k], z + k + 2, v', rfl, e1, e2, by omega, by omega, by rw [List.length_append, List.length_singleton]; omega, rfl, ?_, ?_⟩
      · rw [List.flatMap_append, List.length_append]
        simp only [List.flatMap_cons, List.flatMap_nil, List.append_nil, List.length_append, List.length_singleton, hx]
        omega
      · rw [eq, qf, Option.map_map]
        congr 1
        funext sn
        show ((parts.flatMap fun q => q ++ [39]) ++ ((l.drop z).take k ++ 39 :: sn.1), z - (p + 1) + (k + 2 + sn.2)) = (((parts ++ [(l.drop z).take k]).flatMap fun q => q ++ [39]) ++ sn.1, z + k + 2 - (p + 1) + sn.2)
        rw [List.flatMap_append]
        simp only [List.flatMap_cons, List.flatMap_nil, List.append_nil, List.append_assoc, List.singleton_append, Prod.mk.injEq, true_and]
        omega
    · walk_at "g"
      simp only [ef]
      refine w_iteD (fun c1 => ?_) (fun c1 => ?_)
      · exfalso
        have c7 : ((z + k : Nat) : Int) < 0 := c1
        omega
      walk_at "g"
      refine ⟨tyL eL, ?_⟩
      walk_at "g"
      refine w_slS hz hz2 ?_
      rw [show z + k - z = k by omega]
      walk_at "g"
      refine ⟨L, _, _, rfl, rfl, eL, by rw [List.length_map]; exact Nat.lt_of_le_of_lt hz3 (Nat.lt_of_le_of_lt (Nat.le_trans hz2 hl) (by decide)), ?_⟩
      have em : (parts.map fun q => V.str (S q)) ++ [V.str (S ((l.drop z).take k))] = (parts ++ [(l.drop z).take k]).map fun q => V.str (S q) := by rw [List.map_append]; rfl
      rw [em]
      walk_at "g"
      have ei : ((z + k : Nat) : Int) + 1 = ((z + k + 1 : Nat) : Int) := by omega
      rw [ei, starts3]
      refine w_iteN (fun c2 => ?_) (fun c2 => ?_)
      · have c3 : ¬ (l.drop (z + k + 1)).head? = some 39 := fun h => c2 (starts_head.mpr h)
        rw [if_neg c3] at qf
        rw [qf] at eq
        rw [eq] at q
        simp only [Option.map_some] at q
        have he : p + (z - (p + 1) + (k + 1) + 1) = z + k + 1 := by omega
        have e5 : (Str.ofString "quoted" : Str) = S sQuoted := rfl
        walk_at "g"
        refine ⟨_, L, (parts ++ [(l.drop z).take k]).map S, rfl, rfl, .inl (SqL.of (by rw [upd_same, List.map_map]; rfl)), ?_, ?_⟩
        · have e6 := flat_len (parts ++ [(l.drop z).take k])
          rw [List.flatMap_append, List.length_append] at e6
          simp only [List.flatMap_cons, List.flatMap_nil, List.append_nil, List.length_append, List.length_singleton, hx] at e6
          rw [SX.lens, List.length_map, SX.S_len]
          simp only [List.length_append, List.length_singleton, Nat.mul_one] at e6 ⊢
          omega
        rw [show Txt.join (S [39]) ((parts ++ [(l.drop z).take k]).map S) = S ((parts.flatMap fun q => q ++ [39]) ++ (l.drop z).take k) from (SX.join_S _ _).trans (by rw [join_pre])]
        walk_at "g"
        refine ⟨_, rfl, fun ok => ?_, fun bad => ?_⟩
        · rw [if_pos ok, he] at q
          walk_at "g"
          intro x dx hx hd ne
          refine ⟨x, dx, _, _, _, upd _ dx (.own x), rfl, rfl, rfl, ?_⟩
          walk_at "g"
          rw [e5, ei]
          exact fun r hr => gives_of (q.up (sU _)) hx hd ne hr
        · rw [if_neg bad] at q
          exact q _ (sU _)
      · have c3 : (l.drop (z + k + 1)).head? = some 39 := starts_head.mp c2
        walk_at "g"
        have e2 : ((z + k : Nat) : Int) + 2 = ((z + k + 2 : Nat) : Int) := by omega
        rw [e2]
        exact ⟨_, rfl, upd_same, sU _, c3⟩
def spTokAt (C T : Addr) : Sp := fun vs H Q E => ∃ (l : List Nat) (p : Nat), vs = [.str (S l), .int (p : Int)] ∧ l.length ≤ 1000000 ∧ p < l.length ∧
  match tokAt (l.drop p) with
  | none => ∀ H', Same H H' → E (.ref T) none H'
  | some (w, v, n) => Gives C H Q w v p (p + n)
theorem ok_token_at (W : Wt K mg cTE cTk aL aS aK) (c_word_token : Cl P w K mg base 3 "word_token" (spWord cTk)) (c_number_token : Cl P w K mg base 3 "number_token" (spNum cTk cTE))
    (c_quoted_token : Cl P w K mg base 4 "quoted_token" (spQuot cTk cTE)) (c_Token : Mc P w K mg base 1 "Token" cTk (spInit cTk)) : Cl P w K mg base 5 "token_at" (spTokAt cTk cTE) := by
  refine cl_mk W.d_token_at sc_token_at (fun _ _ _ _ _ _ us hl => match us, hl with | [_, _], _ => rfl) (fun vs H Q E h => ?_) (fun f cdv A outer s H vs Q E hr h => ?_)
  · obtain ⟨l, p, rfl, _⟩ := h; rfl
  obtain ⟨l, p, rfl, hl, hp, q⟩ := h
  have hz := le_line hl
  have e2 := drop_get hp
  rw [e2] at q
  unfold tokAt at q
  dsimp only at q
  refine ⟨_, (pss_cons (ps_set (i := 2) sc_token_at.nd rfl (Or.inl rfl) (pe_ix ix_str (pv 0) (pv 1) (fun _ _ => rfl)))
    (pss_cons (ps_if (pt_cmpR op_in_sign (pv 2) (C8.pe_gc rfl W.c_LETTERS) (by with_unfolding_all rfl))
    (pss_one (ps_ret (pe_cl c_word_token hr (by decide) rfl passL (pa_cons (pv 0) (pa_cons (pv 1) pa_nil)))))
    pss_nil)
    (pss_cons (ps_if (pt_cmpR op_in_sign (pv 2) (C8.pe_gc rfl W.c_DIGITS) (by with_unfolding_all rfl))
    (pss_one (ps_ret (pe_cl c_number_token hr (by decide) rfl passD (pa_cons (pv 0) (pa_cons (pv 1) pa_nil)))))
    pss_nil)
    (pss_cons (ps_if (pt_cmpR op_eq (pv 2) (C8.pe_gc rfl W.c_QUOTE) (nomark _))
    (pss_one (ps_ret (pe_cl c_quoted_token hr (by decide) rfl passD (pa_cons (pv 0) (pa_cons (pv 1) pa_nil)))))
    pss_nil)
    (pss_cons (ps_set (i := 3) sc_token_at.nd rfl (Or.inl rfl) (pe_slice sl_str (pv 0) (po_some (pv 1)) (po_some (pe_op op_add (pv 1) pe_int))))
    (pss_cons (ps_if (pt_cmpR op_in_seq (pv 3) (C8.pe_gc rfl W.c_LONG_SIGNS) (by with_unfolding_all rfl))
    (pss_one (ps_ret (pe_tup (pa_cons (pe_mc c_Token hr (by decide) rfl passL (pa_cons (pv 3) (pa_cons (pv 3) (pa_cons (pv 1) pa_nil)))) (pa_cons (pe_op op_add (pv 1) pe_int) pa_nil)))))
    pss_nil)
    (pss_cons (ps_if (pt_cmpR op_in_seq (pv 2) (C8.pe_gc rfl W.c_SHORT_SIGNS) (by with_unfolding_all rfl))
    (pss_one (ps_ret (pe_tup (pa_cons (pe_mc c_Token hr (by decide) rfl passL (pa_cons (pv 2) (pa_cons (pv 2) (pa_cons (pv 1) pa_nil)))) (pa_cons (pe_op op_add (pv 1) pe_int) pa_nil)))))
    pss_nil)
    (pss_one (ps_raise rfl (takes_of rfl rfl rfl rfl) (SkE.pmk_own1 PySem.F.excBase_ValueError W.e_TextError.ox W.e_TextError.og W.e_TextError.ok (raises_own W.e_TextError.ob W.e_TextError.ot) rfl (pe_joined (PJ.cons pe_str (PJ.cons (pe_fmt (pv 1)) PJ.nil))))))))))))), ?_⟩
  walk_at "g"
  refine w_ixS hz (List.getElem?_eq_getElem hp) ?_
  walk_at "g"
  refine w_iteD (fun c1 => ?_) (fun c1 => ?_)
  · have d1 : isLet l[p] = true := decide_eq_true c1
    rw [if_pos d1, ← e2] at q
    walk_at "g"
    exact ⟨l, p, rfl, hl, by omega, q⟩
  have d1 : ¬ isLet l[p] = true := fun h => c1 (of_decide_eq_true h)
  rw [if_neg d1] at q
  walk_at "g"
  refine w_iteD (fun c2 => ?_) (fun c2 => ?_)
  · have d2 : isDig l[p] = true := decide_eq_true c2
    rw [if_pos d2] at q
    have h0 : 0 < run isDig (l.drop p) := by rw [e2, run_cons, if_pos d2]; omega
    rw [← e2] at q
    walk_at "g"
    refine ⟨l, p, rfl, hl, by omega, h0, ?_⟩
    by_cases c3 : 19 < run isDig (l.drop p)
    · rw [if_pos (.inl c3)]
      rw [if_pos c3] at q
      exact q _ (Same.refl _)
    · rw [if_neg c3] at q
      by_cases c4 : 9223372036854775807 < NumText.digitsVal ((l.drop p).take (run isDig (l.drop p)))
      · rw [if_pos (.inr c4)]
        rw [if_pos c4] at q
        exact q _ (Same.refl _)
      · rw [if_neg (by rintro (h | h) <;> contradiction)]
        rw [if_neg c4] at q
        exact q
  have d2 : ¬ isDig l[p] = true := fun h => c2 (of_decide_eq_true h)
  rw [if_neg d2] at q
  walk_at "g"
  refine w_iteD (fun c3 => ?_) (fun c3 => ?_)
  · have d3 : l[p] = 39 := (List.cons.inj c3).1
    rw [if_pos d3] at q
    walk_at "g"
    refine ⟨l, p, rfl, hl, hp, ?_⟩
    cases eq : quot (l.drop (p + 1)) with
    | none => rw [eq] at q; exact q
    | some sn =>
      rw [eq] at q
      obtain ⟨s, n⟩ := sn
      simp only [] at q ⊢
      by_cases c4 : ∀ x ∈ s, x ∈ alphabet
      · rw [if_pos c4] at q ⊢; exact q
      · rw [if_neg c4] at q ⊢; exact q
  have d3 : ¬ l[p] = 39 := fun h => c3 (by rw [h])
  rw [if_neg d3] at q
  walk_at "g"
  rw [show (p : Int) + 2 = ((p + 2 : Nat) : Int) from rfl]
  refine w_slS hz (by omega) ?_
  rw [show p + 2 - p = 2 by omega, e2]
  walk_at "g"
  refine w_inT (W.q_LONG_SIGNS _) ?_
  walk_at "g"
  refine w_iteD (fun c4 => ?_) (fun c4 => ?_)
  · rw [if_pos c4] at q
    walk_at "g"
    intro x dx hx hd ne
    refine ⟨x, dx, _, _, _, upd _ dx (.own x), rfl, rfl, rfl, ?_⟩
    walk_at "g"
    rw [show (p : Int) + 2 = ((p + 2 : Nat) : Int) from rfl]
    exact fun r hr => gives_of q hx hd ne hr
  rw [if_neg c4] at q
  walk_at "g"
  refine w_inT (W.q_SHORT_SIGNS _) ?_
  walk_at "g"
  refine w_iteD (fun c5 => ?_) (fun c5 => ?_)
  · rw [if_pos c5] at q
    walk_at "g"
    intro x dx hx hd ne
    refine ⟨x, dx, _, _, _, upd _ dx (.own x), rfl, rfl, rfl, ?_⟩
    walk_at "g"
    rw [show (p : Int) + 1 = ((p + 1 : Nat) : Int) from rfl]
    exact fun r hr => gives_of q hx hd ne hr
  rw [if_neg c5] at q
  walk_at "g"
  exact w_msg2 (n := p) (by decide +kernel) (by omega) rfl fun _ => q _ (Same.refl _)
end
end K01
end

section
-- part K01E
set_option Elab.async false
set_option linter.all false
set_option maxRecDepth 100000
set_option maxHeartbeats 4000000
open PySem PySem.Spec PyProof.Rows L2 Fw
local macro_rules | `(tactic| walk_at "e1") => `(tactic| first
  | ((with_reducible refine' w_var ?hv ?_); (case hv => rfl))
  | with_reducible refine w_c ?_
  | with_reducible refine w_op ?_
  | with_reducible refine w_un ?_
  | with_reducible refine w_cons ?_
  | with_reducible refine w_nil ?_
  | with_reducible refine w_cl ?_
  | with_reducible refine w_cb ?_
  | with_reducible refine w_gname ?_
  | with_reducible refine w_gsub ?_
  | with_reducible refine w_test ?_
  | with_reducible refine w_B ?_
  | with_reducible refine w_bl ?_
  | with_reducible refine w_and ?_
  | with_reducible refine w_or ?_
  | with_reducible refine w_not ?_
  | with_reducible refine w_if ?_
  | with_reducible refine w_I0 ?_
  | with_reducible refine w_ipI ?_
  | with_reducible refine w_eqS ?_
  | with_reducible refine w_neS ?_
  | with_reducible refine w_eqI ?_
  | ((with_reducible refine w_eq ?hs ?_); (case hs => rfl))
  | ((with_reducible refine w_ne ?hs ?_); (case hs => rfl))
  | with_reducible refine w_fld ?_
  | with_reducible refine w_bm ?_
  | with_reducible refine w_bm0 ?_
  | with_reducible refine w_sl ?_
  | with_reducible refine w_part ?_
  | with_reducible refine w_partI ?_
  | with_reducible refine w_nopart ?_
  | ((with_reducible refine' w_ixL ?hh ?ha ?_); (case hh => first | assumption | exact upd_same); (case ha => rfl))
  | ((with_reducible refine' w_setLu ?ha ?_); (case ha => rfl))
  | ((with_reducible refine' w_setL ?hh ?ha ?_); (case hh => first | assumption | exact upd_same); (case ha => rfl))
  | with_reducible refine w_iteT ?_
  | with_reducible refine w_iteF ?_
  | with_reducible refine w_lst ?_
  | with_reducible refine w_tup ?_
  | ((with_reducible refine w_new ?hz ?_); (case hz => rfl))
  | with_reducible refine w_lc ?_
  | with_reducible refine w_iL ?_
  | with_reducible refine w_iT ?_
  | with_reducible refine w_iR1 ?_
  | with_reducible refine w_iR2 ?_
  | with_reducible refine w_yes ?_
  | with_reducible refine w_iStr ?_
  | with_reducible exact tyS
  | with_reducible refine And.intro tyS ?_
  | ((with_reducible refine w_find3 ?_); (first | rw [find3_one] | rw [starts3] | skip))
  | ((with_reducible refine w_2s ?_); (try rw [find_one]))
  | ((with_reducible refine w_inS ?_); rw [S_list])
  | ((with_reducible refine w_lenS ?hz ?_); (case hz => first | assumption | omega | decide); rw [SX.S_len])
  | ((with_reducible refine w_addS ?hz ?_); (case hz => first | assumption | omega | decide); rw [vS_cat])
  | with_reducible refine w_mk ?_
  | with_reducible refine w_me ?_
  | with_reducible refine w_sfld ?_
  | ((with_reducible refine' w_gtup ?hh ?hn ?_); (case hh => first | assumption | exact upd_same); (case hn => rfl))
  | with_reducible refine w_gcons ?_
  | with_reducible refine w_gnil ?_
  | with_reducible refine w_repl ?_
  | with_reducible refine w_chain ?_
  | with_reducible refine w_x1i ?_
  | with_reducible refine w_x1b ?_
  | with_reducible refine w_x1s ?_
  | with_reducible refine w_int1i ?_
  | with_reducible refine w_int1b ?_
  | ((with_reducible refine w_mod ?hc ?_); (case hc => omega))
  | ((with_reducible refine w_fdivW ?hc ?hd ?_); (case hc => omega); (case hd => omega))
  | ((with_reducible refine w_mul ?hc ?_); (case hc => first | exact Or.inr ⟨by decide, by decide⟩ | exact Or.inl ⟨by decide, by decide⟩))
  | ((with_reducible refine w_pow ?hc ?_); (case hc => exact ⟨by decide, by decide, by decide⟩)))
local macro_rules | `(tactic| walk_at "s1") => `(tactic| first
  | with_reducible refine w_seq ?_
  | with_reducible refine w_asg ?_
  | with_reducible refine w_ret ?_
  | with_reducible refine w_drop ?_
  | with_reducible refine w_next ?_
  | with_reducible refine w_ifs ?_
  | ((with_reducible refine' w_aug ?hv ?_); (case hv => rfl))
  | with_reducible refine w_for ?_
  | walk_at "e1")
local macro_rules | `(tactic| walk_at "e") => `(tactic| repeat walk_at "e1")
local macro_rules | `(tactic| walk_at "g") => `(tactic| repeat walk_at "s1")

namespace K01
open Lx
section
variable {P : Program} {w : World} {K : PySem.W.Frag} {mg : Str → Option Value} {base : Heap} {cTE cTk aL aS aK : Addr}
/-- the tokens stand at these addresses -/
def TokAll (C : Addr) (H : Hp) : List Addr → List (List Nat × V × Nat) → Prop := Paired fun x t => TokO C H x (.str (S t.1)) t.2.1 (.int (t.2.2 : Int))
theorem TokAll.up {C : Addr} {H H' : Hp} : ∀ {xs : List Addr} {ts : List (List Nat × V × Nat)}, TokAll C H xs ts → (∀ x ∈ xs, ∀ o, H x = some o → H' x = some o) → TokAll C H' xs ts
  | _, _, .nil, _ => .nil
  | _, _, .cons ⟨dx, h⟩ r, e => .cons ⟨dx, e _ List.mem_cons_self _ h⟩ (TokAll.up r fun x hx => e x (List.mem_cons_of_mem _ hx))
theorem TokAll.snoc {C : Addr} {H : Hp} {x : Addr} {t : List Nat × V × Nat} (h : TokO C H x (.str (S t.1)) t.2.1 (.int (t.2.2 : Int))) : ∀ {xs : List Addr} {ts : List (List Nat × V × Nat)}, TokAll C H xs ts → TokAll C H (xs ++ [x]) (ts ++ [t])
  | _, _, .nil => .cons h .nil
  | _, _, .cons a r => .cons a (TokAll.snoc h r)
theorem TokAll.ins {C : Addr} {H : Hp} : ∀ {xs : List Addr} {ts : List (List Nat × V × Nat)}, TokAll C H xs ts → ∀ x ∈ xs, ∃ dx fs, H x = some (.ins C dx fs)
  | _, _, .cons ⟨dx, h⟩ r, x, hx => by
    rcases List.mem_cons.mp hx with rfl | hx
    · exact ⟨dx, _, h⟩
    · exact TokAll.ins r x hx
def spTokenize (C T : Addr) : Sp := fun vs H Q E => ∃ (l : List Nat), vs = [.str (S l)] ∧ l.length ≤ 1000000 ∧
  match lex (l.length + 1) 0 l with
  | none => ∀ H', Same H H' → E (.ref T) none H'
  | some ts => ∀ (H' : Hp) (p : Addr) (xs : List Addr), Same H H' → H p = none → H' p = some (.lst (xs.map V.ref)) → TokAll C H' xs ts → (∀ x ∈ xs, H x = none) → ts.length ≤ l.length + 1 → Q (.ref p) H'
theorem ok_tokenize (W : Wt K mg cTE cTk aL aS aK) (c_gap_end : Cl P w K mg base 1 "gap_end" spGap) (c_token_at : Cl P w K mg base 5 "token_at" (spTokAt cTk cTE)) (c_Token : Mc P w K mg base 1 "Token" cTk (spInit cTk)) :
    Cl P w K mg base 6 "tokenize" (spTokenize cTk cTE) := by
  refine cl_mk W.d_tokenize sc_tokenize (fun _ _ _ _ _ _ us hl => match us, hl with | [_], _ => rfl) (fun vs H Q E h => ?_) (fun f cdv A outer s H vs Q E hr h => ?_)
  · obtain ⟨l, rfl, _⟩ := h; rfl
  obtain ⟨l, rfl, hl, q⟩ := h
  have hz := le_line hl
  refine ⟨_, (pss_cons (ps_set (i := 1) sc_tokenize.nd rfl (Or.inl rfl) (pe_lst pa_nil))
    (pss_cons (ps_set (i := 2) sc_tokenize.nd rfl (Or.inl rfl) (pe_cl c_gap_end hr (by decide) rfl passL (pa_cons (pv 0) (pa_cons pe_int pa_nil))))
    (pss_cons (ps_while (passes_of rfl) (pt_cmpR op_lt (pv 2) (pe_callB call_len_str rfl W.n_len PySem.boot_len (pa_cons (pv 0) pa_nil)) (nomark _))
    (pss_cons (ps_asg (pe_cl c_token_at hr (by decide) rfl passD (pa_cons (pv 0) (pa_cons (pv 2) pa_nil))) (pg_tup rfl (pgs_cons (pg_name (i := 3) sc_tokenize.nd rfl (Or.inl rfl)) (pgs_cons (pg_name (i := 2) sc_tokenize.nd rfl (Or.inl rfl)) pgs_nil))))
    (pss_cons (ps_expr (pe_bm PySem.F.plainAttrs_list PySem.F.slot_list_append PySem.F.type_list_append mt_append (pv 1) (pa_cons (pv 3) pa_nil)))
    (pss_one (ps_set (i := 2) sc_tokenize.nd rfl (Or.inl rfl) (pe_cl c_gap_end hr (by decide) rfl passL (pa_cons (pv 0) (pa_cons (pv 2) pa_nil))))))))
    (pss_cons (ps_expr (pe_bm PySem.F.plainAttrs_list PySem.F.slot_list_append PySem.F.type_list_append mt_append (pv 1) (pa_cons (pe_mc c_Token hr (by decide) rfl passL (pa_cons (C8.pe_gc rfl W.c_END) (pa_cons pe_non (pa_cons (pe_callB call_len_str rfl W.n_len PySem.boot_len (pa_cons (pv 0) pa_nil)) pa_nil)))) pa_nil)))
    (pss_one (ps_ret (pv 1))))))), ?_⟩
  walk_at "g"
  intro L hL
  walk_at "g"
  refine ⟨l, 0, rfl, hl, Nat.zero_le _, ?_⟩
  walk_at "g"
  refine w_while (fun m σ H' => ∃ (done : List (List Nat × V × Nat)) (xs : List Addr) (b f : Nat) (v : Option V), σ = [some (.str (S l)), some (.ref L), some (.int ((b + gap false (l.drop b) : Nat) : Int)), v] ∧ H' L = some (.lst (xs.map V.ref)) ∧ Same H H' ∧
      TokAll cTk H' xs done ∧ (∀ x ∈ xs, H x = none) ∧ b ≤ l.length ∧ l.length - b < f ∧ lex (l.length + 1) 0 l = (lex f b (l.drop b)).map (done ++ ·) ∧ done.length ≤ b ∧ m = f)
    (l.length + 1) ⟨[], [], 0, l.length + 1, none, ?_, upd_same, same_new hL _, .nil, (fun x hx => absurd hx List.not_mem_nil), Nat.zero_le _, by omega, ?_, Nat.zero_le _, rfl⟩ ?_
  · rfl
  · rw [List.drop_zero]
    cases lex (l.length + 1) 0 l with
    | none => rfl
    | some ts => rfl
  rintro m σ H' ⟨done, xs, b, f, v, rfl, eL, sH, tA, fr, hb, hf, el, hd, rfl⟩
  have hg := gap_le false (l.drop b)
  rw [List.length_drop] at hg
  obtain ⟨f', rfl⟩ : ∃ f', m = f' + 1 := ⟨m - 1, by omega⟩
  have edd : (l.drop b).drop (gap false (l.drop b)) = l.drop (b + gap false (l.drop b)) := by rw [List.drop_drop]
  walk_at "g"
  refine w_iteD (fun c1 => ?_) (fun c1 => ?_)
  · have hlt : b + gap false (l.drop b) < l.length := by
      have c2 : ((b + gap false (l.drop b) : Nat) : Int) < (l.length : Int) := c1
      omega
    have hne : (l.drop b).drop (gap false (l.drop b)) ≠ [] := by rw [edd, drop_get hlt]; exact List.cons_ne_nil _ _
    cases et : tokAt (l.drop (b + gap false (l.drop b))) with
    | none =>
      rw [lex_bad hne (by rw [edd]; exact et)] at el
      rw [el] at q
      refine ⟨fun _ _ => False, fun _ _ n => n.elim, ?_⟩
      walk_at "g"
      refine ⟨l, _, rfl, hl, hlt, ?_⟩
      rw [et]
      exact fun H2 s2 => q H2 (sH.trans s2)
    | some t =>
      obtain ⟨tw, tv, n⟩ := t
      rw [lex_step hne (by rw [edd]; exact et)] at el
      have hn := tokAt_len et
      rw [List.length_drop] at hn
      have e3 : (l.drop b).drop (gap false (l.drop b) + n) = l.drop (b + gap false (l.drop b) + n) := by rw [List.drop_drop, Nat.add_assoc]
      rw [e3] at el
      refine ⟨fun σ' H2 => ∃ (x : Addr) (v' : Option V), σ' = [some (.str (S l)), some (.ref L), some (.int ((b + gap false (l.drop b) + n + gap false (l.drop (b + gap false (l.drop b) + n)) : Nat) : Int)), v'] ∧ H2 L = some (.lst ((xs ++ [x]).map V.ref)) ∧ Same H H2 ∧
        TokAll cTk H2 (xs ++ [x]) (done ++ [(tw, tv, b + gap false (l.drop b))]) ∧ H x = none, ?_, ?_⟩
      · rintro σ' H2 ⟨x, v', rfl, e4, e5, e6, e7⟩
        refine ⟨f', Nat.lt_succ_self _, done ++ [(tw, tv, b + gap false (l.drop b))], xs ++ [x], b + gap false (l.drop b) + n, f', v', rfl, e4, e5, e6, ?_, by omega, by omega, ?_, ?_, rfl⟩
        · intro y hy
          rcases List.mem_append.mp hy with hy | hy
          · exact fr y hy
          · rw [List.mem_singleton.mp hy]; exact e7
        · rw [el, Option.map_map]
          congr 1
          funext ts
          show done ++ ((tw, tv, b + gap false (l.drop b)) :: ts) = (done ++ [(tw, tv, b + gap false (l.drop b))]) ++ ts
          rw [List.append_assoc]; rfl
        · rw [List.length_append, List.length_singleton]
          omega
      · walk_at "g"
        refine ⟨l, _, rfl, hl, hlt, ?_⟩
        rw [et]
        intro H2 x r s2 hx tx hr2
        walk_at "g"
        have neL : ∀ {y : Addr} {dy : Addr} {fs : List (Str × V)} {G : Hp}, G y = some (.ins cTk dy fs) → G L = some (.lst (xs.map V.ref)) → y ≠ L := fun e1 e2 z => by
          subst z; rw [e1] at e2; cases e2
        have eL2 := s2 _ _ eL
        refine ⟨tyL eL2, ?_⟩
        walk_at "g"
        refine w_app eL2 (by rw [List.length_map, tA.length]; exact Nat.lt_of_le_of_lt (Nat.le_trans hd (Nat.le_trans hb hl)) (by decide)) ?_
        walk_at "g"
        refine ⟨l, b + gap false (l.drop b) + n, rfl, hl, by omega, ?_⟩
        walk_at "g"
        obtain ⟨dx, tx⟩ := tx
        have nx : x ≠ L := neL tx eL2
        refine ⟨x, _, rfl, by rw [upd_same, List.map_append]; rfl, same_upd (sH.trans s2) hL, ?_, sH.free hx⟩
        refine TokAll.snoc (t := (tw, tv, b + gap false (l.drop b))) ⟨dx, by rw [upd_ne nx]; exact tx⟩ (TokAll.up tA fun y hy o e => ?_)
        obtain ⟨dy, fs, ey⟩ := tA.ins y hy
        rw [upd_ne (neL ey eL)]
        exact s2 _ _ e
  · have hge : b + gap false (l.drop b) = l.length := by
      have c2 : ¬ ((b + gap false (l.drop b) : Nat) : Int) < (l.length : Int) := c1
      omega
    have ed : lex (f' + 1) b (l.drop b) = some [(sEnd, .non, b + gap false (l.drop b))] := lex_done (by rw [edd, hge]; exact List.drop_eq_nil_of_le (Nat.le_refl _))
    rw [ed] at el
    rw [el] at q
    simp only [Option.map_some] at q
    walk_at "g"
    refine ⟨tyL eL, ?_⟩
    walk_at "g"
    intro x dx hx hdx ne
    refine ⟨x, dx, _, _, _, upd _ dx (.own x), rfl, rfl, rfl, ?_⟩
    walk_at "g"
    have nx : L ≠ x := ne_of_none eL hx
    have nd : L ≠ dx := ne_of_none eL hdx
    refine w_app (by rw [upd_ne nx, upd_ne nd]; exact eL) (by rw [List.length_map, tA.length]; exact Nat.lt_of_le_of_lt (Nat.le_trans hd (Nat.le_trans hb hl)) (by decide)) ?_
    walk_at "g"
    have s3 : Same H' (upd (upd H' dx (.own x)) x (.ins cTk dx (tokF (.str (S sEnd)) .non (.int (l.length : Int))))) := fun b o e => by
      rw [upd_ne (ne_of_none e hx), upd_ne (ne_of_none e hdx)]; exact e
    refine q _ L (xs ++ [x]) (same_upd (sH.trans s3) hL) hL (by rw [upd_same, List.map_append]; rfl) (TokAll.snoc (t := (sEnd, .non, b + gap false (l.drop b))) ⟨dx, by rw [upd_ne nx.symm, upd_same, hge]⟩ (TokAll.up tA fun y hy o e => ?_)) ?_ ?_
    · obtain ⟨dy, fs, ey⟩ := tA.ins y hy
      have ny : y ≠ L := fun z => by subst z; rw [ey] at eL; cases eL
      rw [upd_ne ny]
      exact s3 _ _ e
    · intro y hy
      rcases List.mem_append.mp hy with hy | hy
      · exact fr y hy
      · rw [List.mem_singleton.mp hy]; exact sH.free hx
    · rw [List.length_append, List.length_singleton]
      omega
end
end K01
end

section
-- part K01F
set_option Elab.async false
set_option linter.all false
set_option maxRecDepth 100000
set_option maxHeartbeats 4000000
open PySem PySem.Spec PyProof.Rows L2 Fw
local macro_rules | `(tactic| walk_at "e1") => `(tactic| first
  | ((with_reducible refine' w_var ?hv ?_); (case hv => rfl))
  | with_reducible refine w_c ?_
  | with_reducible refine w_op ?_
  | with_reducible refine w_un ?_
  | with_reducible refine w_cons ?_
  | with_reducible refine w_nil ?_
  | with_reducible refine w_cl ?_
  | with_reducible refine w_cb ?_
  | with_reducible refine w_gname ?_
  | with_reducible refine w_gsub ?_
  | with_reducible refine w_test ?_
  | with_reducible refine w_B ?_
  | with_reducible refine w_bl ?_
  | with_reducible refine w_and ?_
  | with_reducible refine w_or ?_
  | with_reducible refine w_not ?_
  | with_reducible refine w_if ?_
  | with_reducible refine w_I0 ?_
  | with_reducible refine w_ipI ?_
  | with_reducible refine w_eqS ?_
  | with_reducible refine w_neS ?_
  | with_reducible refine w_eqI ?_
  | ((with_reducible refine w_eq ?hs ?_); (case hs => rfl))
  | ((with_reducible refine w_ne ?hs ?_); (case hs => rfl))
  | with_reducible refine w_fld ?_
  | with_reducible refine w_bm ?_
  | with_reducible refine w_bm0 ?_
  | with_reducible refine w_sl ?_
  | with_reducible refine w_part ?_
  | with_reducible refine w_partI ?_
  | with_reducible refine w_nopart ?_
  | ((with_reducible refine' w_ixL ?hh ?ha ?_); (case hh => first | assumption | exact upd_same); (case ha => rfl))
  | ((with_reducible refine' w_setLu ?ha ?_); (case ha => rfl))
  | ((with_reducible refine' w_setL ?hh ?ha ?_); (case hh => first | assumption | exact upd_same); (case ha => rfl))
  | with_reducible refine w_iteT ?_
  | with_reducible refine w_iteF ?_
  | with_reducible refine w_lst ?_
  | with_reducible refine w_tup ?_
  | ((with_reducible refine w_new ?hz ?_); (case hz => rfl))
  | with_reducible refine w_lc ?_
  | with_reducible refine w_iL ?_
  | with_reducible refine w_iT ?_
  | with_reducible refine w_iR1 ?_
  | with_reducible refine w_iR2 ?_
  | with_reducible refine w_yes ?_
  | with_reducible refine w_iStr ?_
  | with_reducible exact tyS
  | with_reducible refine And.intro tyS ?_
  | ((with_reducible refine w_find3 ?_); (first | rw [find3_one] | rw [starts3] | skip))
  | ((with_reducible refine w_2s ?_); (try rw [find_one]))
  | ((with_reducible refine w_inS ?_); rw [S_list])
  | ((with_reducible refine w_lenS ?hz ?_); (case hz => first | assumption | omega | decide); rw [SX.S_len])
  | ((with_reducible refine w_addS ?hz ?_); (case hz => first | assumption | omega | decide); rw [vS_cat])
  | with_reducible refine w_mk ?_
  | with_reducible refine w_me ?_
  | with_reducible refine w_sfld ?_
  | ((with_reducible refine' w_gtup ?hh ?hn ?_); (case hh => first | assumption | exact upd_same); (case hn => rfl))
  | with_reducible refine w_gcons ?_
  | with_reducible refine w_gnil ?_
  | with_reducible refine w_repl ?_
  | with_reducible refine w_chain ?_
  | with_reducible refine w_x1i ?_
  | with_reducible refine w_x1b ?_
  | with_reducible refine w_x1s ?_
  | with_reducible refine w_int1i ?_
  | with_reducible refine w_int1b ?_
  | ((with_reducible refine w_mod ?hc ?_); (case hc => omega))
  | ((with_reducible refine w_fdivW ?hc ?hd ?_); (case hc => omega); (case hd => omega))
  | ((with_reducible refine w_mul ?hc ?_); (case hc => first | exact Or.inr ⟨by decide, by decide⟩ | exact Or.inl ⟨by decide, by decide⟩))
  | ((with_reducible refine w_pow ?hc ?_); (case hc => exact ⟨by decide, by decide, by decide⟩)))
local macro_rules | `(tactic| walk_at "s1") => `(tactic| first
  | with_reducible refine w_seq ?_
  | with_reducible refine w_asg ?_
  | with_reducible refine w_ret ?_
  | with_reducible refine w_drop ?_
  | with_reducible refine w_next ?_
  | with_reducible refine w_ifs ?_
  | ((with_reducible refine' w_aug ?hv ?_); (case hv => rfl))
  | with_reducible refine w_for ?_
  | walk_at "e1")
local macro_rules | `(tactic| walk_at "e") => `(tactic| repeat walk_at "e1")
local macro_rules | `(tactic| walk_at "g") => `(tactic| repeat walk_at "s1")

namespace K01
open Lx
def plain : List Nat → Bool
  | [] => false
  | c :: r => if c ∈ digits then false else if (c :: r) ∈ KW then false else decide (run (fun c => decide (c ∈ (small ++ digits) ++ [95])) (c :: r) = (c :: r).length)
section
variable {P : Program} {w : World} {K : PySem.W.Frag} {mg : Str → Option Value} {base : Heap} {cTE cTk aL aS aK : Addr}
def spPlain : Sp := fun vs H Q _ => ∃ l : List Nat, vs = [.str (S l)] ∧ l.length ≤ 1000000 ∧ Q (.bl (plain l)) H
theorem ok_is_plain_name (W : Wt K mg cTE cTk aL aS aK) (c_run_end : Cl P w K mg base 1 "run_end" spRun) : Cl P w K mg base 2 "is_plain_name" spPlain := by
  refine cl_mk W.d_is_plain_name sc_is_plain_name (fun _ _ _ _ _ _ us hl => match us, hl with | [_], _ => rfl) (fun vs H Q E h => ?_) (fun f cdv A outer s H vs Q E hr h => ?_)
  · obtain ⟨l, rfl, _⟩ := h; rfl
  obtain ⟨l, rfl, hl, q⟩ := h
  have hz := le_line hl
  refine ⟨_, (pss_cons (ps_if (PW.pt (pw_or (pt_cmpR op_eq (pv 0) pe_str (nomark _)) (pw_or (pt_cmpR op_in_sign (pe_ix ix_str (pv 0) pe_int (fun _ _ => rfl)) (C8.pe_gc rfl W.c_DIGITS) (by with_unfolding_all rfl)) (pw_or1 (pt_cmpR op_in_seq (pv 0) (C8.pe_gc rfl W.c_KEYWORDS) (by with_unfolding_all rfl))))))
    (pss_one (ps_ret pe_bl))
    pss_nil)
    (pss_one (ps_ret (pe_cmpR op_eq (pe_cl c_run_end hr (by decide) rfl passL (pa_cons (pv 0) (pa_cons pe_int (pa_cons (pe_op op_add_str (pe_op op_add_str (C8.pe_gc rfl W.c_SMALL_LETTERS) (C8.pe_gc rfl W.c_DIGITS)) pe_str) pa_nil)))) (pe_callB call_len_str rfl W.n_len PySem.boot_len (pa_cons (pv 0) pa_nil)) (nomark _))))), ?_⟩
  walk_at "g"
  have e0 : (Str.ofString "").1.toList = [] := rfl
  rw [e0]
  refine w_iteD (fun c1 => ?_) (fun c1 => ?_)
  · subst c1
    walk_at "g"
    exact q
  obtain ⟨c, r, rfl⟩ := List.exists_cons_of_ne_nil c1
  walk_at "g"
  refine w_ixS hz (i := 0) rfl ?_
  walk_at "g"
  refine w_iteD (fun c2 => ?_) (fun c2 => ?_)
  · walk_at "g"
    rw [plain, if_pos c2] at q
    exact q
  walk_at "g"
  refine w_inT (W.q_KEYWORDS _) ?_
  walk_at "g"
  refine w_iteD (fun c3 => ?_) (fun c3 => ?_)
  · walk_at "g"
    rw [plain, if_neg c2, if_pos c3] at q
    exact q
  rw [plain, if_neg c2, if_neg c3] at q
  walk_at "g"
  refine ⟨c :: r, (small ++ digits) ++ [95], 0, rfl, hl, Nat.zero_le _, ?_⟩
  walk_at "g"
  rw [List.drop_zero, Nat.zero_add]
  rw [show (decide (((run (fun c => decide (c ∈ small ++ digits ++ [95])) (c :: r) : Nat) : Int) = (((c :: r).length : Nat) : Int))) = decide (run (fun c => decide (c ∈ small ++ digits ++ [95])) (c :: r) = (c :: r).length) from decide_eq_decide.mpr (by omega)]
  exact q
end
end K01
end

section
-- part K01N
set_option Elab.async false
set_option linter.all false
set_option maxRecDepth 100000
set_option maxHeartbeats 2000000
/-! K01N: texts put together from tokens and gaps; core Lean -/
namespace Lx
open PySem PySem.Spec PyProof.Rows L2 Fw
/-- s stands for a token (w, v) wherever a gap's sign comes behind it -/
structure TokIs (s w : List Nat) (v : V) : Prop where
  ne : s ≠ []
  tok : ∀ g r, g = 32 ∨ g = 10 → tokAt (s ++ g :: r) = some (w, v, s.length)
  gap0 : ∀ g r, g = 32 ∨ g = 10 → gap false (s ++ g :: r) = 0
/-- a gap with something in it -/
structure GapIs (G : List Nat) : Prop where
  gp : ∀ r, gap false (G ++ r) = G.length + gap false r
structure GapBig (G : List Nat) : Prop extends GapIs G where
  hd : ∃ g r, G = g :: r ∧ (g = 32 ∨ g = 10)
theorem lex_gap {G : List Nat} (h : GapIs G) (f p : Nat) (r : List Nat) : lex f p (G ++ r) = lex f (p + G.length) r := by
  cases f with
  | zero => rfl
  | succ f =>
    have e : (G ++ r).drop (gap false (G ++ r)) = r.drop (gap false r) := by
      rw [h.gp, List.drop_append, List.drop_of_length_le (by omega), List.nil_append]
      congr 1
      omega
    rw [lex, lex, e, h.gp, Nat.add_assoc]
    congr 1
    cases tokAt (r.drop (gap false r)) with
    | none => rfl
    | some t =>
      obtain ⟨w, v, n⟩ := t
      have e2 : (G ++ r).drop (G.length + gap false r + n) = r.drop (gap false r + n) := by
        rw [List.drop_append, List.drop_of_length_le (by omega), List.nil_append]
        congr 1
        omega
      simp only [e2]
/-- t is read as these tokens, whatever comes behind -/
def Reads (t : List Nat) (due : List (List Nat × V × Nat)) : Prop := ∀ f R, lex (due.length + f) 0 (t ++ R) = (lex f t.length R).map (due ++ ·)
theorem Reads.base {G : List Nat} (h : GapIs G) : Reads G [] := fun f R => by
  rw [List.length_nil, Nat.zero_add, lex_gap h, Nat.zero_add]
  cases lex f G.length R <;> rfl
theorem Reads.step {t s w G : List Nat} {v : V} {due : List (List Nat × V × Nat)} (h : Reads t due) (hs : TokIs s w v) (hG : GapBig G) : Reads (t ++ s ++ G) (due ++ [(w, v, t.length)]) := fun f R => by
  obtain ⟨g, r, rfl, hg⟩ := hG.hd
  have e1 : t ++ s ++ g :: r ++ R = t ++ (s ++ g :: (r ++ R)) := by simp
  have g0 := hs.gap0 g (r ++ R) hg
  have ne : (s ++ g :: (r ++ R)).drop (gap false (s ++ g :: (r ++ R))) ≠ [] := by
    rw [g0, List.drop_zero]
    intro e
    exact hs.ne (List.append_eq_nil_iff.mp e).1
  have et : tokAt ((s ++ g :: (r ++ R)).drop (gap false (s ++ g :: (r ++ R)))) = some (w, v, s.length) := by
    rw [g0, List.drop_zero]
    exact hs.tok g _ hg
  rw [e1, List.length_append, List.length_singleton, Nat.add_assoc, Nat.add_comm 1 f, h (f + 1), lex_step ne et, g0, Nat.zero_add, Nat.add_zero,
    List.drop_append, List.drop_of_length_le (Nat.le_refl _), Nat.sub_self, List.drop_zero, List.nil_append, show g :: (r ++ R) = (g :: r) ++ R from rfl, lex_gap hG.toGapIs, Option.map_map]
  have e3 : (t ++ s ++ g :: r).length = t.length + s.length + (g :: r).length := by rw [List.length_append, List.length_append]
  rw [e3]
  congr 1
  funext ts
  show due ++ ((w, v, t.length) :: ts) = due ++ [(w, v, t.length)] ++ ts
  simp
theorem Reads.fin {t : List Nat} {due : List (List Nat × V × Nat)} (h : Reads t due) (hl : due.length ≤ t.length) : lex (t.length + 1) 0 t = some (due ++ [(sEnd, .non, t.length)]) := by
  have := h (t.length - due.length + 1) []
  rw [List.append_nil, show due.length + (t.length - due.length + 1) = t.length + 1 by omega] at this
  rw [this, lex_done (f := t.length - due.length) (p := t.length) (r := []) rfl]
  rfl
theorem Reads.bad {t b : List Nat} {due : List (List Nat × V × Nat)} (h : Reads t due) (hl : due.length ≤ t.length) (hb : b ≠ []) (hn : ∀ f p, lex (f + 2) p b = none) : lex ((t ++ b).length + 1) 0 (t ++ b) = none := by
  have h0 : 0 < b.length := List.length_pos_iff.mpr hb
  have := h ((t ++ b).length + 1 - due.length) b
  rw [show due.length + ((t ++ b).length + 1 - due.length) = (t ++ b).length + 1 by rw [List.length_append]; omega] at this
  rw [this]
  obtain ⟨k, hk⟩ : ∃ k, (t ++ b).length + 1 - due.length = k + 2 := ⟨(t ++ b).length + 1 - due.length - 2, by rw [List.length_append]; omega⟩
  rw [hk, hn]
  rfl
/-! gaps -/
theorem gap_sp : GapBig [32] := ⟨⟨fun r => by simp [gap]⟩, 32, [], rfl, .inl rfl⟩
theorem gap_nl : GapBig [10] := ⟨⟨fun r => by simp [gap]⟩, 10, [], rfl, .inr rfl⟩
theorem gap_2 : GapBig [32, 32] := ⟨⟨fun r => by simp [gap]; omega⟩, 32, [32], rfl, .inl rfl⟩
theorem gap_0 : GapIs [] := ⟨fun r => by simp⟩
def cmt : List Nat := [32, 45, 45, 32, 115, 111, 32, 105, 116, 32, 105, 115, 44, 32, 39, 121, 101, 115, 10]
theorem gap_c : GapBig cmt := ⟨⟨fun r => by simp [gap, cmt]; omega⟩, 32, _, rfl, .inl rfl⟩
/-! tokens -/
theorem run_all {p : Nat → Bool} {s : List Nat} {g : Nat} {r : List Nat} (h : ∀ c ∈ s, p c = true) (hg : p g = false) : run p (s ++ g :: r) = s.length := by
  induction s with
  | nil => rw [List.nil_append, run_cons, hg]; rfl
  | cons c s ih =>
    rw [List.cons_append, run_cons, if_pos (h c List.mem_cons_self), ih fun d hd => h d (List.mem_cons_of_mem _ hd), List.length_cons]
    omega
theorem gap_no {c : Nat} {r : List Nat} (h : c ≠ 32 ∧ c ≠ 10 ∧ c ≠ 45) : gap false (c :: r) = 0 := by
  rw [gap, if_neg (by omega), if_neg (by omega)]
theorem let_no {c : Nat} (h : isLet c = true) : c ≠ 32 ∧ c ≠ 10 ∧ c ≠ 45 := by
  have h2 : letters.all (fun c => decide (c ≠ 32 ∧ c ≠ 10 ∧ c ≠ 45)) = true := by decide +kernel
  simpa using List.all_eq_true.mp h2 c (of_decide_eq_true h)
theorem dig_no {c : Nat} (h : isDig c = true) : c ≠ 32 ∧ c ≠ 10 ∧ c ≠ 45 ∧ isLet c = false := by
  have h2 : digits.all (fun c => decide (c ≠ 32 ∧ c ≠ 10 ∧ c ≠ 45 ∧ isLet c = false)) = true := by decide +kernel
  simpa using List.all_eq_true.mp h2 c (of_decide_eq_true h)
theorem take_app {s r : List Nat} : (s ++ r).take s.length = s := by simp
theorem tok_word {c : Nat} {s : List Nat} (h0 : isLet c = true) (h : ∀ d ∈ s, isWd d = true) : TokIs (c :: s) (wordOf ((c :: s).map lo1)) (.str (S ((c :: s).map lo1))) := by
  have ha : ∀ d ∈ c :: s, isWd d = true := fun d hd => by
    rcases List.mem_cons.mp hd with rfl | hd
    · exact let_wd h0
    · exact h d hd
  refine ⟨List.cons_ne_nil _ _, fun g r hg => ?_, fun g r _ => gap_no (let_no h0)⟩
  have e := run_all (p := isWd) (g := g) (r := r) ha (by rcases hg with rfl | rfl <;> decide +kernel)
  rw [List.cons_append] at e ⊢
  unfold tokAt
  dsimp only
  rw [if_pos h0, e, ← List.cons_append, take_app]
theorem tok_num (n : Nat) (h : n ≤ 9223372036854775807) : TokIs (TL.numL n) sInt (.int (n : Int)) := by
  have hd : ∀ c ∈ TL.numL n, isDig c = true := fun c hc => by
    have := TL.numL_digits n c hc
    refine decide_eq_true ?_
    have h1 : 48 ≤ c ∧ c ≤ 57 := this
    obtain ⟨k, rfl⟩ : ∃ k, c = 48 + k := ⟨c - 48, by omega⟩
    have : k < 10 := by omega
    have h2 : ∀ k < 10, 48 + k ∈ digits := by decide +kernel
    exact h2 k this
  have hl := TL.numL_len (n := n) (k := 19) (by decide) (Nat.lt_of_le_of_lt h (by decide))
  have hv := TL.numL_val n
  have hne := TL.numL_ne n
  obtain ⟨c, s, e⟩ := List.exists_cons_of_ne_nil hne
  rw [e] at hd hl hv ⊢
  have hc := dig_no (hd c List.mem_cons_self)
  refine ⟨List.cons_ne_nil _ _, fun g r hg => ?_, fun g r _ => gap_no ⟨hc.1, hc.2.1, hc.2.2.1⟩⟩
  have e2 := run_all (p := isDig) (g := g) (r := r) hd (by rcases hg with rfl | rfl <;> decide +kernel)
  rw [List.cons_append] at e2 ⊢
  unfold tokAt
  dsimp only
  rw [if_neg (by rw [hc.2.2.2]; decide), if_pos (hd c List.mem_cons_self), e2, ← List.cons_append, take_app, hv, if_neg (by omega), if_neg (by omega)]
theorem quot_dbl {g : Nat} (hg : g ≠ 39) (r : List Nat) : ∀ l : List Nat, quot (StrLaws.dbl 39 l ++ 39 :: g :: r) = some (l, (StrLaws.dbl 39 l).length + 1)
  | [] => by
    show quot (39 :: g :: r) = _
    rw [quot, if_pos rfl, if_neg hg]
    rfl
  | c :: l => by
    have ih := quot_dbl hg r l
    rw [StrLaws.dbl]
    by_cases h : c = 39
    · subst h
      rw [if_pos rfl]
      show quot (39 :: 39 :: (StrLaws.dbl 39 l ++ 39 :: g :: r)) = _
      rw [quot, if_pos rfl, if_pos rfl, ih]
      rfl
    · rw [if_neg h]
      show quot (c :: (StrLaws.dbl 39 l ++ 39 :: g :: r)) = _
      rw [quot_cons h, ih]
      rfl
theorem tok_quoted {l : List Nat} (h : ∀ c ∈ l, c ∈ alphabet) : TokIs ([39] ++ StrLaws.dbl 39 l ++ [39]) sQuoted (.str (S l)) := by
  refine ⟨by simp, fun g r hg => ?_, fun g r _ => ?_⟩
  · have hg2 : g ≠ 39 := by omega
    have e : [39] ++ StrLaws.dbl 39 l ++ [39] ++ g :: r = 39 :: (StrLaws.dbl 39 l ++ 39 :: g :: r) := by simp
    rw [e]
    unfold tokAt
    dsimp only
    rw [if_neg (by decide +kernel), if_neg (by decide +kernel), if_pos rfl, quot_dbl hg2]
    dsimp only
    rw [if_pos h]
    simp
  · simp [gap]
theorem tok_sign {s : List Nat} (h : s ∈ LONG ++ SHORT) : TokIs s s (.str (S s)) := by
  simp only [LONG, SHORT, List.cons_append, List.nil_append, List.mem_cons, List.not_mem_nil, or_false] at h
  rcases h with rfl | rfl | rfl | rfl | rfl | rfl | rfl | rfl | rfl | rfl | rfl | rfl | rfl | rfl | rfl | rfl <;>
    exact ⟨by simp, (fun g r hg => by rcases hg with rfl | rfl <;> rfl), (fun g r hg => by rcases hg with rfl | rfl <;> rfl)⟩
/-! texts that are refused -/
theorem bad1 {b : List Nat} (h : b ≠ []) (g : gap false b = 0) (t : tokAt b = none) (f p : Nat) : lex (f + 1) p b = none := lex_bad (by rw [g]; exact h) (by rw [g]; exact t)
def BAD : List (List Nat) := [[39, 110, 111, 32, 101, 110, 100], [35], [57, 50, 50, 51, 51, 55, 50, 48, 51, 54, 56, 53, 52, 55, 55, 53, 56, 48, 56], [33], [39, 97, 36, 39, 34], [124], [38], [57, 57, 57, 57, 57, 57, 57, 57, 57, 57, 57, 57, 57, 57, 57, 57, 57, 57, 57, 57], [39, 97, 97, 97, 39, 39]]
theorem bad_no {b : List Nat} (h : b ∈ BAD) : b ≠ [] ∧ b.length ≤ 20 ∧ ∀ f p, lex (f + 2) p b = none := by
  simp only [BAD, List.mem_cons, List.not_mem_nil, or_false] at h
  rcases h with rfl | rfl | rfl | rfl | rfl | rfl | rfl | rfl | rfl
  · exact ⟨by simp, by simp, fun f p => bad1 (by simp) rfl rfl _ _⟩
  · exact ⟨by simp, by simp, fun f p => bad1 (by simp) rfl rfl _ _⟩
  · exact ⟨by simp, by simp, fun f p => bad1 (by simp) rfl rfl _ _⟩
  · exact ⟨by simp, by simp, fun f p => bad1 (by simp) rfl rfl _ _⟩
  · refine ⟨by simp, by simp, fun f p => ?_⟩
    rw [lex_step (r := [39, 97, 36, 39, 34]) (w := sQuoted) (v := .str (S [97, 36])) (n := 4) (by decide) rfl, bad1 (by decide) rfl rfl]
    rfl
  · exact ⟨by simp, by simp, fun f p => bad1 (by simp) rfl rfl _ _⟩
  · exact ⟨by simp, by simp, fun f p => bad1 (by simp) rfl rfl _ _⟩
  · exact ⟨by simp, by simp, fun f p => bad1 (by simp) rfl rfl _ _⟩
  · exact ⟨by simp, by simp, fun f p => bad1 (by simp) rfl rfl _ _⟩
end Lx
end

section
-- part Fs3
set_option Elab.async false
set_option linter.all false
set_option maxRecDepth 100000
set_option maxHeartbeats 2000000
namespace Fw
open PySem PySem.Spec PyProof.Rows L2
section
variable {K : PySem.W.Frag} {σ : L2.St} {H : Hp} {Q : VK} {tl te : TE} {ta : TA} {j : Nat} {vs : List Nat} {tt : TT} {g : TG} {wi : TI}
theorem w_lcRp {n : Int} {R : Addr → Hp → Prop} (hn : 0 ≤ n ∧ n < 2 ^ 62) (h : ∀ D, H D = none → ∃ Pv : Nat → Hp → Prop, Pv 0 (upd H D (.lst [])) ∧
      (∀ (i : Nat) H2, (i : Int) < n → Pv i H2 → g (.int (0 + (i : Int))) (wipe σ vs) H2 fun σ2 H2 => wipe σ2 vs = wipe σ vs ∧ tt σ2 H2 fun b H3 =>
        if b = true then te σ2 H3 fun y H4 => ∃ acc, H4 D = some (.lst acc) ∧ acc.length < sizeLine ∧ Pv (i + 1) (upd H4 D (.lst (acc ++ [y]))) else Pv (i + 1) H3) ∧ (∀ H2, Pv n.toNat H2 → R D H2)) :
    -(2 ^ 62) ≤ n ∧ n < 2 ^ 62 ∧ ∀ D, H D = none → ∃ W : Nat → Nat → Hp → Prop, (∃ m, W 0 m (upd H D (.lst []))) ∧ ∀ i m H, W i m H →
      ((Itr 0 n.toNat).stop i H ∧ R D H) ∨ ((Itr 0 n.toNat).go i H ∧ ∃ Nx : Hp → Prop, (∀ H', Nx H' → ∃ m', m' < m ∧ W (i + 1) m' H') ∧ ∀ x H', (Itr 0 n.toNat).yld i H x H' → g x (wipe σ vs) H' fun σ2 H2 => wipe σ2 vs = wipe σ vs ∧ tt σ2 H2 fun b H3 =>
        if b = true then te σ2 H3 fun y H4 => ∃ acc, H4 D = some (.lst acc) ∧ acc.length < sizeLine ∧ Nx (upd H4 D (.lst (acc ++ [y]))) else Nx H3) := by
  obtain ⟨j, e, a, b, r⟩ := w_lcR (Q := fun v H => ∀ D, v = .ref D → R D H) hn fun D hD => by
    obtain ⟨Pv, x, y, z⟩ := h D hD
    exact ⟨Pv, x, y, fun H2 p D' e => by cases e; exact z H2 p⟩
  cases e
  refine ⟨a, b, fun D hD => ?_⟩
  obtain ⟨W, w1, w2⟩ := r D hD
  refine ⟨W, w1, fun i m H hw => ?_⟩
  rcases w2 i m H hw with ⟨x, y⟩ | x
  · exact .inl ⟨x, y D rfl⟩
  · exact .inr x
theorem w_forRp {g : TG} {tb : TS} {D : Ends} {n : Int} (hn : 0 ≤ n ∧ n < 2 ^ 62) (Pv : Nat → L2.St → Hp → Prop) (h0 : Pv 0 σ H)
    (hs : ∀ (i : Nat) σ H, (i : Int) < n → Pv i σ H → g (.int (0 + (i : Int))) σ H fun σ2 H2 => tb { D with nx := Pv (i + 1), ct := Pv (i + 1), bk := D.nx } σ2 H2) (hd : ∀ σ H, Pv n.toNat σ H → D.nx σ H) :
    -(2 ^ 62) ≤ n ∧ n < 2 ^ 62 ∧ ∃ W : Nat → Nat → L2.St → Hp → Prop, (∃ m, W 0 m σ H) ∧ ∀ i m σ H, W i m σ H →
      ((Itr 0 n.toNat).stop i H ∧ D.nx σ H) ∨ ((Itr 0 n.toNat).go i H ∧ ∃ N : L2.St → Hp → Prop, (∀ σ' H', N σ' H' → ∃ m', m' < m ∧ W (i + 1) m' σ' H') ∧ ∀ x H', (Itr 0 n.toNat).yld i H x H' → g x σ H' fun σ2 H2 => tb { D with nx := N, ct := N, bk := D.nx } σ2 H2) := by
  obtain ⟨j, e, r⟩ := w_forR hn Pv h0 hs hd
  cases e
  exact r
theorem newl {d p : Addr} {H0 Hc H' : Hp} {o : HO} (k : Kp d H0 Hc) (hd : Dice Hc d) (hp : Hc p = none) (hX : upd Hc p o = H') : Kp d H0 H' ∧ Kp d Hc H' ∧ Dice H' d ∧ p ≠ d ∧ H0 p = none ∧ H' p = some o := by
  subst hX
  have hd' := hd
  obtain ⟨a, b, c, hd'⟩ := hd'
  have n : p ≠ d := (ne_of_none hd' hp).symm
  refine ⟨k.trans (Kp.new hp), Kp.new hp, hd.new hp, n, ?_, upd_same⟩
  cases e : H0 p with
  | none => rfl
  | some u => rw [k _ _ n e] at hp; cases hp
theorem w_roll {d : Addr} {m : Int} {H0 Hc : Hp} {Q : VK} {E : XK} (h0 : 0 < m) (h1 : m < 2 ^ 60) (k : Kp d H0 Hc) (hd : Dice Hc d) (h : ∀ (r : Int) (H' : Hp), 0 ≤ r → r < m → Kp d H0 H' → Kp d Hc H' → Dice H' d → Q (.int r) H') : K01.spRoll [.ref d, .int m] Hc Q E := by
  obtain ⟨a, b, c, hd⟩ := hd
  exact ⟨d, m, a, b, c, rfl, hd, h0, h1, fun r a' b' c' e0 e1 => h r _ e0 e1 (k.trans Kp.at_) Kp.at_ ⟨a', b', c', upd_same⟩⟩
/-- a list of signs drawn from cs -/
theorem w_draws {d : Addr} {H0 : Hp} {cs : List Nat} {k : Nat} {m n : Int} {x : Str} {R : Addr → Hp → Prop} (hx : x = S cs) (hm : m = cs.length) (h0 : 0 < m) (h1 : m ≤ 1000) (hn : 0 ≤ n ∧ n ≤ 1000) (kp : Kp d H0 H) (dd : Dice H d)
    (hσ : ∀ v, ((wipe σ vs).set k (some v))[0]? = some (some (.ref d))) (hw : ∀ v, wipe ((wipe σ vs).set k (some v)) vs = wipe σ vs)
    (h : ∀ (D : Addr) (H2 : Hp) (l : List Nat), Kp d H0 H2 → Kp d H H2 → Dice H2 d → H2 D = some (.lst (l.map fun c => V.str (S [c]))) → (∀ c ∈ l, c ∈ cs) → l.length = n.toNat → R D H2) :
    -(2 ^ 62) ≤ n ∧ n < 2 ^ 62 ∧ ∀ D, H D = none → ∃ W : Nat → Nat → Hp → Prop, (∃ m, W 0 m (upd H D (.lst []))) ∧ ∀ i m' H, W i m' H →
      ((Itr 0 n.toNat).stop i H ∧ R D H) ∨ ((Itr 0 n.toNat).go i H ∧ ∃ Nx : Hp → Prop, (∀ H', Nx H' → ∃ m'', m'' < m' ∧ W (i + 1) m'' H') ∧ ∀ z H', (Itr 0 n.toNat).yld i H z H' → gName k z (wipe σ vs) H' fun σ2 H2 => wipe σ2 vs = wipe σ vs ∧ tYes σ2 H2 fun b H3 =>
        if b = true then tOp rIxS (tC (.str x)) (tCl K01.spRoll C8.E0 (tCons (tVar 0) (tCons (tC (.int m)) tNil))) σ2 H3 fun y H4 => ∃ acc, H4 D = some (.lst acc) ∧ acc.length < sizeLine ∧ Nx (upd H4 D (.lst (acc ++ [y]))) else Nx H3) := by
  subst hx
  refine w_lcRp ⟨hn.1, Int.lt_of_le_of_lt hn.2 (by decide)⟩ fun D hD => ?_
  obtain ⟨kp1, kp2, dd1, nD, fD, eD⟩ := newl (o := .lst []) kp dd hD rfl
  refine ⟨fun i H2 => ∃ l : List Nat, l.length = i ∧ (∀ c ∈ l, c ∈ cs) ∧ H2 D = some (.lst (l.map fun c => V.str (S [c]))) ∧ Kp d H0 H2 ∧ Kp d H H2 ∧ Dice H2 d, ⟨[], rfl, fun c hc => absurd hc List.not_mem_nil, eD, kp1, kp2, dd1⟩, ?_, ?_⟩
  · rintro i H2 hi ⟨l, rfl, hl, e2, k2, k3, d2⟩
    refine w_gname ⟨hw _, w_yes ?_⟩
    rw [if_pos rfl]
    refine w_op (w_c (w_cl (w_cons (w_var (hσ _) (w_cons (w_c (w_nil (w_roll h0 (Int.lt_of_le_of_lt h1 (by decide)) k2 d2 fun r H3 r0 r1 k4 k5 d4 => ?_))))))))
    obtain ⟨q, rfl⟩ := Int.eq_ofNat_of_zero_le r0
    have hq : q < cs.length := by omega
    refine w_ixS (Nat.le_trans (by omega : cs.length ≤ 1000) (by decide)) (List.getElem?_eq_getElem hq) ?_
    have e3 := k5 _ _ nD e2
    have hf : H D = none := hD
    have fin : ∀ {Hs : Hp}, Kp d Hs H3 → Hs D = none → Kp d Hs (upd H3 D (.lst ((l.map fun c => V.str (S [c])) ++ [V.str (S [cs[q]])]))) := fun {Hs} a f b o nb e => by
      rw [upd_ne (ne_of_none e f)]
      exact a b o nb e
    refine ⟨_, e3, by rw [List.length_map]; exact Nat.lt_of_lt_of_le (by omega : l.length < 1001) (by decide), l ++ [cs[q]], by simp, ?_, by rw [upd_same, List.map_append]; rfl, fin k4 fD, fin (k3.trans k5) hD, ?_⟩
    · intro c hc
      rcases List.mem_append.mp hc with hc | hc
      · exact hl c hc
      · rw [List.mem_singleton.mp hc]; exact List.getElem_mem hq
    · obtain ⟨a, b, c, e⟩ := d4
      exact ⟨a, b, c, by rw [upd_ne nD.symm]; exact e⟩
  · rintro H2 ⟨l, hl, hc, e, k1, k2, d2⟩
    exact h D H2 l k1 k2 d2 e hc hl
theorem joinL_one : ∀ l : List Nat, TL.joinL [] (l.map fun c => [c]) = l
  | [] => rfl
  | [c] => rfl
  | c :: d :: r => by
    have ih := joinL_one (d :: r)
    show [c] ++ ([] ++ TL.joinL [] ([d] :: r.map fun c => [c])) = c :: d :: r
    rw [List.nil_append]
    rw [List.map_cons] at ih
    rw [ih]
    rfl
theorem join1 {K : PySem.W.Frag} {H : Hp} {D : Addr} {l : List Nat} (hl : l.length ≤ 1000) (e : H D = some (.lst (l.map fun c => V.str (S [c])))) :
    SqL K H D (List.map V.str (l.map fun c => S [c])) ∧ (List.map (fun x : Str => x.length) (l.map fun c => S [c])).sum + (l.map fun c => S [c]).length * (S []).length ≤ 16777216 ∧ Txt.join (S []) (l.map fun c => S [c]) = S l := by
  have e1 : (l.map fun c => V.str (S [c])) = (l.map fun c => S [c]).map V.str := by rw [List.map_map]; rfl
  have e2 : (l.map fun c => S [c]) = (l.map fun c => [c]).map SX.S := by rw [List.map_map]; rfl
  have e3 : ∀ l : List Nat, (List.map (fun x : Str => x.length) (l.map fun c => S [c])).sum = l.length := fun l => by
    induction l with
    | nil => rfl
    | cons c r ih => simp only [List.map_cons, List.sum_cons, ih, List.length_cons, SX.S_len, List.length_nil]; omega
  refine ⟨by rw [← e1]; exact SqL.of e, ?_, ?_⟩
  · rw [e3, show (S []).length = 0 from rfl, Nat.mul_zero]
    omega
  · rw [e2, show S [] = SX.S [] from rfl, SX.join_S, joinL_one]
end
end Fw
end

section
-- part Ft
set_option Elab.async false
set_option linter.all false
set_option maxRecDepth 100000
set_option maxHeartbeats 2000000
/-! Ft: a def that tells which of two own errors came -/
namespace Fw
open PySem PySem.Spec PyProof.Rows L2 LamX
section
variable {X : Cx}
theorem told2_gives {Ng : List Str} {x a e e2 q ret ret2 : Str} {sg : Scope} {g CS CS2 : Addr} {cdg : Value} {j j2 : Nat} {p1 p2 p3 p4 p5 p6 p7 p8 q4 q5 q6 q7 : Pos} (hge : sg.names.lookup e = some .globalImplicit) (hme : X.mg e = some (.ref CS)) (hde : (e == ("__debug__" : Str)) = false)
    (hge2 : sg.names.lookup e2 = some .globalImplicit) (hme2 : X.mg e2 = some (.ref CS2)) (hde2 : (e2 == ("__debug__" : Str)) = false) (h0 : ∀ f : Addr, (L2.start Ng [V.ref f])[0]? = some (some (V.ref f))) :
    GivesTo X Ng x sg g cdg [.Try [.Return (some (.Call (.Name a p1) [] [] p2)) p3]
      [.ExceptHandler (some (.Name e p4)) none [.Return (some (.Constant (.str ret) j p5)) p6] p7, .ExceptHandler (some (.Name e2 q4)) none [.Return (some (.Constant (.str ret2) j2 q5)) q6] q7] [] [] p8] a q (TTold X.K CS ret) := by
  intro f c' s H Q tl act hc h
  have hgl : Gl (cxOf C8.CX0 X.prog X.w X.K X.mg X.base Ng x sg g cdg X.A X.stack s H C8.E0).nox e := hge
  have hgl2 : Gl (cxOf C8.CX0 X.prog X.w X.K X.mg X.base Ng x sg g cdg X.A X.stack s H C8.E0).nox e2 := hge2
  refine ⟨_, pss_one (ps_try_many (X := (cxOf C8.CX0 X.prog X.w X.K X.mg X.base Ng x sg g cdg X.A X.stack s H C8.E0).nox)
      (tb := fun W D σ H => ∃ Ech : XK, (∀ cls d σ' H', Ech cls d H' → W cls d σ' H') ∧ σ[0]? = some (some (.ref f)) ∧ H c' = some (CodeO c' q) ∧ tl Ech H D.rt)
      rfl rfl LamX.takes0 (fun W pn xe tk _ => ?_)
      (.cons (c := .ref CS) ⟨hgl, hde, .inl hme⟩ (fun a oe cls d pn _ _ => pss_one (ps_ret pe_str)) (.cons (c := .ref CS2) ⟨hgl2, hde2, .inl hme2⟩ (fun a oe cls d pn _ _ => pss_one (ps_ret pe_str)) .nil))), ?_⟩
  · refine ⟨fun pins s' σ H' D I h' => ?_⟩
    obtain ⟨Ech, hW, h1, h2, h3⟩ := h'
    have hp := act W pn xe Ech p1 p2 tk hW
    have hq := pss_one (ps_ret (pos := p3) hp)
    exact hq.run pins s' σ H' D I ⟨h1, h2, h3⟩
  · exact ⟨fun cls _ H' => ∃ b, PySem.W.exmOne X.K cls (.ref CS) = some b ∧ (b = true → Q (.str ret) H') ∧ (b = false → False), fun cls d σ' H' ⟨b, e1, e2, e3⟩ => ⟨b, e1, fun hb a _ => e2 hb, fun hb => (e3 hb).elim⟩, h0 f, hc, h⟩
theorem pe_fldK (K : PySem.W.Frag) {e : Expr} {f : Str} {pos : Pos} {ta : TE} (he : PE X e ta) (hb : attributeBase e f X.env (eval e X.env) = eval e X.env) (hK : X.K = K) : PE X (.Attribute e f pos) (tFld K ta f) := by
  subst hK
  exact pe_fld he hb
end
section
variable {σ : L2.St} {H : Hp} {Q : VK} {ta tb : TE}
theorem w_andV (h : ta σ H fun x H1 => ∃ c, x = .bl c ∧ if c = true then tb σ H1 Q else Q (.bl false) H1) : tAndV ta tb σ H Q := h
theorem w_orV (h : ta σ H fun x H1 => ∃ c, x = .bl c ∧ if c = true then Q (.bl true) H1 else tb σ H1 Q) : tOrV ta tb σ H Q := h
theorem w_notV (h : ta σ H fun x H1 => ∃ c, x = .bl c ∧ Q (.bl (!c)) H1) : tNotV ta σ H Q := h
end
end Fw
end

section
-- part K01G
set_option Elab.async false
set_option linter.all false
set_option maxRecDepth 100000
set_option maxHeartbeats 4000000
open PySem PySem.Spec PyProof.Rows L2 Fw
local macro_rules | `(tactic| walk_at "e1") => `(tactic| first
  | ((with_reducible refine' w_var ?hv ?_); (case hv => rfl))
  | with_reducible refine w_c ?_
  | with_reducible refine w_op ?_
  | with_reducible refine w_un ?_
  | with_reducible refine w_cons ?_
  | with_reducible refine w_nil ?_
  | with_reducible refine w_cl ?_
  | with_reducible refine w_cb ?_
  | with_reducible refine w_gname ?_
  | with_reducible refine w_gsub ?_
  | with_reducible refine w_test ?_
  | with_reducible refine w_B ?_
  | with_reducible refine w_bl ?_
  | with_reducible refine w_and ?_
  | with_reducible refine w_or ?_
  | with_reducible refine w_not ?_
  | with_reducible refine w_if ?_
  | with_reducible refine w_I0 ?_
  | with_reducible refine w_ipI ?_
  | with_reducible refine w_eqS ?_
  | with_reducible refine w_neS ?_
  | with_reducible refine w_eqI ?_
  | ((with_reducible refine w_eq ?hs ?_); (case hs => rfl))
  | ((with_reducible refine w_ne ?hs ?_); (case hs => rfl))
  | with_reducible refine w_fld ?_
  | with_reducible refine w_bm ?_
  | with_reducible refine w_bm0 ?_
  | with_reducible refine w_sl ?_
  | with_reducible refine w_part ?_
  | with_reducible refine w_partI ?_
  | with_reducible refine w_nopart ?_
  | ((with_reducible refine' w_ixL ?hh ?ha ?_); (case hh => first | assumption | exact upd_same); (case ha => rfl))
  | ((with_reducible refine' w_setLu ?ha ?_); (case ha => rfl))
  | ((with_reducible refine' w_setL ?hh ?ha ?_); (case hh => first | assumption | exact upd_same); (case ha => rfl))
  | with_reducible refine w_iteT ?_
  | with_reducible refine w_iteF ?_
  | with_reducible refine w_lst ?_
  | with_reducible refine w_tup ?_
  | ((with_reducible refine w_new ?hz ?_); (case hz => rfl))
  | with_reducible refine w_lc ?_
  | with_reducible refine w_iL ?_
  | with_reducible refine w_iT ?_
  | with_reducible refine w_iR1 ?_
  | with_reducible refine w_iR2 ?_
  | with_reducible refine w_yes ?_
  | with_reducible refine w_iStr ?_
  | with_reducible exact tyS
  | with_reducible refine And.intro tyS ?_
  | ((with_reducible refine w_find3 ?_); (first | rw [find3_one] | rw [starts3] | skip))
  | ((with_reducible refine w_2s ?_); (try rw [find_one]))
  | ((with_reducible refine w_inS ?_); rw [S_list])
  | ((with_reducible refine w_lenS ?hz ?_); (case hz => first | assumption | omega | decide); rw [SX.S_len])
  | ((with_reducible refine w_addS ?hz ?_); (case hz => first | assumption | omega | decide); rw [vS_cat])
  | with_reducible refine w_mk ?_
  | with_reducible refine w_me ?_
  | with_reducible refine w_sfld ?_
  | ((with_reducible refine' w_gtup ?hh ?hn ?_); (case hh => first | assumption | exact upd_same); (case hn => rfl))
  | with_reducible refine w_gcons ?_
  | with_reducible refine w_gnil ?_
  | with_reducible refine w_repl ?_
  | with_reducible refine w_chain ?_
  | with_reducible refine w_x1i ?_
  | with_reducible refine w_x1b ?_
  | with_reducible refine w_x1s ?_
  | with_reducible refine w_int1i ?_
  | with_reducible refine w_int1b ?_
  | ((with_reducible refine w_mod ?hc ?_); (case hc => omega))
  | ((with_reducible refine w_fdivW ?hc ?hd ?_); (case hc => omega); (case hd => omega))
  | ((with_reducible refine w_mul ?hc ?_); (case hc => first | exact Or.inr ⟨by decide, by decide⟩ | exact Or.inl ⟨by decide, by decide⟩))
  | ((with_reducible refine w_pow ?hc ?_); (case hc => exact ⟨by decide, by decide, by decide⟩)))
local macro_rules | `(tactic| walk_at "s1") => `(tactic| first
  | with_reducible refine w_seq ?_
  | with_reducible refine w_asg ?_
  | with_reducible refine w_ret ?_
  | with_reducible refine w_drop ?_
  | with_reducible refine w_next ?_
  | with_reducible refine w_ifs ?_
  | ((with_reducible refine' w_aug ?hv ?_); (case hv => rfl))
  | with_reducible refine w_for ?_
  | walk_at "e1")
local macro_rules | `(tactic| walk_at "e") => `(tactic| repeat walk_at "e1")
local macro_rules | `(tactic| walk_at "g") => `(tactic| repeat walk_at "s1")

namespace K01
open Lx
def KW12 : List (List Nat) := [[115, 101, 108, 101, 99, 116], [102, 114, 111, 109], [119, 104, 101, 114, 101], [103, 114, 111, 117, 112], [98, 121], [115, 97, 118, 101, 112, 111, 105, 110, 116], [114, 101, 102, 101, 114, 101, 110, 99, 101, 115], [97, 110, 97, 108, 121, 122, 101], [118, 105, 101, 119], [109, 111, 100], [110, 117, 108, 108], [116, 111]]
def S16 : List (List Nat) := [[60, 61], [62, 61], [60, 62], [124, 124], [61], [60], [62], [43], [45], [42], [47], [40], [41], [44], [46], [59]]
def vars (w : List Nat) : List (List Nat) := [w, w.map up1, (w.take 1).map up1 ++ w.drop 1]
theorem kw_ok : ∀ w ∈ KW12, w.all (· < 128) = true ∧ w.length ≤ 12 ∧ w ≠ [] ∧ ∀ s ∈ vars w, s ≠ [] ∧ isLet (s.headD 0) = true ∧ (∀ c ∈ s.drop 1, isWd c = true) ∧ wordOf (s.map lo1) = w ∧ s.map lo1 = w ∧ s.length ≤ 12 ∧ w ≠ sName := by decide +kernel
theorem sign_ok : ∀ s ∈ S16, s ∈ LONG ++ SHORT ∧ s ≠ sName ∧ s.length ≤ 12 ∧ s.all (· < 128) = true := by decide +kernel
theorem kw_tok {w s : List Nat} (hw : w ∈ KW12) (hs : s ∈ vars w) : TokIs s w (.str (S w)) ∧ s.length ≤ 12 ∧ w ≠ sName := by
  obtain ⟨_, _, _, h⟩ := kw_ok w hw
  obtain ⟨h1, h2, h3, h4, h5, h6, h7⟩ := h s hs
  obtain ⟨c, r, rfl⟩ := List.exists_cons_of_ne_nil h1
  have t := tok_word (c := c) (s := r) h2 h3
  rw [h4, h5] at t
  exact ⟨t, h6, h7⟩
theorem atI_map {α : Type} {f : α → V} {ls : List α} {r : Int} (h0 : 0 ≤ r) (h : r < ls.length) : ∃ x ∈ ls, atI (ls.map f) r = some (f x) := by
  obtain ⟨n, rfl⟩ := Int.eq_ofNat_of_zero_le h0
  have hn : n < ls.length := by omega
  refine ⟨ls[n], List.getElem_mem hn, ?_⟩
  exact atI_nat (by rw [List.getElem?_map, List.getElem?_eq_getElem hn]; rfl)
def SmallL (l : List Nat) : Prop := ∀ c ∈ l, c < 1114112
theorem small_of {l : List Nat} (h : l.all (· < 128) = true) : SmallL l := fun c hc => Nat.lt_trans (of_decide_eq_true (List.all_eq_true.mp h c hc)) (by decide)
def Scal (v : V) : Prop := (∃ l : List Nat, v = .str (S l) ∧ SmallL l) ∨ ∃ n : Int, v = .int n
theorem run_full {p : Nat → Bool} {s : List Nat} (h : ∀ c ∈ s, p c = true) : run p s = s.length := by
  induction s with
  | nil => rfl
  | cons c s ih =>
    rw [run_cons, if_pos (h c List.mem_cons_self), ih fun d hd => h d (List.mem_cons_of_mem _ hd), List.length_cons]
    omega
theorem kw_q {t : List Nat} : (113 :: t) ∉ KW ∧ (113 :: t) ≠ sInt := by
  refine ⟨fun h => ?_, fun h => by cases h⟩
  have h2 : ∀ k ∈ KW, k.head? ≠ some 113 := by decide +kernel
  exact h2 _ h rfl
theorem name_ok {l : List Nat} (hl : ∀ c ∈ l, c ∈ [97, 98, 120, 95, 57, 81]) : TokIs (113 :: l) sName (.str (S ((113 :: l).map lo1))) ∧ plain ((113 :: l).map lo1) = true ∧ (113 :: l).all (· < 128) = true ∧ SmallL ((113 :: l).map lo1) := by
  have h1 : ∀ c ∈ [97, 98, 120, 95, 57, 81], isWd c = true ∧ c < 128 ∧ lo1 c ∈ (small ++ digits) ++ [95] ∧ lo1 c < 1114112 := by decide +kernel
  have t := tok_word (c := 113) (s := l) (by decide +kernel) fun d hd => (h1 d (hl d hd)).1
  have e : (113 :: l).map lo1 = 113 :: l.map lo1 := rfl
  refine ⟨?_, ?_, ?_, ?_⟩
  · rw [e] at t ⊢
    rw [wordOf, if_neg kw_q.2, if_neg kw_q.1] at t
    exact t
  · rw [e, plain, if_neg (by decide), if_neg kw_q.1]
    refine decide_eq_true (run_full fun c hc => ?_)
    rcases List.mem_cons.mp hc with rfl | hc
    · decide +kernel
    · obtain ⟨b, hb, rfl⟩ := List.mem_map.mp hc
      exact decide_eq_true (h1 b (hl b hb)).2.2.1
  · refine List.all_eq_true.mpr fun c hc => ?_
    rcases List.mem_cons.mp hc with rfl | hc
    · decide
    · exact decide_eq_true (h1 c (hl c hc)).2.1
  · intro c hc
    rw [e] at hc
    rcases List.mem_cons.mp hc with rfl | hc
    · decide
    · obtain ⟨b, hb, rfl⟩ := List.mem_map.mp hc
      exact (h1 b (hl b hb)).2.2.2
-- _law_token: 0:dice 1:keywords 2:signs 3:sort 4:word 5:sign 6:number 7:text 8:k 9:name
abbrev s__law_token : Stmt := top 36
theorem sc__law_token : FnScope ["dice", "keywords", "signs", "sort", "word", "sign", "number", "text", "k", "name"] ["dice"] (defScope s__law_token) := ⟨rfl, rfl, rfl, by decide +kernel, rfl, by decide +kernel, by decide +kernel⟩
structure Wk (K : PySem.W.Frag) (mg : Str → Option Value) (cTE cTk aL aS aK : Addr) : Prop extends Wt K mg cTE cTk aL aS aK where
  d__law_token : FnP K mg "_law_token" s__law_token
section
variable {P : Program} {w : World} {K : PySem.W.Frag} {mg : Str → Option Value} {base : Heap} {cTE cTk aL aS aK : Addr}
/-- a token drawn: how it is written, its class, its value -/
def spToken : Sp := fun vs H Q _ => ∃ d : Addr, vs = [.ref d] ∧ Dice H d ∧ ∀ (p : Addr) (H' : Hp) (s tw : List Nat) (v : V), Kp d H H' → H p = none → H' p = some (.tup [.str (S s), .str (S tw), v]) → Dice H' d → TokIs s tw v → s.length ≤ 30 → SmallL tw → Scal v →
  (tw = sName → ∃ nm, v = .str (S nm) ∧ plain nm = true ∧ nm.length ≤ 30) → Q (.ref p) H'
theorem ok__law_token (W : Wk K mg cTE cTk aL aS aK) (c__law_roll : Cl P w K mg base 1 "_law_roll" spRoll) : Cl P w K mg base 2 "_law_token" spToken := by
  refine cl_mk W.d__law_token sc__law_token (fun _ _ _ _ _ _ us hl => match us, hl with | [_], _ => rfl) (fun vs H Q E h => ?_) (fun f cdv A outer s H vs Q E hr h => ?_)
  · obtain ⟨d, rfl, _⟩ := h; rfl
  obtain ⟨d, rfl, ⟨a, b, c, hd⟩, q⟩ := h
  refine ⟨_, (pss_cons (ps_set (i := 1) sc__law_token.nd rfl (Or.inl rfl) (pe_lst (pa_cons pe_str (pa_cons pe_str (pa_cons pe_str (pa_cons pe_str (pa_cons pe_str (pa_cons pe_str (pa_cons pe_str (pa_cons pe_str (pa_cons pe_str (pa_cons pe_str (pa_cons pe_str (pa_cons pe_str pa_nil))))))))))))))
    (pss_cons (ps_set (i := 2) sc__law_token.nd rfl (Or.inl rfl) (pe_lst (pa_cons pe_str (pa_cons pe_str (pa_cons pe_str (pa_cons pe_str (pa_cons pe_str (pa_cons pe_str (pa_cons pe_str (pa_cons pe_str (pa_cons pe_str (pa_cons pe_str (pa_cons pe_str (pa_cons pe_str (pa_cons pe_str (pa_cons pe_str (pa_cons pe_str (pa_cons pe_str pa_nil))))))))))))))))))
    (pss_cons (ps_set (i := 3) sc__law_token.nd rfl (Or.inl rfl) (pe_cl c__law_roll hr (by decide) rfl passL (pa_cons (pv 0) (pa_cons pe_int pa_nil))))
    (pss_cons (ps_if (pt_cmpR op_eq (pv 3) pe_int (nomark _))
    (pss_cons (ps_set (i := 4) sc__law_token.nd rfl (Or.inl rfl) (pe_ix ix_list (pv 1) (pe_cl c__law_roll hr (by decide) rfl passL (pa_cons (pv 0) (pa_cons pe_int pa_nil))) (fun _ _ => rfl)))
    (pss_one (ps_ret (pe_tup (pa_cons (pe_ix ix_list (pe_lst (pa_cons (pv 4) (pa_cons (pe_bm0 PySem.F.plainAttrs_str PySem.F.slot_str_upper PySem.F.type_str_upper mt_upper (pv 4)) (pa_cons (pe_op op_add_str (pe_bm0 PySem.F.plainAttrs_str PySem.F.slot_str_upper PySem.F.type_str_upper mt_upper (pe_ix ix_str (pv 4) pe_int (fun _ _ => rfl))) (pe_slice sl_str (pv 4) (po_some pe_int) po_none)) pa_nil)))) (pe_cl c__law_roll hr (by decide) rfl passL (pa_cons (pv 0) (pa_cons pe_int pa_nil))) (fun _ _ => rfl)) (pa_cons (pv 4) (pa_cons (pv 4) pa_nil)))))))
    pss_nil)
    (pss_cons (ps_if (pt_cmpR op_eq (pv 3) pe_int (nomark _))
    (pss_cons (ps_set (i := 5) sc__law_token.nd rfl (Or.inl rfl) (pe_ix ix_list (pv 2) (pe_cl c__law_roll hr (by decide) rfl passL (pa_cons (pv 0) (pa_cons pe_int pa_nil))) (fun _ _ => rfl)))
    (pss_one (ps_ret (pe_tup (pa_cons (pv 5) (pa_cons (pv 5) (pa_cons (pv 5) pa_nil)))))))
    pss_nil)
    (pss_cons (ps_if (pt_cmpR op_eq (pv 3) pe_int (nomark _))
    (pss_cons (ps_set (i := 6) sc__law_token.nd rfl (Or.inl rfl) (pe_ix ix_list (pe_lst (pa_cons (pe_cl c__law_roll hr (by decide) rfl passL (pa_cons (pv 0) (pa_cons pe_int pa_nil))) (pa_cons (pe_op op_sub pe_int (pe_cl c__law_roll hr (by decide) rfl passL (pa_cons (pv 0) (pa_cons pe_int pa_nil)))) pa_nil))) (pe_cl c__law_roll hr (by decide) rfl passL (pa_cons (pv 0) (pa_cons pe_int pa_nil))) (fun _ _ => rfl)))
    (pss_one (ps_ret (pe_tup (pa_cons (pe_callTy call_str_int rfl W.n_str (by decide +kernel) (pa_cons (pv 6) pa_nil)) (pa_cons pe_str (pa_cons (pv 6) pa_nil)))))))
    pss_nil)
    (pss_cons (ps_if (pt_cmpR op_eq (pv 3) pe_int (nomark _))
    (pss_cons (ps_set (i := 7) sc__law_token.nd rfl (Or.inl rfl) (pe_bm PySem.F.plainAttrs_str PySem.F.slot_str_join PySem.F.type_str_join mt_join pe_str (pa_cons (pe_lc (own := [("k", 8)]) rfl sc__law_token.nd (pi_range1 rfl W.n_range (pa_cons (pe_cl c__law_roll hr (by decide) rfl passL (pa_cons (pv 0) (pa_cons pe_int pa_nil))) pa_nil)) (blkOk_by (own := [("k", 8)]) (N := ["dice", "keywords", "signs", "sort", "word", "sign", "number", "text", "k", "name"]) (sc := defScope s__law_token) (by decide +kernel)) (fun _ _ _ _ _ => (pg_name (i := 8) sc__law_token.nd rfl (Or.inl rfl))) (fun _ _ _ _ _ => pts_nil) (fun _ _ _ _ _ => (pe_ix ix_str pe_str (pe_cl c__law_roll hr (by decide) rfl passL (pa_cons (pv 0) (pa_cons pe_int pa_nil))) (fun _ _ => rfl)))) pa_nil)))
    (pss_one (ps_ret (pe_tup (pa_cons (pe_op op_add_str (pe_opStr op_add_str (CwR.pet_replC (pv 7))) pe_str) (pa_cons pe_str (pa_cons (pv 7) pa_nil)))))))
    pss_nil)
    (pss_cons (ps_set (i := 9) sc__law_token.nd rfl (Or.inl rfl) (pe_bm PySem.F.plainAttrs_str PySem.F.slot_str_join PySem.F.type_str_join mt_join pe_str (pa_cons (pe_lc (own := [("k", 8)]) rfl sc__law_token.nd (pi_range1 rfl W.n_range (pa_cons (pe_op op_add pe_int (pe_cl c__law_roll hr (by decide) rfl passL (pa_cons (pv 0) (pa_cons pe_int pa_nil)))) pa_nil)) (blkOk_by (own := [("k", 8)]) (N := ["dice", "keywords", "signs", "sort", "word", "sign", "number", "text", "k", "name"]) (sc := defScope s__law_token) (by decide +kernel)) (fun _ _ _ _ _ => (pg_name (i := 8) sc__law_token.nd rfl (Or.inl rfl))) (fun _ _ _ _ _ => pts_nil) (fun _ _ _ _ _ => (pe_ix ix_str pe_str (pe_cl c__law_roll hr (by decide) rfl passL (pa_cons (pv 0) (pa_cons pe_int pa_nil))) (fun _ _ => rfl)))) pa_nil)))
    (pss_cons (ps_set (i := 9) sc__law_token.nd rfl (Or.inl rfl) (pe_op op_add_str pe_str (pv 9)))
    (pss_one (ps_ret (pe_tup (pa_cons (pv 9) (pa_cons pe_str (pa_cons (pe_bm0 PySem.F.plainAttrs_str PySem.F.slot_str_lower PySem.F.type_str_lower mt_lower (pv 9)) pa_nil))))))))))))))), ?_⟩
  walk_at "g"
  intro p1 hp1
  generalize hX : upd H p1 _ = H1
  have s1 : Same H H1 := hX ▸ same_new hp1 _
  have k1 : H1 p1 = some (.lst (KW12.map fun l => V.str (S l))) := by rw [← hX, upd_same]; rfl
  clear hX
  walk_at "g"
  intro p2 hp2
  generalize hX : upd H1 p2 _ = H2
  have s2 : Same H1 H2 := hX ▸ same_new hp2 _
  have k2 : H2 p2 = some (.lst (S16.map fun l => V.str (S l))) := by rw [← hX, upd_same]; rfl
  clear hX
  have d0 : Dice H2 d := ⟨a, b, c, s2 _ _ (s1 _ _ hd)⟩
  have kp0 : Kp d H H2 := Kp.of (s1.trans s2)
  have n1 : p1 ≠ d := (ne_of_none hd hp1).symm
  have n2 : p2 ≠ d := (ne_of_none (s1 _ _ hd) hp2).symm
  replace k1 := s2 _ _ k1
  clear hd s1 s2 hp1 hp2
  walk_at "g"
  refine w_roll (by decide) (by decide) kp0 d0 fun r H3 r0 r1 kp kp' dd => ?_
  replace k1 := kp' _ _ n1 k1
  replace k2 := kp' _ _ n2 k2
  clear kp' kp0 d0
  walk_at "g"
  refine w_iteD (fun c1 => ?_) (fun c1 => ?_)
  · walk_at "g"
    refine w_roll (by decide) (by decide) kp dd fun i H4 i0 i1 kp kp' dd => ?_
    replace k1 := kp' _ _ n1 k1
    obtain ⟨wd, hw, ew⟩ := atI_map (f := fun l => V.str (S l)) (ls := KW12) i0 i1
    refine w_ixL k1 ew ?_
    obtain ⟨ha, hl, hne, _⟩ := kw_ok wd hw
    obtain ⟨c0, t0, rfl⟩ := List.exists_cons_of_ne_nil hne
    have hz : (c0 :: t0).length ≤ sizeLine := Nat.le_trans hl (by decide)
    have ha1 : [c0].all (· < 128) = true := by simp only [List.all_cons, Bool.and_eq_true] at ha ⊢; exact ⟨ha.1, rfl⟩
    walk_at "g"
    refine ⟨S (c0 :: t0), rfl, rfl, by rw [SX.S_len]; exact Nat.le_trans hl (by decide), ?_⟩
    rw [show Txt.upper (S (c0 :: t0)) = _ from SX.upper_S ha]
    walk_at "g"
    refine w_ixS hz (i := 0) rfl ?_
    walk_at "g"
    refine ⟨S [c0], rfl, rfl, by rw [SX.S_len]; exact (by decide : (1 : Nat) ≤ 5592405), ?_⟩
    rw [show Txt.upper (S [c0]) = _ from SX.upper_S ha1]
    walk_at "g"
    refine w_slS1 (i := 1) hz (by simp) ?_
    walk_at "g"
    refine w_addS (by rw [List.length_map, List.length_drop, List.length_singleton]; rw [List.length_cons] at hz ⊢; omega) ?_
    rw [SX.S_cat]
    walk_at "g"
    intro p3 hp3
    generalize hX : upd H4 p3 _ = H5
    obtain ⟨kp, kp', dd, n3, _, k3⟩ := newl kp dd hp3 hX
    clear hX
    walk_at "g"
    refine w_roll (by decide) (by decide) kp dd fun j H6 j0 j1 kp kp' dd => ?_
    replace k3 := kp' _ _ n3 k3
    obtain ⟨s, hs, es⟩ := atI_map (f := fun l => V.str (S l)) (ls := vars (c0 :: t0)) j0 j1
    refine w_ixL k3 es ?_
    walk_at "g"
    obtain ⟨t1, t2, t3⟩ := kw_tok hw hs
    intro p4 hp4
    obtain ⟨kp, kp', dd, n4, f4, k4⟩ := newl kp dd hp4 rfl
    exact q p4 _ s _ _ kp f4 k4 dd t1 (Nat.le_trans t2 (by decide)) (small_of ha) (.inl ⟨_, rfl, small_of ha⟩) fun e => absurd e t3
  walk_at "g"
  refine w_iteD (fun c2 => ?_) (fun c2 => ?_)
  · walk_at "g"
    refine w_roll (by decide) (by decide) kp dd fun i H4 i0 i1 kp kp' dd => ?_
    replace k2 := kp' _ _ n2 k2
    obtain ⟨s, hs, es⟩ := atI_map (f := fun l => V.str (S l)) (ls := S16) i0 i1
    refine w_ixL k2 es ?_
    walk_at "g"
    intro p4 hp4
    obtain ⟨kp, kp', dd, n4, f4, k4⟩ := newl kp dd hp4 rfl
    obtain ⟨t1, t3, t2, t4⟩ := sign_ok s hs
    exact q p4 _ s _ _ kp f4 k4 dd (tok_sign t1) (Nat.le_trans t2 (by decide)) (small_of t4) (.inl ⟨_, rfl, small_of t4⟩) fun e => absurd e t3
  walk_at "g"
  refine w_iteD (fun c3 => ?_) (fun c3 => ?_)
  · walk_at "g"
    refine w_roll (by decide) (by decide) kp dd fun i H4 i0 i1 kp kp' dd => ?_
    walk_at "g"
    refine w_roll (by decide) (by decide) kp dd fun j H5 j0 j1 kp kp' dd => ?_
    walk_at "g"
    intro p3 hp3
    generalize hX : upd H5 p3 _ = H6
    obtain ⟨kp, kp', dd, n3, _, k3⟩ := newl kp dd hp3 hX
    clear hX
    walk_at "g"
    refine w_roll (by decide) (by decide) kp dd fun u H7 u0 u1 kp kp' dd => ?_
    replace k3 := kp' _ _ n3 k3
    obtain ⟨n, hn, en⟩ := atI_map (f := fun n => V.int n) (ls := [i, 9223372036854775807 - j]) u0 u1
    refine w_ixL k3 en ?_
    obtain ⟨m, rfl, hm⟩ : ∃ m : Nat, n = (m : Int) ∧ m ≤ 9223372036854775807 := by
      rcases List.mem_cons.mp hn with rfl | hn
      · exact ⟨n.toNat, by omega, by omega⟩
      · rw [List.mem_singleton.mp hn]
        exact ⟨(9223372036854775807 - j).toNat, by omega, by omega⟩
    walk_at "g"
    refine ⟨?_, ?_⟩
    · by_cases hz : m = 0
      · subst hz
        decide
      · rw [Int.natAbs_natCast]
        have := (Nat.log2_lt hz (k := 64)).mpr (Nat.lt_of_le_of_lt hm (by decide))
        omega
    rw [show Str.ofString (toString ((m : Nat) : Int)) = _ from SX.num_S m]
    walk_at "g"
    intro p4 hp4
    obtain ⟨kp, kp', dd, n4, f4, k4⟩ := newl kp dd hp4 rfl
    exact q p4 _ _ sInt _ kp f4 k4 dd (tok_num m hm) (Nat.le_trans (TL.numL_len (k := 19) (by decide) (Nat.lt_of_le_of_lt hm (by decide))) (by decide)) (small_of (by decide)) (.inr ⟨_, rfl⟩) fun e => absurd e (by decide)
  walk_at "g"
  refine w_iteD (fun c4 => ?_) (fun c4 => ?_)
  · walk_at "g"
    refine w_roll (by decide) (by decide) kp dd fun i H4 i0 i1 kp kp' dd => ?_
    walk_at "g"
    refine' w_draws (cs := [97, 90, 32, 39, 95, 57, 46, 126, 42]) ?hx ?hm ?h0 ?h1 ⟨i0, by omega⟩ kp dd ?hs ?hw fun D H5 l kp kp' dd eD hl hn => ?_
    case hx => rfl
    case hm => rfl
    case h0 => decide
    case h1 => decide
    case hs => exact fun _ => rfl
    case hw => exact fun _ => rfl
    walk_at "g"
    have jj := join1 (K := K) (l := l) (by omega) eD
    refine ⟨S [], D, l.map (fun c => S [c]), rfl, rfl, .inl jj.1, jj.2.1, ?_⟩
    rw [jj.2.2]
    walk_at "g"
    have hl7 : l.length ≤ 6 := by omega
    have hd2 := dbl_len 39 l
    have e2 : (Str.ofString "''").length = 2 := rfl
    refine ⟨S l, rfl, by rw [e2, SX.S_len]; omega, ?_⟩
    rw [show Txt.replace (S l) (Str.ofString "'") (Str.ofString "''") = _ from repl_dbl l]
    refine ⟨S [39], _, rfl, rfl, by rw [SX.S_len, SX.S_len]; exact Nat.le_trans (by simp only [List.length_singleton]; omega : _ ≤ 1000) (by decide), ?_⟩
    rw [show (S [39] ++ S (StrLaws.dbl 39 l) : Str) = _ from SX.S_cat _ _]
    walk_at "g"
    refine ⟨_, S [39], rfl, rfl, by rw [SX.S_len, SX.S_len]; exact Nat.le_trans (by simp only [List.length_append, List.length_singleton]; omega : _ ≤ 1000) (by decide), ?_⟩
    rw [show (SX.S ([39] ++ StrLaws.dbl 39 l) ++ S [39] : Str) = _ from SX.S_cat _ _]
    walk_at "g"
    intro p4 hp4
    obtain ⟨kp, kp', dd, n4, f4, k4⟩ := newl kp dd hp4 rfl
    have h9 : ∀ c ∈ [97, 90, 32, 39, 95, 57, 46, 126, 42], c ∈ alphabet ∧ c < 128 := by decide
    refine q p4 _ _ sQuoted _ kp f4 k4 dd (tok_quoted fun c hc => ?_) (by simp only [List.length_append, List.length_singleton]; omega) (small_of (by decide)) (.inl ⟨_, rfl, fun c hc => Nat.lt_trans (h9 c (hl c hc)).2 (by decide)⟩) fun e => absurd e (by decide)
    exact (h9 c (hl c hc)).1
  walk_at "g"
  refine w_roll (by decide) (by decide) kp dd fun i H4 i0 i1 kp kp' dd => ?_
  walk_at "g"
  refine' w_draws (cs := [97, 98, 120, 95, 57, 81]) ?hx ?hm ?h0 ?h1 ⟨by omega, by omega⟩ kp dd ?hs ?hw fun D H5 l kp kp' dd eD hl hn => ?_
  case hx => rfl
  case hm => rfl
  case h0 => decide
  case h1 => decide
  case hs => exact fun _ => rfl
  case hw => exact fun _ => rfl
  walk_at "g"
  have jj := join1 (K := K) (l := l) (by omega) eD
  refine ⟨S [], D, l.map (fun c => S [c]), rfl, rfl, .inl jj.1, jj.2.1, ?_⟩
  rw [jj.2.2]
  walk_at "g"
  have hl6 : l.length ≤ 6 := by omega
  refine ⟨S [113], _, rfl, rfl, by rw [SX.S_len, SX.S_len]; exact Nat.le_trans (by simp only [List.length_singleton]; omega : _ ≤ 1000) (by decide), ?_⟩
  rw [show (S [113] ++ S l : Str) = _ from SX.S_cat _ _]
  obtain ⟨t1, t2, t3, t4⟩ := name_ok hl
  walk_at "g"
  refine ⟨S (113 :: l), rfl, rfl, by rw [SX.S_len]; exact Nat.le_trans (by rw [List.length_cons]; omega : _ ≤ 1000) (by decide), ?_⟩
  rw [show Txt.lower (S (113 :: l)) = _ from SX.lower_S t3]
  walk_at "g"
  intro p4 hp4
  obtain ⟨kp, kp', dd, n4, f4, k4⟩ := newl kp dd hp4 rfl
  exact q p4 _ (113 :: l) sName _ kp f4 k4 dd t1 (by rw [List.length_cons]; omega) (small_of (by decide)) (.inl ⟨_, rfl, t4⟩) fun _ => ⟨_, rfl, t2, by rw [List.length_map, List.length_cons]; omega⟩
end
end K01
end

section
-- part Fs4
set_option Elab.async false
set_option linter.all false
set_option maxRecDepth 100000
set_option maxHeartbeats 2000000
namespace K01
open PySem PySem.Spec PyProof.Rows L2 Fw
/-- tuples stand at these addresses -/
def DueAll (H : Hp) : List Addr → List (List Nat × V × Nat) → Prop := Paired fun x t => H x = some (.tup [.str (S t.1), t.2.1, .int (t.2.2 : Int)])
theorem DueAll.up {H H' : Hp} : ∀ {xs : List Addr} {ts : List (List Nat × V × Nat)}, DueAll H xs ts → (∀ x ∈ xs, ∀ ys, H x = some (.tup ys) → H' x = some (.tup ys)) → DueAll H' xs ts
  | _, _, .nil, _ => .nil
  | _, _, .cons h r, e => .cons (e _ List.mem_cons_self _ h) (DueAll.up r fun x hx => e x (List.mem_cons_of_mem _ hx))
theorem DueAll.snoc {H : Hp} {x : Addr} {t : List Nat × V × Nat} (h : H x = some (.tup [.str (S t.1), t.2.1, .int (t.2.2 : Int)])) : ∀ {xs : List Addr} {ts : List (List Nat × V × Nat)}, DueAll H xs ts → DueAll H (xs ++ [x]) (ts ++ [t])
  | _, _, .nil => .cons h .nil
  | _, _, .cons a r => .cons a (DueAll.snoc h r)
theorem DueAll.kp {H H' : Hp} {d : Addr} {xs : List Addr} {ts : List (List Nat × V × Nat)} (h : DueAll H xs ts) (k : Kp d H H') (hd : Dice H d) : DueAll H' xs ts := h.up fun x _ ys e => by
  obtain ⟨a, b, c, q⟩ := hd
  exact k _ _ (fun n => by rw [n, q] at e; cases e) e
theorem DueAll.ne {H : Hp} {L : Addr} {zs : List V} {xs : List Addr} {ts : List (List Nat × V × Nat)} {zs' : List V} (h : DueAll H xs ts) (e : H L = some (.lst zs)) : DueAll (upd H L (.lst zs')) xs ts := h.up fun x _ ys q => by
  rw [upd_ne (fun n => by rw [n, e] at q; cases q)]
  exact q
/-- the token's data are plain -/
def TokS (t : List Nat × V × Nat) : Prop := SmallL t.1 ∧ (Scal t.2.1 ∨ t.2.1 = .non)
/-- data of a token -/
def vD : V → PyData
  | .str x => .str x
  | .int n => .int n
  | _ => .none
def tokD (t : List Nat × V × Nat) : PyData := .tuple [.str (S t.1), vD t.2.1, .int (t.2.2 : Int)]
theorem dp_due {K : PySem.W.Frag} {H : Hp} : ∀ {xs : List Addr} {ts : List (List Nat × V × Nat)}, DueAll H xs ts → (∀ t ∈ ts, TokS t) → DpAll K H (xs.map V.ref) (ts.map tokD)
  | _, _, .nil, _ => .nil
  | _, _, .cons (a := x) (b := t) h r, e => by
    refine .cons (.tup (SqT.of h) (.cons (.str _) (.cons ?_ (.cons (.int _) .nil)))) (dp_due r fun u hu => e u (List.mem_cons_of_mem _ hu))
    rcases (e t List.mem_cons_self).2 with (⟨l, q, _⟩ | ⟨n, q⟩) | q
    · rw [q]; exact .str _
    · rw [q]; exact .int _
    · rw [q]; exact .non
theorem strOk_of {l : List Nat} (h : SmallL l) : PyData.strOk (S l) = true := by
  have e : (S l).cps.toList = l := S_list l
  show (S l).cps.all _ = true
  rw [← Array.all_toList, e]
  exact List.all_eq_true.mpr fun c hc => decide_eq_true (h c hc)
theorem vD_lay {v : V} (h : Scal v ∨ v = .non) : PyData.canLay0 (vD v) = true := by
  rcases h with (⟨l, rfl, h⟩ | ⟨n, rfl⟩) | rfl
  · exact strOk_of h
  · rfl
  · rfl
theorem vD_dep (v : V) : PyData.depth (vD v) ≤ 1 := by cases v <;> simp [vD, PyData.depth]
theorem tok_lay : ∀ ts : List (List Nat × V × Nat), (∀ t ∈ ts, TokS t) → PyData.canLayAll0 (ts.map tokD) = true
  | [], _ => rfl
  | t :: r, ok => by
    have h1 := tok_lay r fun u hu => ok u (List.mem_cons_of_mem _ hu)
    have h2 := vD_lay (ok t List.mem_cons_self).2
    have h3 := strOk_of (ok t List.mem_cons_self).1
    simp [List.map_cons, PyData.canLayAll0, tokD, PyData.canLay0, h1, h2, h3]
theorem tok_dep (ts : List (List Nat × V × Nat)) : PyData.depthAll (ts.map tokD) ≤ 4 := by
  induction ts with
  | nil => simp [PyData.depthAll]
  | cons t r ih =>
    have := vD_dep t.2.1
    simp only [List.map_cons, PyData.depthAll, tokD, PyData.depth]
    omega
theorem shaped_toks {ts : List (List Nat × V × Nat)} (ok : ∀ t ∈ ts, TokS t) : SeqAt.shaped (.list (ts.map tokD)) = true := by
  unfold SeqAt.shaped
  rw [Bool.and_eq_true]
  refine ⟨tok_lay ts ok, decide_eq_true ?_⟩
  have := tok_dep ts
  simp only [PyData.depth]
  omega
theorem w_neToks {K : PySem.W.Frag} {H : Hp} {A B : Addr} {xs ys : List Addr} {ts : List (List Nat × V × Nat)} {Q : VK} (hA : H A = some (.lst (xs.map V.ref))) (hB : H B = some (.lst (ys.map V.ref))) (dA : DueAll H xs ts) (dB : DueAll H ys ts) (ok : ∀ t ∈ ts, TokS t)
    (q : Q (.bl false) H) : rNeD K (.ref A) (.ref B) H Q := by
  refine ⟨_, _, .lst (SqL.of hA) (dp_due dA ok), .lst (SqL.of hB) (dp_due dB ok), shaped_toks ok, shaped_toks ok, ?_⟩
  rw [SeqAt.eqv_refl _ (SeqAt.canLay_of_shaped (shaped_toks ok))]
  exact q
theorem TokAll.same {C : Addr} {H H' : Hp} {xs : List Addr} {ts : List (List Nat × V × Nat)} (h : TokAll C H xs ts) (e : Same H H') : TokAll C H' xs ts := h.up fun x _ o q => e _ _ q
theorem DueAll.same {H H' : Hp} {xs : List Addr} {ts : List (List Nat × V × Nat)} (h : DueAll H xs ts) (e : Same H H') : DueAll H' xs ts := h.up fun x _ o q => e _ _ q
theorem paired_get {α β : Type} {F : α → β → Prop} : ∀ {xs : List α} {ys : List β}, Paired F xs ys → ∀ {i : Nat} {x : α}, xs[i]? = some x → ∃ y, ys[i]? = some y ∧ F x y
  | _, _, .nil, i, x, h => by cases h
  | _, _, .cons a r, 0, x, h => by cases h; exact ⟨_, rfl, a⟩
  | _, _, .cons a r, i + 1, x, h => paired_get r (i := i) h
section
variable {K : PySem.W.Frag} {σ : L2.St} {H : Hp} {te : TE} {vs : List Nat}
/-- [a tuple of the token for token in ..] -/
theorem w_tups {cTk F : Addr} {ys : List Addr} {ts : List (List Nat × V × Nat)} {k : Nat} {R : Addr → Hp → Prop} (eF : H F = some (.lst (ys.map V.ref))) (tA : TokAll cTk H ys ts) (h1000 : ys.length ≤ 1000) (hw : ∀ v, wipe ((wipe σ vs).set k (some v)) vs = wipe σ vs)
    (hel : ∀ (y : Addr) (w : List Nat) (v : V) (n : Nat) (H2 : Hp) (Q : VK), TokO cTk H2 y (.str (S w)) v (.int (n : Int)) → (∀ q, H2 q = none → Q (.ref q) (upd H2 q (.tup [.str (S w), v, .int (n : Int)]))) → te ((wipe σ vs).set k (some (.ref y))) H2 Q)
    (h : ∀ (D : Addr) (H' : Hp) (zs : List Addr), Same H H' → H D = none → H' D = some (.lst (zs.map V.ref)) → DueAll H' zs ts → R D H') :
    ∃ a, V.ref F = .ref a ∧ (∃ xs, SqL K H a xs) ∧ ∀ D, H D = none → ∃ W : Nat → Nat → Hp → Prop, (∃ m, W 0 m (upd H D (.lst []))) ∧ ∀ i m H, W i m H →
      ((Itl K a).stop i H ∧ R D H) ∨ ((Itl K a).go i H ∧ ∃ Nx : Hp → Prop, (∀ H', Nx H' → ∃ m', m' < m ∧ W (i + 1) m' H') ∧ ∀ x H', (Itl K a).yld i H x H' → gName k x (wipe σ vs) H' fun σ2 H2 => wipe σ2 vs = wipe σ vs ∧ tYes σ2 H2 fun b H3 =>
        if b = true then te σ2 H3 fun y H4 => ∃ acc, H4 D = some (.lst acc) ∧ acc.length < sizeLine ∧ Nx (upd H4 D (.lst (acc ++ [y]))) else Nx H3) := by
  have key := w_lcL (K := K) (σ := σ) (vs := vs) (g := gName k) (tt := tYes) (te := te) (Q := fun v H => ∀ D, v = .ref D → R D H) (SqL.of eF) fun D hD => by
    refine ⟨fun i H2 => ∃ zs : List Addr, zs.length = i ∧ Same H H2 ∧ H2 D = some (.lst (zs.map V.ref)) ∧ DueAll H2 zs (ts.take i), ⟨[], rfl, same_new hD _, upd_same, .nil⟩, fun i H2 _ ⟨zs, _, s, _⟩ => SqL.of (s _ _ eF), ?_, ?_⟩
    · rintro i x H2 hi ⟨zs, rfl, s2, eD, dA⟩
      obtain ⟨y, hy, rfl⟩ : ∃ y, ys[zs.length]? = some y ∧ x = V.ref y := by
        rw [List.getElem?_map] at hi
        cases e : ys[zs.length]? with
        | none => rw [e] at hi; cases hi
        | some y => rw [e] at hi; exact ⟨y, rfl, (Option.some.inj hi).symm⟩
      obtain ⟨t, ht, tO⟩ := paired_get (tA.same s2) hy
      refine w_gname ⟨hw _, w_yes ?_⟩
      rw [if_pos rfl]
      refine hel y t.1 t.2.1 t.2.2 H2 _ tO fun q hq => ?_
      have nq : D ≠ q := ne_of_none eD hq
      have hlt : zs.length < ys.length := (List.getElem?_eq_some_iff.mp hy).1
      refine ⟨zs.map V.ref, by rw [upd_ne nq]; exact eD, by rw [List.length_map]; exact Nat.lt_of_lt_of_le (by omega : zs.length < 1000) (by decide), zs ++ [q], by simp, ?_, by rw [upd_same, List.map_append]; rfl, ?_⟩
      · exact same_upd (s2.trans (same_new hq _)) hD
      · have e1 : ts.take (zs.length + 1) = ts.take zs.length ++ [t] := by rw [List.take_add_one, ht]; rfl
        rw [e1]
        have d1 : DueAll (upd H2 q (.tup [.str (S t.1), t.2.1, .int (t.2.2 : Int)])) (zs ++ [q]) (ts.take zs.length ++ [t]) := (dA.same (same_new hq _)).snoc upd_same
        exact d1.ne (zs := zs.map V.ref) (by rw [upd_ne nq]; exact eD)
    · rintro H2 ⟨zs, el, s2, eD, dA⟩ D' e
      cases e
      rw [List.length_map] at el dA
      rw [List.take_of_length_le (by rw [← tA.length]; exact Nat.le_refl _)] at dA
      exact h D H2 zs s2 hD eD dA
  obtain ⟨a, e, x, r⟩ := key
  cases e
  refine ⟨F, rfl, x, fun D hD => ?_⟩
  obtain ⟨W, w1, w2⟩ := r D hD
  refine ⟨W, w1, fun i m H hw => ?_⟩
  rcases w2 i m H hw with ⟨x, y⟩ | x
  · exact .inl ⟨x, y D rfl⟩
  · exact .inr x
end
end K01
end

section
-- part K01H
set_option Elab.async false
set_option linter.all false
set_option maxRecDepth 100000
set_option maxHeartbeats 800000
open PySem PySem.Spec PyProof.Rows L2 Fw
local macro_rules | `(tactic| walk_at "e1") => `(tactic| first
  | ((with_reducible refine' w_var ?hv ?_); (case hv => rfl))
  | with_reducible refine w_c ?_
  | with_reducible refine w_op ?_
  | with_reducible refine w_un ?_
  | with_reducible refine w_cons ?_
  | with_reducible refine w_nil ?_
  | with_reducible refine w_cl ?_
  | with_reducible refine w_cb ?_
  | with_reducible refine w_gname ?_
  | with_reducible refine w_gsub ?_
  | with_reducible refine w_test ?_
  | with_reducible refine w_B ?_
  | with_reducible refine w_bl ?_
  | with_reducible refine w_and ?_
  | with_reducible refine w_or ?_
  | with_reducible refine w_not ?_
  | with_reducible refine w_if ?_
  | with_reducible refine w_I0 ?_
  | with_reducible refine w_ipI ?_
  | with_reducible refine w_eqS ?_
  | with_reducible refine w_neS ?_
  | with_reducible refine w_eqI ?_
  | ((with_reducible refine w_eq ?hs ?_); (case hs => rfl))
  | ((with_reducible refine w_ne ?hs ?_); (case hs => rfl))
  | with_reducible refine w_fld ?_
  | with_reducible refine w_bm ?_
  | with_reducible refine w_bm0 ?_
  | with_reducible refine w_sl ?_
  | with_reducible refine w_part ?_
  | with_reducible refine w_partI ?_
  | with_reducible refine w_nopart ?_
  | ((with_reducible refine' w_ixL ?hh ?ha ?_); (case hh => first | assumption | exact upd_same); (case ha => rfl))
  | ((with_reducible refine' w_setLu ?ha ?_); (case ha => rfl))
  | ((with_reducible refine' w_setL ?hh ?ha ?_); (case hh => first | assumption | exact upd_same); (case ha => rfl))
  | with_reducible refine w_iteT ?_
  | with_reducible refine w_iteF ?_
  | with_reducible refine w_lst ?_
  | with_reducible refine w_tup ?_
  | ((with_reducible refine w_new ?hz ?_); (case hz => rfl))
  | with_reducible refine w_lc ?_
  | with_reducible refine w_iL ?_
  | with_reducible refine w_iT ?_
  | with_reducible refine w_iR1 ?_
  | with_reducible refine w_iR2 ?_
  | with_reducible refine w_yes ?_
  | with_reducible refine w_iStr ?_
  | with_reducible exact tyS
  | with_reducible refine And.intro tyS ?_
  | ((with_reducible refine w_find3 ?_); (first | rw [find3_one] | rw [starts3] | skip))
  | ((with_reducible refine w_2s ?_); (try rw [find_one]))
  | ((with_reducible refine w_inS ?_); rw [S_list])
  | ((with_reducible refine w_lenS ?hz ?_); (case hz => first | assumption | omega | decide); rw [SX.S_len])
  | ((with_reducible refine w_addS ?hz ?_); (case hz => first | assumption | omega | decide); rw [vS_cat])
  | with_reducible refine w_mk ?_
  | with_reducible refine w_me ?_
  | with_reducible refine w_sfld ?_
  | ((with_reducible refine' w_gtup ?hh ?hn ?_); (case hh => first | assumption | exact upd_same); (case hn => rfl))
  | with_reducible refine w_gcons ?_
  | with_reducible refine w_gnil ?_
  | with_reducible refine w_repl ?_
  | with_reducible refine w_chain ?_
  | with_reducible refine w_x1i ?_
  | with_reducible refine w_x1b ?_
  | with_reducible refine w_x1s ?_
  | with_reducible refine w_int1i ?_
  | with_reducible refine w_int1b ?_
  | ((with_reducible refine w_mod ?hc ?_); (case hc => omega))
  | ((with_reducible refine w_fdivW ?hc ?hd ?_); (case hc => omega); (case hd => omega))
  | ((with_reducible refine w_mul ?hc ?_); (case hc => first | exact Or.inr ⟨by decide, by decide⟩ | exact Or.inl ⟨by decide, by decide⟩))
  | ((with_reducible refine w_pow ?hc ?_); (case hc => exact ⟨by decide, by decide, by decide⟩)))
local macro_rules | `(tactic| walk_at "s1") => `(tactic| first
  | with_reducible refine w_seq ?_
  | with_reducible refine w_asg ?_
  | with_reducible refine w_ret ?_
  | with_reducible refine w_drop ?_
  | with_reducible refine w_next ?_
  | with_reducible refine w_ifs ?_
  | ((with_reducible refine' w_aug ?hv ?_); (case hv => rfl))
  | with_reducible refine w_for ?_
  | walk_at "e1")
local macro_rules | `(tactic| walk_at "e") => `(tactic| repeat walk_at "e1")
local macro_rules | `(tactic| walk_at "g") => `(tactic| repeat walk_at "s1")

namespace K01
open Lx LamX
abbrev s__law_told : Stmt := top 35
theorem sc__law_told : FnScope ["what"] ["what"] (defScope s__law_told) := ⟨rfl, rfl, rfl, by decide +kernel, rfl, by decide +kernel, by decide +kernel⟩
section
variable {X : Cx}
theorem passLam {A : Around} {outer : List Env} {s : Shared} {H : Hp} {E : XK} {scope : Scope} {f c' : Addr} : Passes (L2.CX (lamCx X A outer s H E scope f c').prog (lamCx X A outer s H E scope f c').w) (lamCx X A outer s H E scope f c') E := passes_call (takes_of rfl rfl rfl rfl) fun _ _ _ _ h => h
theorem pe_lamT {cTE cTb c Pt : Addr} {k : Nat} {params : Arguments} {body : Expr} {scope : Scope} {t : XK → TE} {p lpos pos : Pos} (F : FnP X.K X.mg "_law_told" s__law_told) (eT : X.mg "TextError" = some (.ref cTE)) (eB : X.mg "TableError" = some (.ref cTb))
    (TB : TabB X.base X.mg c Pt) (hcode : X.env.code = .ref c) (qn : Str) (hq : X.env.qual = qn) (hr : Room (k + 2) X.A) (sc : Scope) (hsc : X.env.scope = sc) (L : lamSB sc scope = true) (hdef : defaultsOf params X.env = ([], []))
    (hbind : ∀ (q : Str) (cl : List (Str × Addr)) (pm cv ctv : Value), bindArgs (PySem.W.kla_fn "<lambda>" q params body scope cl pm cv ctv) ⟨[], []⟩ = pure []) (hg : Gl X "_law_told")
    (hbody : ∀ (A : Around) (outer : List Env) (s : Shared) (H : Hp) (E : XK) (f c' : Addr), Room k (A.deeper (lamEnv X scope s.heap.objs.size f c')) → PE (lamCx X A outer s H E scope f c') body (t E)) :
    PE X (.Call (.Name "_law_told" p) [.Lambda params body scope lpos] [] pos) (tLam [(Pt, qn ++ ("<lambda>" : Str))] (TTold X.K cTE "TextError") t) := by
  subst hq
  obtain ⟨f, fd, F, m⟩ := F
  have bb := F.bindsN (ps := ["what"]) fun _ _ _ _ _ _ us hl => match us, hl with | [_], _ => rfl
  obtain ⟨oc, od, dV, kV, doc, pm, an, cdv, ct, osl, rfl, lk, hcd, _, _⟩ := F.ex
  exact pe_lamcall hg m F.kp lk hcd bb sc__law_told rfl (Or.inl rfl) (told2_gives rfl eT rfl rfl eB rfl fun _ => rfl) TB hcode List.mem_cons_self (fun q hq _ => by rw [List.mem_singleton.mp hq]) hr (hsc ▸ lamS_by L) hdef hbind hbody
end
-- law: 0:script 1:dice 2:text 3:due 4:turn 5:shown 6:word 7:value 8:found 9:token 10:bad
abbrev s_law : Stmt := top 37
theorem sc_law : FnScope ["script", "dice", "text", "due", "turn", "shown", "word", "value", "found", "token", "bad"] ["script"] (defScope s_law) := ⟨rfl, rfl, rfl, by decide +kernel, rfl, by decide +kernel, by decide +kernel⟩
/-- all that the walks use -/
structure Wz (K : PySem.W.Frag) (mg : Str → Option Value) (cTE cTb cTk aL aS aK : Addr) : Prop extends Wk K mg cTE cTk aL aS aK where
  m_TableError : mg "TableError" = some (.ref cTb)
  x_TE : PySem.W.exmOne K (.ref cTE) (.ref cTE) = some true
  d__law_told : FnP K mg "_law_told" s__law_told
section
variable {P : Program} {w : World} {K : PySem.W.Frag} {mg : Str → Option Value} {base : Heap} {cTE cTb cTk aL aS aK : Addr}
def spLaw (K : PySem.W.Frag) (Pt : Addr) : Sp := fun vs H Q _ => ∃ (a : Addr) (ns : List Int), vs = [.ref a] ∧ SqL K H a (ns.map V.int) ∧ ns.length ≤ 63 ∧ Tabs [(Pt, (("law" : Str) ++ (".<locals>." : Str)) ++ ("<lambda>" : Str))] H ∧ ∀ H', Q (.bl true) H'
abbrev TQ (Pt : Addr) : List (Addr × Str) := [(Pt, (("law" : Str) ++ (".<locals>." : Str)) ++ ("<lambda>" : Str))]
theorem tabs_kp {T : List (Addr × Str)} {H H' : Hp} {d : Addr} (t : Tabs T H) (k : Kp d H H') (hd : Dice H d) : Tabs T H' := fun p hp => by
  obtain ⟨ps, h1, h2, h3⟩ := t p hp
  obtain ⟨x, y, z, e⟩ := hd
  refine ⟨ps, k _ _ (fun n => by rw [n, e] at h1; cases h1) h1, h2, fun pos cv hc => ?_⟩
  obtain ⟨c, e1, e2⟩ := h3 pos cv hc
  refine ⟨c, e1, k _ _ (fun n => ?_) e2⟩
  rw [n, e] at e2
  unfold CodeO at e2
  cases e2
structure Good (Pt p : Addr) (ds : List Addr) (H : Hp) : Prop where
  lst : H p = some (.lst (ds.map V.ref))
  dice : ∀ d ∈ ds, Dice H d
  tab : Tabs (TQ Pt) H
theorem Good.kp {Pt p d : Addr} {ds : List Addr} {H H' : Hp} (g : Good Pt p ds H) (hd : d ∈ ds) (k : Kp d H H') (h : Dice H' d) : Good Pt p ds H' := by
  refine ⟨k _ _ (fun n => ?_) g.lst, fun e he => ?_, tabs_kp g.tab k (g.dice d hd)⟩
  · obtain ⟨x, y, z, e⟩ := g.dice d hd
    have l := g.lst
    rw [n, e] at l
    cases ds with
    | nil => cases hd
    | cons b r => cases l
  · by_cases n : e = d
    · rw [n]; exact h
    · obtain ⟨x, y, z, q⟩ := g.dice e he
      exact ⟨x, y, z, k _ _ n q⟩
theorem Good.ext {Pt p : Addr} {ds : List Addr} {H H' : Hp} (g : Good Pt p ds H) (k : ExtN H H') (t : Tabs (TQ Pt) H') : Good Pt p ds H' := by
  refine ⟨k _ _ g.lst (fun q z => by cases z), fun d hd => ?_, t⟩
  obtain ⟨x, y, z, e⟩ := g.dice d hd
  exact ⟨x, y, z, k _ _ e fun q z => by cases z⟩
theorem Kp.wr {d L : Addr} {H0 Hc : Hp} {o : HO} (k : Kp d H0 Hc) (h : H0 L = none) : Kp d H0 (upd Hc L o) := fun b u n e => by
  rw [upd_ne (ne_of_none e h)]
  exact k b u n e
theorem Dice.wr {d L : Addr} {Hc : Hp} {o : HO} (k : Dice Hc d) (h : L ≠ d) : Dice (upd Hc L o) d := by
  obtain ⟨a, b, c, e⟩ := k
  exact ⟨a, b, c, by rw [upd_ne h.symm]; exact e⟩
def DueOk (u : List Nat × V × Nat) : Prop := SmallL u.1 ∧ Scal u.2.1 ∧ (u.1 = sName → ∃ nm, u.2.1 = .str (S nm) ∧ plain nm = true ∧ nm.length ≤ 30)
theorem ok_law {f c Pt : Addr} {fd : FuncData} (W : Wz K mg cTE cTb cTk aL aS aK) (F : FunD K "law" "law" (defArgs s_law) (defBody s_law) (defScope s_law) [] [] f fd) (hc : fd.code = .ref c) (TB : TabB base mg c Pt)
    (c__law_roll : Cl P w K mg base 1 "_law_roll" spRoll) (c__law_rounds : Cl P w K mg base 2 "_law_rounds" (spRounds K)) (c__law_token : Cl P w K mg base 2 "_law_token" spToken) (c_tokenize : Cl P w K mg base 6 "tokenize" (spTokenize cTk cTE))
    (c_is_plain_name : Cl P w K mg base 2 "is_plain_name" spPlain) (c_Token : Mc P w K mg base 1 "Token" cTk (spInit cTk)) (c_Token_shown : Me P w K mg base 1 cTk "shown" (spShown cTk)) :
    FnOk P w K mg base (L2.CX P w) 13 f fd ["script"] (spLaw K Pt) := by
  obtain ⟨oc, od, dV, kV, doc, pm, an, cdv, ct, osl, rfl, lk, hcd, _, _⟩ := F.ex
  obtain rfl : cdv = .ref c := hc
  refine fn_of lk hcd sc_law (fun vs H Q E h => ?_) fun A outer s H vs Q E hr h => ?_
  · obtain ⟨a, ns, rfl, _⟩ := h; rfl
  obtain ⟨a, ns, rfl, hS, h63, hT, q⟩ := h
  refine ⟨_, (pss_cons (ps_for (passes_of rfl) rfl (pi_list (pe_cl c__law_rounds hr (by decide) rfl passL (pa_cons (pv 0) (pa_cons pe_int pa_nil)))) (pg_name (i := 1) sc_law.nd rfl (Or.inl rfl))
    (pss_cons (ps_asg (pe_tup (pa_cons (pe_ix ix_list (pe_lst (pa_cons pe_str (pa_cons pe_str (pa_cons pe_str pa_nil)))) (pe_cl c__law_roll hr (by decide) rfl passL (pa_cons (pv 1) (pa_cons pe_int pa_nil))) (fun _ _ => rfl)) (pa_cons (pe_lst pa_nil) pa_nil))) (pg_tup rfl (pgs_cons (pg_name (i := 2) sc_law.nd rfl (Or.inr rfl)) (pgs_cons (pg_name (i := 3) sc_law.nd rfl (Or.inl rfl)) pgs_nil))))
    (pss_cons (ps_for (passes_of rfl) rfl (pi_range1 rfl W.n_range (pa_cons (pe_cl c__law_roll hr (by decide) rfl passL (pa_cons (pv 1) (pa_cons pe_int pa_nil))) pa_nil)) (pg_name (i := 4) sc_law.nd rfl (Or.inl rfl))
    (pss_cons (ps_asg (pe_cl c__law_token hr (by decide) rfl passL (pa_cons (pv 1) pa_nil)) (pg_tup rfl (pgs_cons (pg_name (i := 5) sc_law.nd rfl (Or.inl rfl)) (pgs_cons (pg_name (i := 6) sc_law.nd rfl (Or.inl rfl)) (pgs_cons (pg_name (i := 7) sc_law.nd rfl (Or.inl rfl)) pgs_nil)))))
    (pss_cons (ps_expr (pe_bm PySem.F.plainAttrs_list PySem.F.slot_list_append PySem.F.type_list_append mt_append (pv 3) (pa_cons (pe_tup (pa_cons (pv 6) (pa_cons (pv 7) (pa_cons (pe_callB call_len_str rfl W.n_len PySem.boot_len (pa_cons (pv 2) pa_nil)) pa_nil)))) pa_nil)))
    (pss_one (ps_set (i := 2) sc_law.nd rfl (Or.inr rfl) (pe_op op_add_str (pe_op op_add_str (pv 2) (pv 5)) (pe_ix ix_list (pe_lst (pa_cons pe_str (pa_cons pe_str (pa_cons pe_str (pa_cons pe_str pa_nil))))) (pe_cl c__law_roll hr (by decide) rfl passL (pa_cons (pv 1) (pa_cons pe_int pa_nil))) (fun _ _ => rfl))))))))
    (pss_cons (ps_expr (pe_bm PySem.F.plainAttrs_list PySem.F.slot_list_append PySem.F.type_list_append mt_append (pv 3) (pa_cons (pe_tup (pa_cons pe_str (pa_cons pe_non (pa_cons (pe_callB call_len_str rfl W.n_len PySem.boot_len (pa_cons (pv 2) pa_nil)) pa_nil)))) pa_nil)))
    (pss_cons (ps_set (i := 8) sc_law.nd rfl (Or.inl rfl) (pe_cl c_tokenize hr (by decide) rfl passL (pa_cons (pv 2) pa_nil)))
    (pss_cons (ps_if (PW.pt (pw_or (pt_cmpR (op_neD (hu64 hr)) (pe_lc (own := [("token", 9)]) rfl sc_law.nd (pi_list (pv 8)) (blkOk_by (own := [("token", 9)]) (N := ["script", "dice", "text", "due", "turn", "shown", "word", "value", "found", "token", "bad"]) (sc := defScope s_law) (by decide +kernel)) (fun _ _ _ _ _ => (pg_name (i := 9) sc_law.nd rfl (Or.inl rfl))) (fun _ _ _ _ _ => pts_nil) (fun _ _ _ _ _ => (pe_me0 c_Token_shown hr (by decide) passL (pv 9)))) (pv 3) (nomark _)) (pw_or1 (pt_cmpR (op_neD (hu64 hr)) (pe_lc (own := [("token", 9)]) rfl sc_law.nd (pi_list (pv 8)) (blkOk_by (own := [("token", 9)]) (N := ["script", "dice", "text", "due", "turn", "shown", "word", "value", "found", "token", "bad"]) (sc := defScope s_law) (by decide +kernel)) (fun _ _ _ _ _ => (pg_name (i := 9) sc_law.nd rfl (Or.inl rfl))) (fun _ _ _ _ _ => pts_nil) (fun _ _ _ _ _ => (pe_tup (pa_cons (pe_fldK K (pv 9) rfl rfl) (pa_cons (pe_fldK K (pv 9) rfl rfl) (pa_cons (pe_fldK K (pv 9) rfl rfl) pa_nil)))))) (pv 3) (nomark _)))))
    (pss_one (ps_ret pe_bl))
    pss_nil)
    (pss_cons (ps_for (passes_of rfl) rfl (pi_list (pv 8)) (pg_name (i := 9) sc_law.nd rfl (Or.inl rfl))
    (pss_one (ps_if (PW.pt (pw_and (pt_cmpR op_eq (pe_fld (pv 9) rfl) pe_str (nomark _)) (pw_and1 (pt_not (pt_val (pe_cl c_is_plain_name hr (by decide) rfl passL (pa_cons (pe_fld (pv 9) rfl) pa_nil)))))))
    (pss_one (ps_ret pe_bl))
    pss_nil)))
    (pss_cons (ps_set (i := 10) sc_law.nd rfl (Or.inr rfl) (pe_ix ix_list (pe_lst (pa_cons pe_str (pa_cons pe_str (pa_cons pe_str (pa_cons pe_str (pa_cons pe_str (pa_cons pe_str (pa_cons pe_str (pa_cons pe_str (pa_cons (pe_op op_add_str (pe_op op_add_str pe_str (pe_op op_mulS pe_str pe_int)) pe_str) pa_nil)))))))))) (pe_cl c__law_roll hr (by decide) rfl passL (pa_cons (pv 1) (pa_cons pe_int pa_nil))) (fun _ _ => rfl)))
    (pss_one (ps_if (pt_cmpR op_ne (pe_lamT W.d__law_told W.e_TextError.og W.m_TableError TB rfl (("law" : Str) ++ (".<locals>." : Str)) rfl hr (defScope s_law) rfl (by decide +kernel) rfl (fun _ _ _ _ _ => rfl) rfl (fun A outer s H E f c1 hr => (pe_cl c_tokenize hr (by decide) rfl passLam (pa_cons (pe_op op_add_str (pv 2) (pv 10)) pa_nil)))) pe_str (nomark _))
    (pss_one (ps_ret pe_bl))
    pss_nil))))))))))
    (pss_one (ps_ret (pe_and (pe_cl c_is_plain_name hr (by decide) rfl passL (pa_cons pe_str pa_nil)) (pe_and (pe_not (pe_cl c_is_plain_name hr (by decide) rfl passL (pa_cons pe_str pa_nil))) (pe_and (pe_not (pe_cl c_is_plain_name hr (by decide) rfl passL (pa_cons pe_str pa_nil))) (pe_and (pe_not (pe_cl c_is_plain_name hr (by decide) rfl passL (pa_cons pe_str pa_nil))) (pe_and (pe_not (pe_cl c_is_plain_name hr (by decide) rfl passL (pa_cons pe_str pa_nil))) (pe_one (pe_cmpR (op_eqD (hu64 hr)) (pe_me0 c_Token_shown hr (by decide) passL (pe_mc c_Token hr (by decide) rfl passL (pa_cons pe_str (pa_cons pe_int (pa_cons pe_int pa_nil))))) (pe_tup (pa_cons pe_str (pa_cons pe_int (pa_cons pe_int pa_nil)))) (nomark _))))))))))), ?_⟩
  walk_at "g"
  refine ⟨a, ns, 1, rfl, hS, h63, fun p H1 ds s1 fp ep hds hl => ?_⟩
  refine w_forL (SqL.of ep) (fun i σ Hc => Good Pt p ds Hc ∧ ∃ v1 v2 v3 v4 v5 v6 v7 v8 v9 v10 : Option V, σ = [some (.ref a), v1, v2, v3, v4, v5, v6, v7, v8, v9, v10])
    ⟨⟨ep, fun d hd => (hds d hd).1, hT.ext s1⟩, none, none, none, none, none, none, none, none, none, none, rfl⟩ (fun i σ Hc _ h => SqL.of h.1.lst) ?_ ?_
  · rintro i x σ H2 hi ⟨g, v1, v2, v3, v4, v5, v6, v7, v8, v9, v10, rfl⟩
    obtain ⟨d, hd, rfl⟩ : ∃ d ∈ ds, x = V.ref d := by
      rw [List.getElem?_map] at hi
      cases e : ds[i]? with
      | none => rw [e] at hi; cases hi
      | some d => rw [e] at hi; exact ⟨d, List.mem_of_getElem? e, (Option.some.inj hi).symm⟩
    have dd := g.dice d hd
    have kp := Kp.refl d H2
    walk_at "g"
    intro p1 hp1
    generalize hX : upd H2 p1 _ = H3
    obtain ⟨kp, kp', dd, n1, _, k1⟩ := newl kp dd hp1 hX
    clear hX
    walk_at "g"
    refine w_roll (by decide) (by decide) kp dd fun j H4 j0 j1 kp kp' dd => ?_
    replace k1 := kp' _ _ n1 k1
    obtain ⟨G, hG, eG⟩ := atI_map (f := fun l => V.str (S l)) (ls := [[32], [10], []]) j0 j1
    refine w_ixL k1 eG ?_
    have hG2 : GapIs G ∧ G.length ≤ 1 := by
      simp only [List.mem_cons, List.not_mem_nil, or_false] at hG
      rcases hG with rfl | rfl | rfl
      · exact ⟨gap_sp.toGapIs, by decide⟩
      · exact ⟨gap_nl.toGapIs, by decide⟩
      · exact ⟨gap_0, by decide⟩
    walk_at "g"
    intro L hL
    generalize hX : upd H4 L _ = H5
    obtain ⟨kp, kp', dd, nL, fL, kL⟩ := newl kp dd hL hX
    clear hX
    walk_at "g"
    intro p2 hp2
    generalize hX : upd H5 p2 _ = H6
    obtain ⟨kp, kp', dd, n2, _, k2⟩ := newl kp dd hp2 hX
    replace kL := kp' _ _ nL kL
    clear hX
    walk_at "g"
    refine w_roll (by decide) (by decide) kp dd fun many H7 m0 m1 kp kp' dd => ?_
    replace kL := kp' _ _ nL kL
    walk_at "g"
    refine w_forRp ⟨m0, Int.lt_trans m1 (by decide)⟩ (fun i σ Hc => ∃ (t : List Nat) (due : List (List Nat × V × Nat)) (xs : List Addr) (u4 u5 u6 u7 : Option V), σ = [some (.ref a), some (.ref d), some (.str (S t)), some (.ref L), u4, u5, u6, u7, v8, v9, v10] ∧ Kp d H2 Hc ∧ Dice Hc d ∧
      Hc L = some (.lst (xs.map V.ref)) ∧ DueAll Hc xs due ∧ Reads t due ∧ due.length = i ∧ due.length ≤ t.length ∧ t.length ≤ 1 + 60 * i ∧ ∀ u ∈ due, DueOk u)
      ⟨G, [], [], v4, v5, v6, v7, rfl, kp, dd, kL, .nil, Reads.base hG2.1, rfl, Nat.zero_le _, hG2.2, fun u hu => absurd hu List.not_mem_nil⟩ ?_ ?_
    · rintro i σ Hc hi ⟨t, due, xs, u4, u5, u6, u7, rfl, kp, dd, kL, dA, rd, rfl, lt, lt2, ok⟩
      walk_at "g"
      refine ⟨d, rfl, dd, fun q1 H8 s tw v kp' fq eq dd2 tok ls sm sc pn => ?_⟩
      replace kL := kp' _ _ nL kL
      replace dA := dA.kp kp' dd
      replace kp := kp.trans kp'
      have hi2 : due.length < 16 := by omega
      have hz : t.length ≤ sizeLine := Nat.le_trans (by omega : t.length ≤ 1000) (by decide)
      clear kp' dd
      walk_at "g"
      refine ⟨tyL kL, ?_⟩
      walk_at "g"
      intro q2 hq2
      generalize hX : upd H8 q2 _ = H9
      obtain ⟨kp, kp', dd, n3, _, k3⟩ := newl kp dd2 hq2 hX
      replace kL := kp' _ _ nL kL
      replace dA := dA.kp kp' dd2
      clear hX kp' hq2
      walk_at "g"
      refine w_app kL (by rw [List.length_map, dA.length]; exact Nat.lt_of_lt_of_le hi2 (by decide)) ?_
      have dA2 : DueAll (upd H9 L (.lst (xs.map V.ref ++ [V.ref q2]))) (xs ++ [q2]) (due ++ [(tw, v, t.length)]) := (dA.snoc (t := (tw, v, t.length)) k3).ne kL
      have kL2 : (upd H9 L (.lst (xs.map V.ref ++ [V.ref q2]))) L = some (.lst ((xs ++ [q2]).map V.ref)) := by rw [upd_same, List.map_append]; rfl
      have kp2 := Kp.wr (o := .lst (xs.map V.ref ++ [V.ref q2])) kp fL
      have dd3 := Dice.wr (o := .lst (xs.map V.ref ++ [V.ref q2])) dd nL
      generalize upd H9 L (.lst (xs.map V.ref ++ [V.ref q2])) = H10 at *
      clear dA kL kp dd k3
      walk_at "g"
      refine w_addS (Nat.le_trans (by omega : t.length + s.length ≤ 2000) (by decide)) ?_
      rw [show (S t ++ S s : Str) = S (t ++ s) from SX.S_cat _ _]
      walk_at "g"
      intro p3 hp3
      generalize hX : upd H10 p3 _ = H11
      obtain ⟨kp, kp', dd, n4, _, k4⟩ := newl kp2 dd3 hp3 hX
      replace kL := kp' _ _ nL kL2
      replace dA := dA2.kp kp' dd3
      clear hX kp' hp3 dA2 kL2 kp2 dd3
      walk_at "g"
      refine w_roll (by decide) (by decide) kp dd fun j H12 j0 j1 kp kp' dd4 => ?_
      replace k4 := kp' _ _ n4 k4
      replace kL := kp' _ _ nL kL
      replace dA := dA.kp kp' dd
      obtain ⟨Gp, hGp, eGp⟩ := atI_map (f := fun l => V.str (S l)) (ls := [[32], [10], [32, 32], cmt]) j0 j1
      refine w_ixL k4 eGp ?_
      have hGb : GapBig Gp ∧ Gp.length ≤ 20 := by
        simp only [List.mem_cons, List.not_mem_nil, or_false] at hGp
        rcases hGp with rfl | rfl | rfl | rfl
        · exact ⟨gap_sp, by decide⟩
        · exact ⟨gap_nl, by decide⟩
        · exact ⟨gap_2, by decide⟩
        · exact ⟨gap_c, by decide⟩
      have hs0 : 0 < s.length := List.length_pos_iff.mpr tok.ne
      refine w_addS (a := t ++ s) (b := Gp) (Nat.le_trans (by rw [List.length_append]; omega : (t ++ s).length + Gp.length ≤ 3000) (by decide)) ?_
      rw [show (S (t ++ s) ++ S Gp : Str) = _ from SX.S_cat _ _]
      walk_at "g"
      refine ⟨t ++ s ++ Gp, due ++ [(tw, v, t.length)], xs ++ [q2], _, _, _, _, rfl, kp, dd4, kL, dA, rd.step tok hGb.1, by rw [List.length_append]; rfl, ?_, ?_, ?_⟩
      · simp only [List.length_append, List.length_singleton]; omega
      · simp only [List.length_append, List.length_singleton]; omega
      · intro u hu
        rcases List.mem_append.mp hu with hu | hu
        · exact ok u hu
        · rw [List.mem_singleton.mp hu]; exact ⟨sm, sc, pn⟩
    · rintro σ Hc ⟨t, due, xs, u4, u5, u6, u7, rfl, kp, dd, kL, dA, rd, hn, lt, lt2, ok⟩
      have hd15 : due.length ≤ 15 := by omega
      have ht : t.length ≤ 1000 := by omega
      have hz : t.length ≤ sizeLine := Nat.le_trans ht (by decide)
      clear hn lt2 m0 m1 many
      walk_at "g"
      refine ⟨tyL kL, ?_⟩
      walk_at "g"
      intro q2 hq2
      generalize hX : upd Hc q2 _ = H9
      obtain ⟨kp, kp', dd9, n3, _, k3⟩ := newl kp dd hq2 hX
      replace kL := kp' _ _ nL kL
      replace dA := dA.kp kp' dd
      clear hX kp' hq2 dd
      walk_at "g"
      refine w_app kL (by rw [List.length_map, dA.length]; exact Nat.lt_of_le_of_lt hd15 (by decide)) ?_
      have dA2 : DueAll (upd H9 L (.lst (xs.map V.ref ++ [V.ref q2]))) (xs ++ [q2]) (due ++ [(sEnd, .non, t.length)]) := (dA.snoc (t := (sEnd, .non, t.length)) k3).ne kL
      have kL2 : (upd H9 L (.lst (xs.map V.ref ++ [V.ref q2]))) L = some (.lst ((xs ++ [q2]).map V.ref)) := by rw [upd_same, List.map_append]; rfl
      have kp2 := Kp.wr (o := .lst (xs.map V.ref ++ [V.ref q2])) kp fL
      have dd3 := Dice.wr (o := .lst (xs.map V.ref ++ [V.ref q2])) dd9 nL
      generalize upd H9 L (.lst (xs.map V.ref ++ [V.ref q2])) = H10 at *
      generalize xs ++ [q2] = xs at *
      have g10 := g.kp hd kp2 dd3
      clear dA kL kp k3 dd9
      walk_at "g"
      refine ⟨t, rfl, Nat.le_trans ht (by decide), ?_⟩
      rw [rd.fin lt]
      intro H11 F ys s11 fF eF tA fr hlen
      have kL := s11 _ _ kL2
      have dA := dA2.kp (Kp.of s11) dd3
      have g11 : Good Pt p ds H11 := g10.kp hd (Kp.of s11) (by obtain ⟨x, y, z, e⟩ := dd3; exact ⟨x, y, z, s11 _ _ e⟩)
      clear dA2 kL2 kp2 dd3 g10
      generalize hts : due ++ [(sEnd, V.non, t.length)] = ts at *
      have okS : ∀ u ∈ ts, TokS u := fun u hu => by
        rw [← hts] at hu
        rcases List.mem_append.mp hu with hu | hu
        · exact ⟨(ok u hu).1, .inl (ok u hu).2.1⟩
        · rw [List.mem_singleton.mp hu]; exact ⟨small_of (l := sEnd) (by decide), .inr rfl⟩
      have okN : ∀ u ∈ ts, u.1 = sName → ∃ nm, u.2.1 = .str (S nm) ∧ plain nm = true ∧ nm.length ≤ 30 := fun u hu => by
        rw [← hts] at hu
        rcases List.mem_append.mp hu with hu | hu
        · exact (ok u hu).2.2
        · rw [List.mem_singleton.mp hu]; exact fun e => absurd e (show sEnd ≠ sName by decide)
      have hts16 : ts.length ≤ 16 := by rw [← hts, List.length_append, List.length_singleton]; omega
      have hy : ys.length ≤ 1000 := by rw [tA.length]; omega
      walk_at "g"
      refine' w_tups eF tA hy ?hw ?hel fun D1 H12 zs s12 f12 eD1 dD1 => ?_
      case hw => exact fun _ => rfl
      case hel =>
        intro y tw tv n H2 Q tO q
        walk_at "g"
        obtain ⟨dx, e⟩ := tO
        refine ⟨y, dx, _, rfl, e, rfl, ?_⟩
        walk_at "g"
        exact ⟨y, _, _, _, rfl, ⟨dx, e⟩, q⟩
      replace kL := s12 _ _ kL
      replace dA := dA.same s12
      replace eF := s12 _ _ eF
      replace tA := tA.same s12
      have g12 : Good Pt p ds H12 := g11.ext (ExtN.of s12) (g11.tab.ext s12)
      walk_at "g"
      refine w_neToks eD1 kL dD1 dA okS ?_
      walk_at "g"
      refine' w_tups eF tA hy ?hw ?hel fun D2 H13 zs2 s13 f13 eD2 dD2 => ?_
      case hw => exact fun _ => rfl
      case hel =>
        intro y tw tv n H2 Q tO q
        obtain ⟨dx, e⟩ := tO
        walk_at "g"
        refine ⟨y, cTk, dx, _, _, rfl, e, W.t_cl, W.t_w, tok_w _ _ _, ?_⟩
        walk_at "g"
        refine ⟨y, cTk, dx, _, _, rfl, e, W.t_cl, W.t_v, tok_v _ _ _, ?_⟩
        walk_at "g"
        refine ⟨y, cTk, dx, _, _, rfl, e, W.t_cl, W.t_p, tok_p _ _ _, ?_⟩
        walk_at "g"
        exact q
      replace kL := s13 _ _ kL
      replace dA := dA.same s13
      replace eF := s13 _ _ eF
      replace tA := tA.same s13
      have g13 : Good Pt p ds H13 := g12.ext (ExtN.of s13) (g12.tab.ext s13)
      walk_at "g"
      refine w_neToks eD2 kL dD2 dA okS ?_
      walk_at "g"
      refine w_forL (SqL.of eF) (fun i σ Hc => Hc = H13 ∧ ∃ u9 : Option V, σ = [some (.ref a), some (.ref d), some (.str (S t)), some (.ref L), u4, u5, u6, u7, some (.ref F), u9, v10]) ⟨rfl, v9, rfl⟩ (fun i σ Hc _ h => by rw [h.1]; exact SqL.of eF) ?_ ?_
      · rintro i x σ Hc hi ⟨rfl, u9, rfl⟩
        obtain ⟨y, hy2, rfl⟩ : ∃ y, ys[i]? = some y ∧ x = V.ref y := by
          rw [List.getElem?_map] at hi
          cases e : ys[i]? with
          | none => rw [e] at hi; cases hi
          | some y => rw [e] at hi; exact ⟨y, rfl, (Option.some.inj hi).symm⟩
        obtain ⟨⟨tw, tv, n⟩, ht2, dx, e⟩ := paired_get tA hy2
        have hm := List.mem_of_getElem? ht2
        walk_at "g"
        refine ⟨y, cTk, dx, _, _, rfl, e, W.t_cl, W.t_w, tok_w _ _ _, ?_⟩
        walk_at "g"
        refine w_iteD (fun c1 => ?_) (fun c1 => ?_)
        · have c2 : tw = sName := c1
          obtain ⟨nm, q1, q2, q3⟩ := okN _ hm c2
          obtain rfl : tv = .str (S nm) := q1
          walk_at "g"
          refine ⟨y, cTk, dx, _, _, rfl, e, W.t_cl, W.t_v, tok_v _ _ _, ?_⟩
          walk_at "g"
          refine ⟨nm, rfl, Nat.le_trans q3 (by decide), ?_⟩
          rw [q2]
          walk_at "g"
          exact ⟨rfl, _, rfl⟩
        · walk_at "g"
          exact ⟨rfl, _, rfl⟩
      · rintro σ Hc ⟨rfl, u9, rfl⟩
        walk_at "g"
        have em : Txt.mul (Str.ofString "a") 3 = S [97, 97, 97] := by rfl
        refine ⟨_, 3, rfl, rfl, by decide, by decide, by decide, ?_⟩
        rw [em]
        refine ⟨S [39], S [97, 97, 97], rfl, rfl, by decide, ?_⟩
        rw [vS_cat]
        walk_at "g"
        intro p5 hp5
        generalize hX : upd Hc p5 _ = H14
        have s14 : Same Hc H14 := hX ▸ same_new hp5 _
        have k5 : H14 p5 = some (.lst (BAD.map fun l => V.str (S l))) := by rw [← hX, upd_same]; rfl
        have g14 : Good Pt p ds H14 := g13.ext (ExtN.of s14) (g13.tab.ext s14)
        have dd14 := g14.dice d hd
        have n5 : p5 ≠ d := by
          obtain ⟨x, y, z, e⟩ := g13.dice d hd
          exact (ne_of_none e hp5).symm
        clear hX
        walk_at "g"
        refine w_roll (by decide) (by decide) (Kp.refl d H14) dd14 fun j2 H15 j20 j21 kp' kp'' dd15 => ?_
        replace k5 := kp' _ _ n5 k5
        have g15 := g14.kp hd kp' dd15
        obtain ⟨bd, hb, eb⟩ := atI_map (f := fun l => V.str (S l)) (ls := BAD) j20 j21
        refine w_ixL k5 eb ?_
        obtain ⟨b1, b2, b3⟩ := bad_no hb
        walk_at "g"
        refine ⟨g15.tab, fun H16 x16 t16 => ?_⟩
        have g16 := g15.ext x16 t16
        show tCl (spTokenize cTk cTE) (fun cls _ H' => ∃ b, PySem.W.exmOne K cls (.ref cTE) = some b ∧ (b = true → _) ∧ (b = false → False)) (tCons (tOp _ (tVar 2) (tVar 10)) tNil) _ H16 _
        walk_at "g"
        refine w_addS (a := t) (b := bd) (Nat.le_trans (by omega : t.length + bd.length ≤ 2000) (by decide)) ?_
        rw [vS_cat]
        walk_at "g"
        refine ⟨t ++ bd, rfl, Nat.le_trans (by rw [List.length_append]; omega : _ ≤ 2000) (by decide), ?_⟩
        rw [rd.bad lt b1 b3]
        intro H17 s17
        refine ⟨true, W.x_TE, fun _ => ?_, fun e => absurd e (by decide)⟩
        have g17 : Good Pt p ds H17 := g16.ext (ExtN.of s17) (g16.tab.ext s17)
        walk_at "g"
        rw [decide_eq_true rfl, Bool.not_true, if_neg Bool.false_ne_true]
        walk_at "g"
        exact ⟨g17, _, _, _, _, _, _, _, _, _, _, rfl⟩
  · rintro σ H2 ⟨g, v1, v2, v3, v4, v5, v6, v7, v8, v9, v10, rfl⟩
    walk_at "g"
    refine w_andV ?_
    walk_at "g"
    refine ⟨[97, 95, 57], rfl, by decide, ?_⟩
    rw [show plain [97, 95, 57] = true by decide +kernel]
    walk_at "g"
    refine w_andV ?_
    refine w_notV ?_
    walk_at "g"
    refine ⟨[57, 97], rfl, by decide, ?_⟩
    rw [show plain [57, 97] = false by decide +kernel]
    walk_at "g"
    rw [Bool.not_false]
    walk_at "g"
    refine w_andV ?_
    refine w_notV ?_
    walk_at "g"
    refine ⟨[115, 101, 108, 101, 99, 116], rfl, by decide, ?_⟩
    rw [show plain [115, 101, 108, 101, 99, 116] = false by decide +kernel]
    walk_at "g"
    rw [Bool.not_false]
    walk_at "g"
    refine w_andV ?_
    refine w_notV ?_
    walk_at "g"
    refine ⟨[], rfl, by decide, ?_⟩
    rw [show plain [] = false by decide +kernel]
    walk_at "g"
    rw [Bool.not_false]
    walk_at "g"
    refine w_andV ?_
    refine w_notV ?_
    walk_at "g"
    refine ⟨[65], rfl, by decide, ?_⟩
    rw [show plain [65] = false by decide +kernel]
    walk_at "g"
    rw [Bool.not_false]
    walk_at "g"
    intro x dx hx hdx ne
    refine ⟨x, dx, _, _, _, upd _ dx (.own x), rfl, rfl, rfl, x, dx, _, rfl, upd_same, rfl, ?_⟩
    walk_at "g"
    refine ⟨x, _, _, _, rfl, ⟨dx, upd_same⟩, fun q1 hq1 => ?_⟩
    walk_at "g"
    intro q2 hq2
    have n12 : q1 ≠ q2 := fun z => by rw [← z, upd_same] at hq2; cases hq2
    refine ⟨.tuple [.str (S sInt), .int 5, .int 2], .tuple [.str (S sInt), .int 5, .int 2], .tup (SqT.of (show _ = some (HO.tup [.str (S sInt), .int 5, .int 2]) from ?_)) (.cons (.str _) (.cons (.int _) (.cons (.int _) .nil))), .tup (SqT.of (show _ = some (HO.tup [.str (S sInt), .int 5, .int 2]) from upd_same)) (.cons (.str _) (.cons (.int _) (.cons (.int _) .nil))), by decide +kernel, by decide +kernel, ?_⟩
    · rw [upd_ne n12, upd_same]; rfl
    · rw [show PyData.eqv (.tuple [.str (S sInt), .int 5, .int 2]) (.tuple [.str (S sInt), .int 5, .int 2]) = true by decide +kernel]
      exact q _
end
end K01
end

section
-- part K01I0
set_option Elab.async false
set_option linter.all false
set_option maxRecDepth 100000
set_option maxHeartbeats 0
namespace K01
open PySem PySem.Spec PyProof.Rows L2 Fw Lx
def fnD : List He.DefD := [⟨("sign_number", none), "sign_number", "sign_number", defArgs s_sign_number, defBody s_sign_number, defScope s_sign_number, [], []⟩,
  ⟨("check_text", none), "check_text", "check_text", defArgs s_check_text, defBody s_check_text, defScope s_check_text, [], []⟩,
  ⟨("run_end", none), "run_end", "run_end", defArgs s_run_end, defBody s_run_end, defScope s_run_end, [], []⟩,
  ⟨("gap_end", none), "gap_end", "gap_end", defArgs s_gap_end, defBody s_gap_end, defScope s_gap_end, [], []⟩,
  ⟨("word_token", none), "word_token", "word_token", defArgs s_word_token, defBody s_word_token, defScope s_word_token, [], []⟩,
  ⟨("number_token", none), "number_token", "number_token", defArgs s_number_token, defBody s_number_token, defScope s_number_token, [], []⟩,
  ⟨("quoted_token", none), "quoted_token", "quoted_token", defArgs s_quoted_token, defBody s_quoted_token, defScope s_quoted_token, [], []⟩,
  ⟨("token_at", none), "token_at", "token_at", defArgs s_token_at, defBody s_token_at, defScope s_token_at, [], []⟩,
  ⟨("tokenize", none), "tokenize", "tokenize", defArgs s_tokenize, defBody s_tokenize, defScope s_tokenize, [], []⟩,
  ⟨("is_plain_name", none), "is_plain_name", "is_plain_name", defArgs s_is_plain_name, defBody s_is_plain_name, defScope s_is_plain_name, [], []⟩,
  ⟨("_law_dice", none), "_law_dice", "_law_dice", defArgs s__law_dice, defBody s__law_dice, defScope s__law_dice, [], []⟩,
  ⟨("_law_roll", none), "_law_roll", "_law_roll", defArgs s__law_roll, defBody s__law_roll, defScope s__law_roll, [], []⟩,
  ⟨("_law_rounds", none), "_law_rounds", "_law_rounds", defArgs s__law_rounds, defBody s__law_rounds, defScope s__law_rounds, [], []⟩,
  ⟨("_law_told", none), "_law_told", "_law_told", defArgs s__law_told, defBody s__law_told, defScope s__law_told, [], []⟩,
  ⟨("_law_token", none), "_law_token", "_law_token", defArgs s__law_token, defBody s__law_token, defScope s__law_token, [], []⟩,
  ⟨("law", none), "law", "law", defArgs s_law, defBody s_law, defScope s_law, [], []⟩,
  ⟨("Token", some "__init__"), "__init__", "Token.__init__", defArgs s_Token___init__, defBody s_Token___init__, defScope s_Token___init__, [], []⟩,
  ⟨("Token", some "shown"), "shown", "Token.shown", defArgs s_Token_shown, defBody s_Token_shown, defScope s_Token_shown, [], []⟩]
def faD : List He.Fa := [.glo "sign_number", .glo "check_text", .glo "run_end", .glo "gap_end", .glo "word_token", .glo "number_token", .glo "quoted_token", .glo "token_at", .glo "tokenize", .glo "is_plain_name", .glo "_law_dice", .glo "_law_roll", .glo "_law_rounds", .glo "_law_told", .glo "_law_token", .glo "law", .glo "Token", .glo "TextError", .glo "TableError", .glo "LONG_SIGNS", .glo "SHORT_SIGNS", .glo "KEYWORDS", .free "abs", .free "int", .free "str", .free "len", .free "range", .str "ALPHABET" (S alphabet), .str "GAPS" (S [32, 10]), .str "COMMENT" (S [45, 45]), .str "LETTERS" (S letters), .str "SMALL_LETTERS" (S small), .str "DIGITS" (S digits), .str "QUOTE" (S [39]), .str "INT_KEYWORD" (S sInt), .str "INT_KIND" (S sKind), .str "END" (S sEnd), .int "MOST_DIGITS" 19, .int "HIGHEST" 9223372036854775807, .cls "Token", .noat "Token" "word", .noat "Token" "value", .noat "Token" "place", .meth "Token" "shown", .mkr "Token", .exc "TextError", .exm "TextError" "TextError" true]
def exD (K : PySem.W.Frag) : Bool := He.tupB K "LONG_SIGNS" (LONG.map fun l => He.Dv.str (S l)) && He.tupB K "SHORT_SIGNS" (SHORT.map fun l => He.Dv.str (S l)) && He.tupB K "KEYWORDS" (KW.map fun l => He.Dv.str (S l))
abbrev tfD : List He.Defn := [("law", none)]
abbrev R0 : PySem.W.OpenRow := PySem.W.OpenLaw.row PySem.Challenge.rw_tablestack_k01_texts_to_tokens
abbrev hk0 : PySem.W.Hook := He.hookX 5 faD fnD [] tfD exD
def ob0 (s : PySem.W.SharedT) : He.AlX := He.obsX 5 faD fnD [] tfD exD (HandSHeadRun.getT s)
theorem ob0_eq (s : PySem.W.SharedT) : ob0 s = hk0.obs s.abs := He.obsX_eq (HandSHeadRun.getT_eq s)
def loose0 : List Str := [("TableError" : Str), ("TextError" : Str), ("HIGHEST" : Str), ("ALPHABET" : Str), ("sign_number" : Str), ("check_text" : Str), ("SMALL_LETTERS" : Str), ("LETTERS" : Str), ("DIGITS" : Str), ("MOST_DIGITS" : Str), ("GAPS" : Str), ("COMMENT" : Str), ("QUOTE" : Str), ("LONG_SIGNS" : Str), ("SHORT_SIGNS" : Str), ("KEYWORDS" : Str), ("INT_KEYWORD" : Str), ("INT_KIND" : Str), ("END" : Str), ("Token" : Str), ("tokenize" : Str), ("gap_end" : Str), ("token_at" : Str), ("run_end" : Str), ("word_token" : Str), ("number_token" : Str), ("quoted_token" : Str), ("is_plain_name" : Str), ("_law_dice" : Str), ("_law_roll" : Str), ("_law_rounds" : Str), ("_law_told" : Str), ("_law_token" : Str)]
end K01
end

section
-- part K01I
set_option Elab.async false
set_option linter.all false
set_option maxRecDepth 100000
set_option maxHeartbeats 2000000
namespace K01
open PySem PySem.Spec PyProof.Rows L2 Fw Lx LamX
theorem tup_of {K : PySem.W.Frag} {x : Str} {ls : List (List Nat)} (h : He.tupB K x (ls.map fun l => He.Dv.str (S l)) = true) (H : Hp) : SqT K H (He.ga K x) (ls.map fun l => V.str (S l)) := by
  have q := He.tupB_ok h H
  rw [List.map_map] at q
  exact q
theorem facts {w : World} {K : PySem.W.Frag} {h : Heap} {mg : Str → Option Value} (X : K.In h) (G : h.Ns mainGlobals mg) (c : He.SaysX faD fnD [] tfD exD w h K) :
    Wz K mg (He.ga K "TextError") (He.ga K "TableError") (He.ga K "Token") (He.ga K "LONG_SIGNS") (He.ga K "SHORT_SIGNS") (He.ga K "KEYWORDS") := by
  have d := c.t.d
  have glo : ∀ {x : Str}, (He.Fa.glo x).ok K = true → mg x = some (.ref (He.ga K x)) := fun h => He.glo_ok X G h
  have fre : ∀ {x : Str}, (He.Fa.free x).ok K = true → mg x = none := fun h => He.free_ok X G h
  have st : ∀ {x : Str} {l : List Nat}, (He.Fa.str x (S l)).ok K = true → Ct mg x l := fun h => by
    obtain ⟨t, e⟩ := He.str_ok X G h
    exact ⟨_, e, t, rfl⟩
  have it : ∀ {x : Str} {n : Int}, (He.Fa.int x n).ok K = true → Cin mg x n := fun h => by
    obtain ⟨t, e⟩ := He.int_ok X G h
    exact ⟨_, e, t, rfl⟩
  have hx := c.more
  unfold exD at hx
  obtain ⟨hx1, hx2⟩ := He.ba hx
  obtain ⟨hx0, hx1⟩ := He.ba hx1
  obtain ⟨xe1, xe2, xe3, xe4⟩ := He.exc_ok (d.fact 45 (f := .exc "TextError") rfl)
  exact {
    n_abs := fre (d.fact 22 (f := .free "abs") rfl)
    n_int := fre (d.fact 23 (f := .free "int") rfl)
    n_str := fre (d.fact 24 (f := .free "str") rfl)
    n_len := fre (d.fact 25 (f := .free "len") rfl)
    n_range := fre (d.fact 26 (f := .free "range") rfl)
    d__law_dice := by
      obtain ⟨fd, q⟩ := d.def_ 10 (d := ⟨("_law_dice", none), "_law_dice", "_law_dice", defArgs s__law_dice, defBody s__law_dice, defScope s__law_dice, [], []⟩) rfl
      exact ⟨_, fd, q, glo (d.fact 10 (f := .glo "_law_dice") rfl)⟩
    d__law_roll := by
      obtain ⟨fd, q⟩ := d.def_ 11 (d := ⟨("_law_roll", none), "_law_roll", "_law_roll", defArgs s__law_roll, defBody s__law_roll, defScope s__law_roll, [], []⟩) rfl
      exact ⟨_, fd, q, glo (d.fact 11 (f := .glo "_law_roll") rfl)⟩
    d__law_rounds := by
      obtain ⟨fd, q⟩ := d.def_ 12 (d := ⟨("_law_rounds", none), "_law_rounds", "_law_rounds", defArgs s__law_rounds, defBody s__law_rounds, defScope s__law_rounds, [], []⟩) rfl
      exact ⟨_, fd, q, glo (d.fact 12 (f := .glo "_law_rounds") rfl)⟩
    e_TextError := ⟨xe1, glo (d.fact 17 (f := .glo "TextError") rfl), xe2, xe3, xe4⟩
    c_ALPHABET := st (d.fact 27 (f := .str "ALPHABET" (S alphabet)) rfl)
    c_GAPS := st (d.fact 28 (f := .str "GAPS" (S [32, 10])) rfl)
    c_COMMENT := st (d.fact 29 (f := .str "COMMENT" (S [45, 45])) rfl)
    c_LETTERS := st (d.fact 30 (f := .str "LETTERS" (S letters)) rfl)
    c_SMALL_LETTERS := st (d.fact 31 (f := .str "SMALL_LETTERS" (S small)) rfl)
    c_DIGITS := st (d.fact 32 (f := .str "DIGITS" (S digits)) rfl)
    c_QUOTE := st (d.fact 33 (f := .str "QUOTE" (S [39])) rfl)
    c_INT_KEYWORD := st (d.fact 34 (f := .str "INT_KEYWORD" (S sInt)) rfl)
    c_INT_KIND := st (d.fact 35 (f := .str "INT_KIND" (S sKind)) rfl)
    c_END := st (d.fact 36 (f := .str "END" (S sEnd)) rfl)
    d_sign_number := by
      obtain ⟨fd, q⟩ := d.def_ 0 (d := ⟨("sign_number", none), "sign_number", "sign_number", defArgs s_sign_number, defBody s_sign_number, defScope s_sign_number, [], []⟩) rfl
      exact ⟨_, fd, q, glo (d.fact 0 (f := .glo "sign_number") rfl)⟩
    d_check_text := by
      obtain ⟨fd, q⟩ := d.def_ 1 (d := ⟨("check_text", none), "check_text", "check_text", defArgs s_check_text, defBody s_check_text, defScope s_check_text, [], []⟩) rfl
      exact ⟨_, fd, q, glo (d.fact 1 (f := .glo "check_text") rfl)⟩
    d_run_end := by
      obtain ⟨fd, q⟩ := d.def_ 2 (d := ⟨("run_end", none), "run_end", "run_end", defArgs s_run_end, defBody s_run_end, defScope s_run_end, [], []⟩) rfl
      exact ⟨_, fd, q, glo (d.fact 2 (f := .glo "run_end") rfl)⟩
    d_gap_end := by
      obtain ⟨fd, q⟩ := d.def_ 3 (d := ⟨("gap_end", none), "gap_end", "gap_end", defArgs s_gap_end, defBody s_gap_end, defScope s_gap_end, [], []⟩) rfl
      exact ⟨_, fd, q, glo (d.fact 3 (f := .glo "gap_end") rfl)⟩
    t_cl := He.cls_ok (d.fact 39 (f := .cls "Token") rfl)
    t_w := He.noat_ok (d.fact 40 (f := .noat "Token" "word") rfl)
    t_v := He.noat_ok (d.fact 41 (f := .noat "Token" "value") rfl)
    t_p := He.noat_ok (d.fact 42 (f := .noat "Token" "place") rfl)
    t_g := glo (d.fact 16 (f := .glo "Token") rfl)
    t_i := by
      obtain ⟨fd, q⟩ := d.def_ 16 (d := ⟨("Token", some "__init__"), "__init__", "Token.__init__", defArgs s_Token___init__, defBody s_Token___init__, defScope s_Token___init__, [], []⟩) rfl
      exact ⟨_, fd, q, He.mkr_ok (d.fact 44 (f := .mkr "Token") rfl)⟩
    t_s := by
      obtain ⟨fd, q⟩ := d.def_ 17 (d := ⟨("Token", some "shown"), "shown", "Token.shown", defArgs s_Token_shown, defBody s_Token_shown, defScope s_Token_shown, [], []⟩) rfl
      exact ⟨_, fd, q, He.meth_ok (d.fact 43 (f := .meth "Token" "shown") rfl)⟩
    c_MOST_DIGITS := it (d.fact 37 (f := .int "MOST_DIGITS" 19) rfl)
    c_HIGHEST := it (d.fact 38 (f := .int "HIGHEST" 9223372036854775807) rfl)
    c_LONG_SIGNS := ⟨_, glo (d.fact 19 (f := .glo "LONG_SIGNS") rfl), rfl⟩
    q_LONG_SIGNS := fun H => tup_of hx0 H
    c_SHORT_SIGNS := ⟨_, glo (d.fact 20 (f := .glo "SHORT_SIGNS") rfl), rfl⟩
    q_SHORT_SIGNS := fun H => tup_of hx1 H
    c_KEYWORDS := ⟨_, glo (d.fact 21 (f := .glo "KEYWORDS") rfl), rfl⟩
    q_KEYWORDS := fun H => tup_of hx2 H
    d_word_token := by
      obtain ⟨fd, q⟩ := d.def_ 4 (d := ⟨("word_token", none), "word_token", "word_token", defArgs s_word_token, defBody s_word_token, defScope s_word_token, [], []⟩) rfl
      exact ⟨_, fd, q, glo (d.fact 4 (f := .glo "word_token") rfl)⟩
    d_number_token := by
      obtain ⟨fd, q⟩ := d.def_ 5 (d := ⟨("number_token", none), "number_token", "number_token", defArgs s_number_token, defBody s_number_token, defScope s_number_token, [], []⟩) rfl
      exact ⟨_, fd, q, glo (d.fact 5 (f := .glo "number_token") rfl)⟩
    d_quoted_token := by
      obtain ⟨fd, q⟩ := d.def_ 6 (d := ⟨("quoted_token", none), "quoted_token", "quoted_token", defArgs s_quoted_token, defBody s_quoted_token, defScope s_quoted_token, [], []⟩) rfl
      exact ⟨_, fd, q, glo (d.fact 6 (f := .glo "quoted_token") rfl)⟩
    d_token_at := by
      obtain ⟨fd, q⟩ := d.def_ 7 (d := ⟨("token_at", none), "token_at", "token_at", defArgs s_token_at, defBody s_token_at, defScope s_token_at, [], []⟩) rfl
      exact ⟨_, fd, q, glo (d.fact 7 (f := .glo "token_at") rfl)⟩
    d_tokenize := by
      obtain ⟨fd, q⟩ := d.def_ 8 (d := ⟨("tokenize", none), "tokenize", "tokenize", defArgs s_tokenize, defBody s_tokenize, defScope s_tokenize, [], []⟩) rfl
      exact ⟨_, fd, q, glo (d.fact 8 (f := .glo "tokenize") rfl)⟩
    d_is_plain_name := by
      obtain ⟨fd, q⟩ := d.def_ 9 (d := ⟨("is_plain_name", none), "is_plain_name", "is_plain_name", defArgs s_is_plain_name, defBody s_is_plain_name, defScope s_is_plain_name, [], []⟩) rfl
      exact ⟨_, fd, q, glo (d.fact 9 (f := .glo "is_plain_name") rfl)⟩
    d__law_token := by
      obtain ⟨fd, q⟩ := d.def_ 14 (d := ⟨("_law_token", none), "_law_token", "_law_token", defArgs s__law_token, defBody s__law_token, defScope s__law_token, [], []⟩) rfl
      exact ⟨_, fd, q, glo (d.fact 14 (f := .glo "_law_token") rfl)⟩
    d__law_told := by
      obtain ⟨fd, q⟩ := d.def_ 13 (d := ⟨("_law_told", none), "_law_told", "_law_told", defArgs s__law_told, defBody s__law_told, defScope s__law_told, [], []⟩) rfl
      exact ⟨_, fd, q, glo (d.fact 13 (f := .glo "_law_told") rfl)⟩
    m_TableError := glo (d.fact 18 (f := .glo "TableError") rfl)
    x_TE := He.exm_ok (d.fact 46 (f := .exm "TextError" "TextError" true) rfl)
  }
end K01
end

section
-- part K01J
set_option Elab.async false
set_option linter.all false
set_option maxRecDepth 100000
set_option maxHeartbeats 0
namespace K01
open PySem PySem.Spec PyProof.Rows L2 Fw Lx
theorem run0 (w : World) : HandSHeadRun.RunEq R0 (PySem.W.view R0.prog [37]) hk0 ob0 2000 loose0 w := by
  intro os
  kernel_rfl
end K01
end

section
-- part K01K
set_option Elab.async false
set_option linter.all false
set_option maxRecDepth 100000
set_option maxHeartbeats 2000000
namespace K01
open PySem PySem.Spec PyProof.Rows L2 Fw Lx LamX
theorem law_at {w : World} {h : Heap} {K : PySem.W.Frag} {mg : Str → Option Value} {fa : Addr} (X : K.In h) (G : h.Ns mainGlobals mg) (hfa : mg ("law" : Str) = some (.ref fa)) (c : He.SaysX faD fnD [] tfD exD w h K) :
    LawAtS PySem.Challenge.rw_tablestack_k01_texts_to_tokens w K (L2.CX (PySem.Challenge.rw_tablestack_k01_texts_to_tokens).prog w) 13 63 "script" mg fa h := by
  have W := facts X G c
  have d := c.t.d
  obtain ⟨fd, F⟩ := d.defs (d := ⟨("law", none), "law", "law", defArgs s_law, defBody s_law, defScope s_law, [], []⟩) (by repeat (first | exact List.mem_cons_self | apply List.mem_cons_of_mem))
  have e := hfa.symm.trans (He.glo_ok X G (d.facts (f := .glo "law") (by repeat (first | exact List.mem_cons_self | apply List.mem_cons_of_mem))))
  cases e
  have b := FunD.bindsA (ps := ["script"]) F fun _ _ _ _ _ _ us hl => match us, hl with | [_], _ => rfl
  have hcode : fd.code = .ref (He.cT K ("law", none)).1 := by
    obtain ⟨oc, od, dV, kV, doc, pm, an, cdv, ct, osl, rfl, lk, hcd, _, _⟩ := F.ex
    obtain ⟨c', rfl⟩ := He.codeIn_ref hcd
    show Value.ref c' = _
    exact congrArg Value.ref (He.codeOf_eq lk rfl).symm
  refine ⟨fd, [He.cT K ("law", none)], spLaw K (He.cT K ("law", none)).2, ?_, ?_, ?_, fun s v => b s [v] rfl, fun H a ns hl _ hH hS => ?_, fun base hK hm hT => ?_⟩
  · intro p hp
    rw [List.mem_singleton.mp hp]
    exact c.empty _ List.mem_cons_self
  · intro p hp
    rw [List.mem_singleton.mp hp]
    exact c.out _ List.mem_cons_self
  · intro p hp
    rw [List.mem_singleton.mp hp]
    exact PySem.W.codeHd_of_K X (c.hd _ List.mem_cons_self)
  · refine ⟨a, ns, rfl, hS, hl, fun q hq => ?_, fun _ => rfl⟩
    rw [List.mem_singleton.mp hq]
    exact TabS.nil (hH _ List.mem_cons_self)
  · have TB := hT _ List.mem_cons_self
    have roll := ok__law_roll (P := (PySem.Challenge.rw_tablestack_k01_texts_to_tokens).prog) (w := w) (base := base) W.toWl
    have dice := ok__law_dice (P := (PySem.Challenge.rw_tablestack_k01_texts_to_tokens).prog) (w := w) (base := base) W.toWl
    have rounds := ok__law_rounds W.toWl dice
    have sign := ok_sign_number (P := (PySem.Challenge.rw_tablestack_k01_texts_to_tokens).prog) (w := w) (base := base) W.toWx
    have check := ok_check_text W.toWx sign
    have run := ok_run_end (P := (PySem.Challenge.rw_tablestack_k01_texts_to_tokens).prog) (w := w) (base := base) W.toWx
    have gapE := ok_gap_end (P := (PySem.Challenge.rw_tablestack_k01_texts_to_tokens).prog) (w := w) (base := base) W.toWx
    have init := ok_tok_init (P := (PySem.Challenge.rw_tablestack_k01_texts_to_tokens).prog) (w := w) (base := base) W.toWt
    have shown := ok_tok_shown (P := (PySem.Challenge.rw_tablestack_k01_texts_to_tokens).prog) (w := w) (base := base) W.toWt
    have plainN := ok_is_plain_name W.toWt run
    have word := ok_word_token W.toWt run init
    have num := ok_number_token W.toWt run init
    have quo := ok_quoted_token W.toWt check init
    have tokA := ok_token_at W.toWt word num quo init
    have tokz := ok_tokenize W.toWt gapE tokA init
    have tokn := ok__law_token W.toWk roll
    exact ok_law W F hcode TB roll rounds tokn tokz plainN init shown
end K01
open PySem PySem.W PySem.Calls PyProof.Rows
theorem PySem.Challenge.cw_tablestack_k01_texts_to_tokens_holds : PySem.Challenge.rw_tablestack_k01_texts_to_tokens.Holds := by
  w_on; o_law
  refine HandSHeadRun.head_any (r := OpenLaw.row PySem.Challenge.rw_tablestack_k01_texts_to_tokens) (q := view (OpenLaw.row PySem.Challenge.rw_tablestack_k01_texts_to_tokens).prog [37]) (H := K01.hk0) (ob := K01.ob0) (M := 2000) (loose := K01.loose0) (d := HandSHeadRun.topDef (OpenLaw.row PySem.Challenge.rw_tablestack_k01_texts_to_tokens).prog 37) (kwd := []) K01.ob0_eq
    (by kernel_rfl) (fun s => by kernel_rfl) K01.run0 (by kernel_rfl) (by kernel_rfl) (by kernel_rfl) (by rfl) (by first | assumption | decide +kernel) (by decide +kernel) ⟨rfl, rfl, rfl, rfl, rfl, by decide +kernel⟩ ?hw ?hc
  case hw => w_witness2
  case hc =>
    refine LamX.walk_ofTsE (l := PySem.Challenge.rw_tablestack_k01_texts_to_tokens) (n := 63) (k := 13) (x := "script") (CX := fun w => L2.CX (PySem.Challenge.rw_tablestack_k01_texts_to_tokens).prog w) rfl (by decide) (by kernel_rfl) ⟨rfl, by decide, by decide⟩ ?F (fun _ _ _ _ _ z => by
      obtain ⟨_, _, _, _, _, _, _, _, _, _, _, _, z⟩ := z
      exact z)
    intro w mg fa h Y G hmg0
    obtain ⟨K, KX, c⟩ := Y
    have hmg : mg ("law" : PySem.Str) = some (.ref fa) := by
      have e : (HandSHeadRun.topDef (OpenLaw.row PySem.Challenge.rw_tablestack_k01_texts_to_tokens).prog 37).name = ("law" : PySem.Str) := by kernel_rfl
      rw [← e]
      exact hmg0
    exact ⟨K, KX, K01.law_at KX G hmg c⟩
end
