import PyProof.Rows.All
import Wide.All
import OpenK.AllK
import Wide.FinOn
import PyProof.EqAt
import PyProof.EqKinds
import PyProof.TupleCall
import KE.KLam
import HandS.ForMost
import HandS.Wide
import HandS.StrMore
import HandS.Replace
import HandS.FStr
import HandS.Exc
import HandS.ExcOwn
import HandS.TryMany
import HandS.WordsExc
import HandS.Small
import HandS.RaiseMore
import HandS.Deep
import HandS.DeepEq
import HandS.CallRecv
import HandS.Lambda
import HandS.EndBits
import HandS.EndTab
import HandS.HeadWalk
import HandS.Defaults
import HandS.Head0
import HandS.Head1
import HandS.Head2
import HandS.HeadHook1
import HandS.HeadHook2
import HandS.HeadHook3
import HandS.HeadHook4
import HandS.ReplaceLit
import HandS.Star
import HandS.Style
import HandS.IsInst
import HandS.TupAny
import HandS.TupMul
import PyProof.AutoSeq1
import KE.GoesMore
import KE.GoesEnum
import HandS.Zip
import PyProof.ListRange
import HandS.More
import HandS.RaiseFrom
import HandS.MapSum
import PyProof.CallType
import PyProof.RangeIter
import HandS.AnyAll
import HandS.Nested
import HandS.DictComp
import HandS.Walk
import HandS.Steps
import HandS.WordsDict
import HandS.Head3
import PySem.Challenge.RW_tablestack_k11_a_few_pages_in_memory
section
-- part Fw
set_option Elab.async false
set_option linter.all false
set_option maxRecDepth 100000
set_option maxHeartbeats 2000000
/-! Fw: words of our own over the hand layer: a def that may be called by its name, what is kept of a heap, dice. -/
namespace Fw
open PySem PySem.Spec PyProof.Rows L2

/-- a def of the module that may be called by its name x; it may raise -/
structure Cl (P : Program) (w : World) (K : PySem.W.Frag) (mg : Str → Option Value) (base : Heap) (k : Nat) (x : Str) (sp : Sp) : Prop where
  ex : ∃ (f : Addr) (fd : FuncData) (ps : List Str), FnOk P w K mg base (L2.CX P w) k f fd ps sp ∧ mg x = some (.ref f) ∧ PySem.W.keepIn K (.ref f) = true ∧ Binds K fd ps []
abbrev FnP (K : PySem.W.Frag) (mg : Str → Option Value) (x : Str) (st : Stmt) : Prop := ∃ (f : Addr) (fd : FuncData), FunD K x x (defArgs st) (defBody st) (defScope st) [] [] f fd ∧ mg x = some (.ref f)
section
variable {P : Program} {w : World} {K : PySem.W.Frag} {mg : Str → Option Value} {base : Heap} {x : Str} {st : Stmt}
theorem cl_mk {N ps : List Str} {k : Nat} {sp : Sp} (F : FnP K mg x st) (S : FnScope N ps (defScope st))
    (b : ∀ (kV doc pm : Value) (an : Option Addr) (cdv ct : Value) (us : List Value), us.length = ps.length → bindArgs (PySem.W.fnOf x x (defArgs st) (defBody st) (defScope st) .none kV doc pm an cdv ct) ⟨us, []⟩ = pure (ps.zip us))
    (len : ∀ vs H Q E, sp vs H Q E → vs.length = ps.length)
    (hbody : ∀ (f : Addr) (cdv : Value) (A : Around) (outer : List Env) (s : Shared) (H : Hp) (vs : List V) (Q : VK) (E : XK), Room k (A.deeper (envOfC x (defScope st) s.heap.objs.size f cdv)) → sp vs H Q E →
      ∃ t, PSs (cxOf (L2.CX P w) P w K mg base N x (defScope st) f cdv A outer s H E) (defBody st) t ∧ t { nx := fun _ H' => Q .non H', rt := Q } (start N vs) H) : Cl P w K mg base (k + 1) x sp := by
  obtain ⟨f, fd, F, m⟩ := F
  exact ⟨f, fd, ps, F.ok S len (hbody f), m, F.kp, F.bindsN b⟩
theorem Cl.mono {j k : Nat} {sp : Sp} (c : Cl P w K mg base j x sp) (h : j ≤ k) : Cl P w K mg base k x sp := by
  obtain ⟨f, fd, ps, F, m, kp, b⟩ := c.ex
  exact ⟨f, fd, ps, F.mono h, m, kp, b⟩
/-- a promise that says more -/
theorem Cl.imp {k : Nat} {sp sp' : Sp} (c : Cl P w K mg base k x sp) (h : ∀ vs H Q E, sp' vs H Q E → sp vs H Q E) : Cl P w K mg base k x sp' := by
  obtain ⟨f, fd, ps, F, m, kp, b⟩ := c.ex
  exact ⟨f, fd, ps, ⟨fun vs H Q E q => F.len vs H Q E (h _ _ _ _ q), fun A outer s H args us vs Q E hr e0 hb r q => F.run A outer s H args us vs Q E hr e0 hb r (h _ _ _ _ q)⟩, m, kp, b⟩
end
def tCl (sp : Sp) (E : XK) (t : TA) : TE := fun σ H Q => t σ H fun vs H1 => sp vs H1 Q E
section
variable {X : Cx} {k j : Nat} {C : Addr} {x m : Str} {sp : Sp} {E : XK} {p pos apos : Pos} {e o : Expr} {es : List Expr} {ta : TE} {t : TA}
theorem pe_cl (c : Cl X.prog X.w X.K X.mg X.base k x sp) (hr : Room j X.A) (hk : k ≤ j) (hg : Gl X x) (hx : Passes (L2.CX X.prog X.w) X E) (ha : PA X (e :: es) t)
    (hdb : (x == ("__debug__" : Str)) = false := by decide) (he : starEach (e :: es) X.env = (false, eval e X.env) :: starEach es X.env := by rfl) (hpl : (backTo pos (starEach es X.env)).any (·.1) = false := by rfl) :
    PE X (.Call (.Name x p) (e :: es) [] pos) (tCl sp E t) := by
  obtain ⟨f, fd, ps, F, hm, kp, b⟩ := c.ex
  refine ⟨fun pins s σ H Q I h => ?_⟩
  refine (pe_call F (hr.mono hk) hg hm kp b .nil hx ha hdb he hpl).run pins s σ H Q I ?_
  have q : t σ H fun vs H1 => sp vs H1 Q E := h
  show t σ H fun vs H1 => sp (vs ++ []) H1 Q E
  have e0 : (fun (vs : List V) (H1 : Hp) => sp (vs ++ []) H1 Q E) = fun vs H1 => sp vs H1 Q E := by
    funext vs H1
    rw [List.append_nil]
  rw [e0]
  exact q
/-- what leaves a def's own body -/
theorem passD {P : Program} {w : World} {K : PySem.W.Frag} {mg : Str → Option Value} {base : Heap} {N : List Str} {x : Str} {sc : Scope} {f : Addr} {cdv : Value} {A : Around} {outer : List Env} {s : Shared} {H : Hp} {E : XK} :
    Passes (L2.CX P w) (cxOf (L2.CX P w) P w K mg base N x sc f cdv A outer s H E) E := passes_call (takes_of rfl rfl rfl rfl) fun _ _ _ _ h => h
end

/-! ### texts as lists of signs -/
abbrev T (l : List Nat) : V := .str ⟨l.toArray⟩
theorem tl_mk (l : List Nat) : ((⟨l.toArray⟩ : Str).cps.toList) = l := by simp
theorem len_mk (l : List Nat) : (⟨l.toArray⟩ : Str).length = l.length := by simp [Str.length]

/-! ### heaps: all but one object is kept -/
def Kp (d : Addr) (H H' : Hp) : Prop := ∀ b o, b ≠ d → H b = some o → H' b = some o
theorem Kp.refl (d : Addr) (H : Hp) : Kp d H H := fun _ _ _ h => h
theorem Kp.trans {d : Addr} {H H1 H2 : Hp} (a : Kp d H H1) (b : Kp d H1 H2) : Kp d H H2 := fun c o n h => b c o n (a c o n h)
theorem Kp.at_ {d : Addr} {H : Hp} {o : HO} : Kp d H (upd H d o) := fun b u n h => by rw [upd_ne n]; exact h
theorem Kp.of {d : Addr} {H H' : Hp} (h : Same H H') : Kp d H H' := fun b o _ e => h b o e
theorem same_new {H : Hp} {p : Addr} (h : H p = none) (o : HO) : Same H (upd H p o) := fun b u q => by rw [upd_ne (ne_of_none q h)]; exact q
theorem Kp.new {d : Addr} {H : Hp} {p : Addr} {o : HO} (h : H p = none) : Kp d H (upd H p o) := Kp.of (same_new h o)
/-- three ints at d -/
def Dice (H : Hp) (d : Addr) : Prop := ∃ a b c : Int, H d = some (.lst [.int a, .int b, .int c])
theorem Dice.new {H : Hp} {d p : Addr} {o : HO} (h : Dice H d) (hp : H p = none) : Dice (upd H p o) d := by
  obtain ⟨a, b, c, e⟩ := h
  exact ⟨a, b, c, by rw [upd_ne (ne_of_none e hp)]; exact e⟩
/-! ### classes -/
/-- a class that may be made by its name x -/
structure Mc (P : Program) (w : World) (K : PySem.W.Frag) (mg : Str → Option Value) (base : Heap) (k : Nat) (x : Str) (C : Addr) (sp : Sp) : Prop where
  ex : ∃ (f : Addr) (fd : FuncData) (ps : List Str), Mk K C f ∧ FnOk P w K mg base (L2.CX P w) k f fd ps sp ∧ mg x = some (.ref C) ∧ Binds K fd ps []
/-- a method m of the class at C -/
structure Me (P : Program) (w : World) (K : PySem.W.Frag) (mg : Str → Option Value) (base : Heap) (k : Nat) (C : Addr) (m : Str) (sp : Sp) : Prop where
  ex : ∃ (f : Addr) (fd : FuncData) (ps : List Str), Cls K C ∧ Meth K C m f ∧ FnOk P w K mg base (L2.CX P w) k f fd ps sp ∧ Binds K fd ps []
/-- a method's text as it stands -/
abbrev FnM (K : PySem.W.Frag) (C : Addr) (m qual : Str) (st : Stmt) : Prop := ∃ (f : Addr) (fd : FuncData), FunD K m qual (defArgs st) (defBody st) (defScope st) [] [] f fd ∧ Meth K C m f
section
variable {P : Program} {w : World} {K : PySem.W.Frag} {mg : Str → Option Value} {base : Heap} {x m qual : Str} {st : Stmt} {C : Addr}
theorem fn_m {N ps : List Str} {k : Nat} {sp : Sp} {f : Addr} {fd : FuncData} (F : FunD K m qual (defArgs st) (defBody st) (defScope st) [] [] f fd) (S : FnScope N ps (defScope st))
    (len : ∀ vs H Q E, sp vs H Q E → vs.length = ps.length)
    (hbody : ∀ (f : Addr) (cdv : Value) (A : Around) (outer : List Env) (s : Shared) (H : Hp) (vs : List V) (Q : VK) (E : XK), Room k (A.deeper (envOfC qual (defScope st) s.heap.objs.size f cdv)) → sp vs H Q E →
      ∃ t, PSs (cxOf (L2.CX P w) P w K mg base N qual (defScope st) f cdv A outer s H E) (defBody st) t ∧ t { nx := fun _ H' => Q .non H', rt := Q } (start N vs) H) : FnOk P w K mg base (L2.CX P w) (k + 1) f fd ps sp := F.ok S len (hbody f)
theorem mc_mk {N ps : List Str} {k : Nat} {sp : Sp} (F : ∃ (f : Addr) (fd : FuncData), FunD K "__init__" qual (defArgs st) (defBody st) (defScope st) [] [] f fd ∧ Mk K C f) (hm : mg x = some (.ref C)) (S : FnScope N ps (defScope st))
    (b : ∀ (kV doc pm : Value) (an : Option Addr) (cdv ct : Value) (us : List Value), us.length = ps.length → bindArgs (PySem.W.fnOf "__init__" qual (defArgs st) (defBody st) (defScope st) .none kV doc pm an cdv ct) ⟨us, []⟩ = pure (ps.zip us))
    (len : ∀ vs H Q E, sp vs H Q E → vs.length = ps.length)
    (hbody : ∀ (f : Addr) (cdv : Value) (A : Around) (outer : List Env) (s : Shared) (H : Hp) (vs : List V) (Q : VK) (E : XK), Room k (A.deeper (envOfC qual (defScope st) s.heap.objs.size f cdv)) → sp vs H Q E →
      ∃ t, PSs (cxOf (L2.CX P w) P w K mg base N qual (defScope st) f cdv A outer s H E) (defBody st) t ∧ t { nx := fun _ H' => Q .non H', rt := Q } (start N vs) H) : Mc P w K mg base (k + 1) x C sp := by
  obtain ⟨f, fd, F, M⟩ := F
  exact ⟨f, fd, ps, M, fn_m F S len hbody, hm, F.bindsN b⟩
theorem me_mk {N ps : List Str} {k : Nat} {sp : Sp} (F : FnM K C m qual st) (c : Cls K C) (S : FnScope N ps (defScope st))
    (b : ∀ (kV doc pm : Value) (an : Option Addr) (cdv ct : Value) (us : List Value), us.length = ps.length → bindArgs (PySem.W.fnOf m qual (defArgs st) (defBody st) (defScope st) .none kV doc pm an cdv ct) ⟨us, []⟩ = pure (ps.zip us))
    (len : ∀ vs H Q E, sp vs H Q E → vs.length = ps.length)
    (hbody : ∀ (f : Addr) (cdv : Value) (A : Around) (outer : List Env) (s : Shared) (H : Hp) (vs : List V) (Q : VK) (E : XK), Room k (A.deeper (envOfC qual (defScope st) s.heap.objs.size f cdv)) → sp vs H Q E →
      ∃ t, PSs (cxOf (L2.CX P w) P w K mg base N qual (defScope st) f cdv A outer s H E) (defBody st) t ∧ t { nx := fun _ H' => Q .non H', rt := Q } (start N vs) H) : Me P w K mg base (k + 1) C m sp := by
  obtain ⟨f, fd, F, M⟩ := F
  exact ⟨f, fd, ps, c, M, fn_m F S len hbody, F.bindsN b⟩
end
def tMk (C : Addr) (sp : Sp) (E : XK) (t : TA) : TE := fun σ H Q => t σ H fun vs H1 => ∀ x dx, H1 x = none → H1 dx = none → dx ≠ x → sp (.ref x :: vs) (upd (upd H1 dx (.own x)) x (.ins C dx [])) (fun v H2 => v = .non ∧ Q (.ref x) H2) E
def tMe (C : Addr) (m : Str) (sp : Sp) (E : XK) (ta : TE) (t : TA) : TE := fun σ H Q => ta σ H fun x H1 => ∃ a dx fs, x = .ref a ∧ H1 a = some (.ins C dx fs) ∧ fs.lookup m = none ∧ t σ H1 fun vs H2 => sp (x :: vs) H2 Q E
section
variable {X : Cx} {k j : Nat} {C : Addr} {x m : Str} {sp : Sp} {E : XK} {p pos apos : Pos} {e o : Expr} {es : List Expr} {ta : TE} {t : TA}
theorem pe_mc (c : Mc X.prog X.w X.K X.mg X.base k x C sp) (hr : Room j X.A) (hk : k + 1 ≤ j) (hg : Gl X x) (hx : Passes (L2.CX X.prog X.w) X E) (ha : PA X (e :: es) t)
    (hdb : (x == ("__debug__" : Str)) = false := by decide) (he : starEach (e :: es) X.env = (false, eval e X.env) :: starEach es X.env := by rfl) (hpl : (backTo pos (starEach es X.env)).any (·.1) = false := by rfl) :
    PE X (.Call (.Name x p) (e :: es) [] pos) (tMk C sp E t) := by
  obtain ⟨f, fd, ps, M, F, hm, b⟩ := c.ex
  refine ⟨fun pins s σ H Q I h => ?_⟩
  refine (pe_make M F (hr.mono hk) hg hm b .nil hx ha hdb he hpl).run pins s σ H Q I ?_
  have q : t σ H fun vs H1 => ∀ x dx, H1 x = none → H1 dx = none → dx ≠ x → sp (.ref x :: vs) (upd (upd H1 dx (.own x)) x (.ins C dx [])) (fun v H2 => v = .non ∧ Q (.ref x) H2) E := h
  have e0 : (fun (vs : List V) (H1 : Hp) => ∀ x dx, H1 x = none → H1 dx = none → dx ≠ x → sp (.ref x :: (vs ++ [])) (upd (upd H1 dx (.own x)) x (.ins C dx [])) (fun v H2 => v = .non ∧ Q (.ref x) H2) E) =
      fun vs H1 => ∀ x dx, H1 x = none → H1 dx = none → dx ≠ x → sp (.ref x :: vs) (upd (upd H1 dx (.own x)) x (.ins C dx [])) (fun v H2 => v = .non ∧ Q (.ref x) H2) E := by
    funext vs H1
    rw [List.append_nil]
  show t σ H fun vs H1 => ∀ x dx, H1 x = none → H1 dx = none → dx ≠ x → sp (.ref x :: (vs ++ [])) (upd (upd H1 dx (.own x)) x (.ins C dx [])) (fun v H2 => v = .non ∧ Q (.ref x) H2) E
  rw [e0]
  exact q
theorem pe_me {pl : Sem Bool} (c : Me X.prog X.w X.K X.mg X.base k C m sp) (hr : Room j X.A) (hk : k ≤ j) (hx : Passes (L2.CX X.prog X.w) X E) (he : PE X o ta) (ha : PA X (e :: es) t)
    (hst : starEach (e :: es) X.env = (false, eval e X.env) :: starEach es X.env := by rfl) (hpl : (backTo pos (starEach es X.env)).any (·.1) = false := by rfl)
    (ht : eval (.Call (.Attribute o m apos) (e :: es) [] pos) X.env = (do
      let ov ← eval o X.env
      standAt apos.atName
      let (f, first) ← holding [ov] (getMethod ov m pl)
      callWith pos f first (backTo pos (starEach (e :: es) X.env)) (backToKw pos (keywordEach [] X.env))) := by rfl) :
    PE X (.Call (.Attribute o m apos) (e :: es) [] pos) (tMe C m sp E ta t) := by
  obtain ⟨f, fd, ps, hc, hm, F, b⟩ := c.ex
  refine ⟨fun pins s σ H Q I h => ?_⟩
  refine (pe_meth (pl := pl) he hc hm F (hr.mono hk) b .nil hx ha hst hpl ht).run pins s σ H Q I ?_
  have e0 : (fun (x : V) (H1 : Hp) => ∃ a dx fs, x = .ref a ∧ H1 a = some (.ins C dx fs) ∧ fs.lookup m = none ∧ t σ H1 fun vs H2 => sp (x :: (vs ++ [])) H2 Q E) =
      fun x H1 => ∃ a dx fs, x = .ref a ∧ H1 a = some (.ins C dx fs) ∧ fs.lookup m = none ∧ t σ H1 fun vs H2 => sp (x :: vs) H2 Q E := by
    funext x H1
    simp only [List.append_nil]
  show ta σ H fun x H1 => ∃ a dx fs, x = .ref a ∧ H1 a = some (.ins C dx fs) ∧ fs.lookup m = none ∧ t σ H1 fun vs H2 => sp (x :: (vs ++ [])) H2 Q E
  rw [e0]
  exact h
theorem pe_me0 {pl : Sem Bool} (c : Me X.prog X.w X.K X.mg X.base k C m sp) (hr : Room j X.A) (hk : k ≤ j) (hx : Passes (L2.CX X.prog X.w) X E) (he : PE X o ta)
    (ht : eval (.Call (.Attribute o m apos) [] [] pos) X.env = (do
      let ov ← eval o X.env
      standAt apos.atName
      let (f, first) ← holding [ov] (getMethod ov m pl)
      callWith pos f first (backTo pos (starEach [] X.env)) (backToKw pos (keywordEach [] X.env))) := by rfl) :
    PE X (.Call (.Attribute o m apos) [] [] pos) (tMe C m sp E ta tNil) := by
  obtain ⟨f, fd, ps, hc, hm, F, b⟩ := c.ex
  exact pe_meth0 (pl := pl) he hc hm F (hr.mono hk) b .nil hx ht
end
end Fw
end

section
-- part Fs
set_option Elab.async false
set_option linter.all false
set_option maxRecDepth 100000
set_option maxHeartbeats 2000000
/-! Fs: readings, step by step -/
namespace Fw
open PySem PySem.Spec PyProof.Rows L2
section
variable {K : PySem.W.Frag} {σ : L2.St} {H : Hp} {Q : VK} {ta tb te tc : TE} {t u : TS} {D : Ends} {v x y : V} {i : Nat} {r : R2} {tt tu : TT} {QT : Bool → Hp → Prop} {tr : TA} {QA : List V → Hp → Prop} {E : XK} {sp : Sp}
theorem w_seq (h : t { D with nx := u D } σ H) : tSeq t u D σ H := h
theorem w_asg {g : TG} (h : te σ H fun x H1 => g x σ H1 D.nx) : tAsg te g D σ H := h
theorem w_ret (h : te σ H D.rt) : tRet te D σ H := h
theorem w_drop (h : te σ H fun _ H1 => D.nx σ H1) : tDrop te D σ H := h
theorem w_next (h : D.nx σ H) : tNext D σ H := h
theorem w_ifs (h : tt σ H fun b H1 => if b = true then t D σ H1 else u D σ H1) : tIfS tt t u D σ H := h
theorem w_var (h : σ[i]? = some (some v)) (q : Q v H) : tVar i σ H Q := ⟨v, h, q⟩
theorem w_c (q : Q v H) : tC v σ H Q := q
theorem w_op (h : ta σ H fun x H1 => tb σ H1 fun y H2 => r x y H2 Q) : tOp r ta tb σ H Q := h
theorem w_un {r : V → Hp → VK → Prop} (h : ta σ H fun x H1 => r x H1 Q) : tUn r ta σ H Q := h
theorem w_cons (h : ta σ H fun x H1 => tr σ H1 fun xs H2 => QA (x :: xs) H2) : tCons ta tr σ H QA := h
theorem w_nil (q : QA [] H) : tNil σ H QA := q
theorem w_cl (h : tr σ H fun vs H1 => sp vs H1 Q E) : tCl sp E tr σ H Q := h
theorem w_cb {r : List V → Hp → VK → Prop} (h : tr σ H fun vs H1 => r vs H1 Q) : tCB r tr σ H Q := h
theorem w_gname {Q : L2.St → Hp → Prop} (h : Q (σ.set i (some v)) H) : gName i v σ H Q := h
theorem w_gsub {Q : L2.St → Hp → Prop} {s : TSet} (h : ta σ H fun o H1 => tb σ H1 fun i H2 => s o i v H2 fun H3 => Q σ H3) : gSub ta tb s v σ H Q := h
theorem w_test (h : te σ H fun x H1 => ∃ k, x = .bl k ∧ QT k H1) : tTest te σ H QT := h
theorem w_B (h : te σ H fun x H1 => ∃ k, x = .bl k ∧ QT k H1) : tB te σ H QT := h
theorem w_bl {b : Bool} {P : Bool → Prop} (h : P b) : ∃ k, V.bl b = V.bl k ∧ P k := ⟨b, rfl, h⟩
theorem w_and (h : tt σ H fun b H1 => if b = true then tu σ H1 QT else QT false H1) : tAnd tt tu σ H QT := h
theorem w_or (h : tt σ H fun b H1 => if b = true then QT true H1 else tu σ H1 QT) : tOr tt tu σ H QT := h
theorem w_not (h : tt σ H fun b H1 => QT (!b) H1) : tNot tt σ H QT := h
theorem w_if (h : tt σ H fun b H1 => if b = true then ta σ H1 Q else tb σ H1 Q) : tIf tt ta tb σ H Q := h
theorem w_I0 {g : Int → Int → V} {i j : Int} (q : Q (g i j) H) : rI0 g (.int i) (.int j) H Q := ⟨i, j, rfl, rfl, q⟩
theorem w_I {C : Int → Int → Prop} {g : Int → Int → V} {i j : Int} (c : C i j) (q : Q (g i j) H) : rI C g (.int i) (.int j) H Q := ⟨i, j, rfl, rfl, c, q⟩
theorem w_eq (s : scal x y = true) (q : Q (.bl (decide (x = y))) H) : rEq x y H Q := ⟨s, q⟩
theorem w_ne (s : scal x y = true) (q : Q (.bl (!decide (x = y))) H) : rNe x y H Q := ⟨s, q⟩
theorem w_ixL {p : Addr} {xs : List V} {i : Int} (h : H p = some (.lst xs)) (a : atI xs i = some v) (q : Q v H) : rIxL K (.ref p) (.int i) H Q := ⟨p, xs, i, v, rfl, rfl, .inl (.inl h), a, q⟩
theorem w_setL {p : Addr} {xs : List V} {k : Int} {j : Nat} {Q : Hp → Prop} (h : H p = some (.lst xs)) (a : ixN xs.length k = some j) (q : Q (upd H p (.lst (xs.set j v)))) : rSetL (.ref p) (.int k) v H Q := ⟨p, xs, k, j, rfl, rfl, h, a, q⟩
theorem w_lst (h : tr σ H fun xs H1 => xs.length ≤ sizeLine ∧ ∀ p, H1 p = none → Q (.ref p) (upd H1 p (.lst xs))) : tLst tr σ H Q := h
theorem w_tup (h : tr σ H fun xs H1 => xs.length ≤ sizeLine ∧ ∀ p, H1 p = none → Q (.ref p) (upd H1 p (.tup xs))) : tTup tr σ H Q := h
theorem w_iteD {p : Prop} [Decidable p] {A B : Prop} (h1 : p → A) (h2 : ¬ p → B) : if decide p = true then A else B := by
  by_cases c : p
  · rw [if_pos (decide_eq_true c)]
    exact h1 c
  · rw [if_neg (by simp [c])]
    exact h2 c
theorem w_ite {b : Bool} {A B : Prop} (h1 : b = true → A) (h2 : b = false → B) : if b = true then A else B := by
  cases b with
  | true => rw [if_pos rfl]; exact h1 rfl
  | false => rw [if_neg Bool.false_ne_true]; exact h2 rfl
theorem w_iteT {A B : Prop} (h : A) : if true = true then A else B := by rw [if_pos rfl]; exact h
theorem w_iteF {A B : Prop} (h : B) : if false = true then A else B := by rw [if_neg Bool.false_ne_true]; exact h
theorem w_fld {f : Str} (h : ta σ H fun x H1 => ∃ a C dx fs v, x = .ref a ∧ H1 a = some (.ins C dx fs) ∧ Cls K C ∧ NoAttr K C f ∧ fs.lookup f = some v ∧ Q v H1) : tFld K ta f σ H Q := h
theorem w_mk {C : Addr} (h : tr σ H fun vs H1 => ∀ x dx, H1 x = none → H1 dx = none → dx ≠ x → sp (.ref x :: vs) (upd (upd H1 dx (.own x)) x (.ins C dx [])) (fun v H2 => v = .non ∧ Q (.ref x) H2) E) : tMk C sp E tr σ H Q := h
theorem w_me {C : Addr} {m : Str} (h : ta σ H fun x H1 => ∃ a dx fs, x = .ref a ∧ H1 a = some (.ins C dx fs) ∧ fs.lookup m = none ∧ tr σ H1 fun vs H2 => sp (x :: vs) H2 Q E) : tMe C m sp E ta tr σ H Q := h
theorem w_sfld {tv : TE} {f : Str} (h : tv σ H fun y H1 => ta σ H1 fun x H2 => ∃ a C dx fs, x = .ref a ∧ H2 a = some (.ins C dx fs) ∧ Cls K C ∧ NoAttr K C f ∧ fs.length < 1000 ∧ D.nx σ (upd H2 a (.ins C dx (putF f y fs)))) : sFld K ta tv f D σ H := h
theorem w_bm {T : String} {r : V → List V → Hp → VK → Prop} (h : ta σ H fun x H1 => tyV K T x H1 ∧ tr σ H1 fun xs H2 => r x xs H2 Q) : tBM K T r ta tr σ H Q := h
theorem w_bm0 {T : String} {r : V → List V → Hp → VK → Prop} (h : ta σ H fun x H1 => tyV K T x H1 ∧ r x [] H1 Q) : tBM0 K T r ta σ H Q := h
theorem w_sl {r : V → Option Int → Option Int → Hp → VK → Prop} {tl th : TO} (h : te σ H fun x H1 => tl σ H1 fun l H2 => th σ H2 fun u H3 => r x l u H3 Q) : tSl r te tl th σ H Q := h
theorem w_part {Q : Option Int → Hp → Prop} (h : te σ H fun x H1 => ∃ i, x = .int i ∧ Q (some i) H1) : tPart te σ H Q := h
theorem w_nopart {Q : Option Int → Hp → Prop} (h : Q none H) : tNoPart σ H Q := h
theorem w_partI {n : Int} {P : Int → Prop} (h : P n) : ∃ i, V.int n = V.int i ∧ P i := ⟨n, rfl, h⟩
theorem w_aug {ti : TIp} (h : σ[i]? = some (some x)) (q : te σ H fun y H1 => ti x y H1 fun z H2 => D.nx (σ.set i (some z)) H2) : tAug i te ti D σ H := ⟨x, h, q⟩
theorem w_ipI {f : Int → Int → Int} {i j : Int} (q : Q (.int (f i j)) H) : ipI f (.int i) (.int j) H Q := ⟨i, j, rfl, rfl, q⟩
end
theorem hu64 {k : Nat} {A : Around} (r : Room k A) : A.units + 64 < cLine := by have := r.un; omega
theorem hu1 {k : Nat} {A : Around} (r : Room k A) : A.units < cLine := by have := r.un; omega
section
variable {K : PySem.W.Frag} {σ : L2.St} {H : Hp} {Q : VK} {ta tb tc : TE} {r r' : R2} {v x y : V}
theorem w_chain (h : ta σ H fun x H1 => tb σ H1 fun y H2 => r x y H2 fun z H3 => ∃ k, z = .bl k ∧ (if k = true then tc σ H3 fun w' H4 => r' y w' H4 Q else Q (.bl false) H3)) : tChain r r' ta tb tc σ H Q := h
theorem w_x1i {c : Int} {P : Int → Prop} (h : P c) : ∃ i, [V.int c] = [V.int i] ∧ P i := ⟨c, rfl, h⟩
theorem w_x1b {c : Bool} {P : Bool → Prop} (h : P c) : ∃ i, [V.bl c] = [V.bl i] ∧ P i := ⟨c, rfl, h⟩
theorem w_x1s {c : Str} {P : Str → Prop} (h : P c) : ∃ i, [V.str c] = [V.str i] ∧ P i := ⟨c, rfl, h⟩
theorem w_int1i {c : Int} {P : Int → Prop} {R : Prop} (h : P c) : (∃ i, [V.int c] = [V.int i] ∧ P i) ∨ R := .inl ⟨c, rfl, h⟩
theorem w_int1b {c : Bool} {P : Bool → Prop} {R : Prop} (h : P c) : R ∨ ∃ i, [V.bl c] = [V.bl i] ∧ P i := .inr ⟨c, rfl, h⟩
theorem w_mod {i j : Int} (c : 0 < j) (q : Q (.int (i % j)) H) : rI (fun _ j => 0 < j) (fun i j => V.int (i % j)) (.int i) (.int j) H Q := ⟨i, j, rfl, rfl, c, q⟩
theorem w_mul {i j : Int} (c : CMul i j) (q : Q (.int (i * j)) H) : rI CMul (fun i j => V.int (i * j)) (.int i) (.int j) H Q := ⟨i, j, rfl, rfl, c, q⟩
theorem w_fdivW {i j : Int} (c : 0 < j) (c2 : j < 2 ^ 60) (q : Q (.int (i / j)) H) : rI CDivW (fun i j => V.int (i / j)) (.int i) (.int j) H Q :=
  ⟨i, j, rfl, rfl, wide_div (b := 60) c (by omega) (by decide) (by decide), q⟩
theorem w_pow {i j : Int} (c : CPow i j) (q : Q (.int (i ^ j.toNat)) H) : rI CPow (fun i j => V.int (i ^ j.toNat)) (.int i) (.int j) H Q := ⟨i, j, rfl, rfl, c, q⟩
end
section
variable {K : PySem.W.Frag} {σ : L2.St} {H : Hp} {Q : VK} {v x y : V}
theorem w_setLu {p : Addr} {xs : List V} {k : Int} {j : Nat} {Q : Hp → Prop} (a : ixN xs.length k = some j) (q : Q (upd H p (.lst (xs.set j v)))) : rSetL (.ref p) (.int k) v (upd H p (.lst xs)) Q := ⟨p, xs, k, j, rfl, rfl, upd_same, a, by rw [upd_upd]; exact q⟩
theorem w_new {n : Nat} {B : Prop} (hz : Nat.ble n 1000 = true) (h : B) : n ≤ sizeLine ∧ B := ⟨Nat.le_trans (Nat.le_of_ble_eq_true hz) (by decide), h⟩
theorem mod_b {a m : Int} (h : 0 < m) : 0 ≤ a % m ∧ a % m < m := ⟨Int.emod_nonneg a (by omega), Int.emod_lt_of_pos a h⟩
end
section
variable {K : PySem.W.Frag} {σ : L2.St} {H : Hp} {Q : VK} {tl te : TE} {ta : TA} {j : Nat} {vs : List Nat} {tt : TT} {g : TG} {wi : TI}
theorem w_lc (h : wi σ H fun J H1 => ∀ D, H1 D = none → ∃ W : Nat → Nat → Hp → Prop, (∃ m, W 0 m (upd H1 D (.lst []))) ∧ ∀ i m H, W i m H →
  (J.stop i H ∧ Q (.ref D) H) ∨ (J.go i H ∧ ∃ Nx : Hp → Prop, (∀ H', Nx H' → ∃ m', m' < m ∧ W (i + 1) m' H') ∧ ∀ x H', J.yld i H x H' → g x (wipe σ vs) H' fun σ2 H2 => wipe σ2 vs = wipe σ vs ∧ tt σ2 H2 fun b H3 =>
    if b = true then te σ2 H3 fun y H4 => ∃ acc, H4 D = some (.lst acc) ∧ acc.length < sizeLine ∧ Nx (upd H4 D (.lst (acc ++ [y]))) else Nx H3)) : tLc wi g tt te vs σ H Q := h
theorem w_iL {R : It → Hp → Prop} (h : tl σ H fun x H1 => ∃ a, x = .ref a ∧ (∃ xs, SqL K H1 a xs) ∧ R (Itl K a) H1) : iList K tl σ H R := h
theorem w_iT {R : It → Hp → Prop} (h : tl σ H fun x H1 => ∃ a, x = .ref a ∧ (∃ xs, SqT K H1 a xs) ∧ R (Itt K a) H1) : iTup K tl σ H R := h
theorem w_iR1 {R : It → Hp → Prop} (h : ta σ H fun vs H1 => ∃ j : Int, vs = [.int j] ∧ -(2 ^ 62) ≤ j ∧ j < 2 ^ 62 ∧ R (Itr 0 j.toNat) H1) : iRng1 ta σ H R := h
theorem w_iR2 {R : It → Hp → Prop} (h : ta σ H fun vs H1 => ∃ i j : Int, vs = [.int i, .int j] ∧ (-(2 ^ 62) ≤ i ∧ i < 2 ^ 62 ∧ -(2 ^ 62) ≤ j ∧ j < 2 ^ 62) ∧ R (Itr i (j - i).toNat) H1) : iRng2 ta σ H R := h
theorem w_yes {Q : Bool → Hp → Prop} (h : Q true H) : tYes σ H Q := h
/-- a comprehension over a list: the turn's word Pv -/
theorem w_lcL {p : Addr} {xs : List V} (hS : SqL K H p xs) (h : ∀ D, H D = none → ∃ Pv : Nat → Hp → Prop, Pv 0 (upd H D (.lst [])) ∧ (∀ i H2, i ≤ xs.length → Pv i H2 → SqL K H2 p xs) ∧
      (∀ i x H2, xs[i]? = some x → Pv i H2 → g x (wipe σ vs) H2 fun σ2 H2 => wipe σ2 vs = wipe σ vs ∧ tt σ2 H2 fun b H3 =>
        if b = true then te σ2 H3 fun y H4 => ∃ acc, H4 D = some (.lst acc) ∧ acc.length < sizeLine ∧ Pv (i + 1) (upd H4 D (.lst (acc ++ [y]))) else Pv (i + 1) H3) ∧ (∀ H2, Pv xs.length H2 → Q (.ref D) H2)) :
    ∃ a, V.ref p = .ref a ∧ (∃ xs, SqL K H a xs) ∧ ∀ D, H D = none → ∃ W : Nat → Nat → Hp → Prop, (∃ m, W 0 m (upd H D (.lst []))) ∧ ∀ i m H, W i m H →
      ((Itl K a).stop i H ∧ Q (.ref D) H) ∨ ((Itl K a).go i H ∧ ∃ Nx : Hp → Prop, (∀ H', Nx H' → ∃ m', m' < m ∧ W (i + 1) m' H') ∧ ∀ x H', (Itl K a).yld i H x H' → g x (wipe σ vs) H' fun σ2 H2 => wipe σ2 vs = wipe σ vs ∧ tt σ2 H2 fun b H3 =>
        if b = true then te σ2 H3 fun y H4 => ∃ acc, H4 D = some (.lst acc) ∧ acc.length < sizeLine ∧ Nx (upd H4 D (.lst (acc ++ [y]))) else Nx H3) :=
  ⟨p, rfl, ⟨xs, hS⟩, fun D hD => by
    obtain ⟨Pv, h0, hl, hs, hd⟩ := h D hD
    exact lc_list Pv h0 hl hs hd⟩
/-- .. over range(n) -/
theorem w_lcR {n : Int} (hn : 0 ≤ n ∧ n < 2 ^ 62) (h : ∀ D, H D = none → ∃ Pv : Nat → Hp → Prop, Pv 0 (upd H D (.lst [])) ∧
      (∀ (i : Nat) H2, (i : Int) < n → Pv i H2 → g (.int (0 + (i : Int))) (wipe σ vs) H2 fun σ2 H2 => wipe σ2 vs = wipe σ vs ∧ tt σ2 H2 fun b H3 =>
        if b = true then te σ2 H3 fun y H4 => ∃ acc, H4 D = some (.lst acc) ∧ acc.length < sizeLine ∧ Pv (i + 1) (upd H4 D (.lst (acc ++ [y]))) else Pv (i + 1) H3) ∧ (∀ H2, Pv n.toNat H2 → Q (.ref D) H2)) :
    ∃ j : Int, [V.int n] = [.int j] ∧ -(2 ^ 62) ≤ j ∧ j < 2 ^ 62 ∧ ∀ D, H D = none → ∃ W : Nat → Nat → Hp → Prop, (∃ m, W 0 m (upd H D (.lst []))) ∧ ∀ i m H, W i m H →
      ((Itr 0 j.toNat).stop i H ∧ Q (.ref D) H) ∨ ((Itr 0 j.toNat).go i H ∧ ∃ Nx : Hp → Prop, (∀ H', Nx H' → ∃ m', m' < m ∧ W (i + 1) m' H') ∧ ∀ x H', (Itr 0 j.toNat).yld i H x H' → g x (wipe σ vs) H' fun σ2 H2 => wipe σ2 vs = wipe σ vs ∧ tt σ2 H2 fun b H3 =>
        if b = true then te σ2 H3 fun y H4 => ∃ acc, H4 D = some (.lst acc) ∧ acc.length < sizeLine ∧ Nx (upd H4 D (.lst (acc ++ [y]))) else Nx H3) :=
  ⟨n, rfl, by omega, hn.2, fun D hD => by
    obtain ⟨Pv, h0, hs, hd⟩ := h D hD
    exact lc_range Pv h0 (fun i H hi p => hs i H (by omega) p) hd⟩
theorem w_for {wi : TI} {g : TG} {tb : TS} {D : Ends} (h : wi σ H fun J H1 => ∃ W : Nat → Nat → L2.St → Hp → Prop, (∃ m, W 0 m σ H1) ∧ ∀ i m σ H, W i m σ H →
  (J.stop i H ∧ D.nx σ H) ∨ (J.go i H ∧ ∃ N : L2.St → Hp → Prop, (∀ σ' H', N σ' H' → ∃ m', m' < m ∧ W (i + 1) m' σ' H') ∧ ∀ x H', J.yld i H x H' → g x σ H' fun σ2 H2 => tb { D with nx := N, ct := N, bk := D.nx } σ2 H2)) : tFor wi g tb D σ H := h
theorem w_forL {g : TG} {tb : TS} {D : Ends} {p : Addr} {xs : List V} (hS : SqL K H p xs) (Pv : Nat → L2.St → Hp → Prop) (h0 : Pv 0 σ H) (hl : ∀ i σ H, i ≤ xs.length → Pv i σ H → SqL K H p xs)
    (hs : ∀ i x σ H, xs[i]? = some x → Pv i σ H → g x σ H fun σ2 H2 => tb { D with nx := Pv (i + 1), ct := Pv (i + 1), bk := D.nx } σ2 H2) (hd : ∀ σ H, Pv xs.length σ H → D.nx σ H) :
    ∃ a, V.ref p = .ref a ∧ (∃ xs, SqL K H a xs) ∧ ∃ W : Nat → Nat → L2.St → Hp → Prop, (∃ m, W 0 m σ H) ∧ ∀ i m σ H, W i m σ H →
      ((Itl K a).stop i H ∧ D.nx σ H) ∨ ((Itl K a).go i H ∧ ∃ N : L2.St → Hp → Prop, (∀ σ' H', N σ' H' → ∃ m', m' < m ∧ W (i + 1) m' σ' H') ∧ ∀ x H', (Itl K a).yld i H x H' → g x σ H' fun σ2 H2 => tb { D with nx := N, ct := N, bk := D.nx } σ2 H2) :=
  ⟨p, rfl, ⟨xs, hS⟩, for_list Pv h0 hl hs hd⟩
theorem w_forT {g : TG} {tb : TS} {D : Ends} {p : Addr} {xs : List V} (hS : SqT K H p xs) (Pv : Nat → L2.St → Hp → Prop) (h0 : Pv 0 σ H) (hl : ∀ i σ H, i ≤ xs.length → Pv i σ H → SqT K H p xs)
    (hs : ∀ i x σ H, xs[i]? = some x → Pv i σ H → g x σ H fun σ2 H2 => tb { D with nx := Pv (i + 1), ct := Pv (i + 1), bk := D.nx } σ2 H2) (hd : ∀ σ H, Pv xs.length σ H → D.nx σ H) :
    ∃ a, V.ref p = .ref a ∧ (∃ xs, SqT K H a xs) ∧ ∃ W : Nat → Nat → L2.St → Hp → Prop, (∃ m, W 0 m σ H) ∧ ∀ i m σ H, W i m σ H →
      ((Itt K a).stop i H ∧ D.nx σ H) ∨ ((Itt K a).go i H ∧ ∃ N : L2.St → Hp → Prop, (∀ σ' H', N σ' H' → ∃ m', m' < m ∧ W (i + 1) m' σ' H') ∧ ∀ x H', (Itt K a).yld i H x H' → g x σ H' fun σ2 H2 => tb { D with nx := N, ct := N, bk := D.nx } σ2 H2) :=
  ⟨p, rfl, ⟨xs, hS⟩, for_tup Pv h0 hl hs hd⟩
theorem w_forR {g : TG} {tb : TS} {D : Ends} {n : Int} (hn : 0 ≤ n ∧ n < 2 ^ 62) (Pv : Nat → L2.St → Hp → Prop) (h0 : Pv 0 σ H)
    (hs : ∀ (i : Nat) σ H, (i : Int) < n → Pv i σ H → g (.int (0 + (i : Int))) σ H fun σ2 H2 => tb { D with nx := Pv (i + 1), ct := Pv (i + 1), bk := D.nx } σ2 H2) (hd : ∀ σ H, Pv n.toNat σ H → D.nx σ H) :
    ∃ j : Int, [V.int n] = [.int j] ∧ -(2 ^ 62) ≤ j ∧ j < 2 ^ 62 ∧ ∃ W : Nat → Nat → L2.St → Hp → Prop, (∃ m, W 0 m σ H) ∧ ∀ i m σ H, W i m σ H →
      ((Itr 0 j.toNat).stop i H ∧ D.nx σ H) ∨ ((Itr 0 j.toNat).go i H ∧ ∃ N : L2.St → Hp → Prop, (∀ σ' H', N σ' H' → ∃ m', m' < m ∧ W (i + 1) m' σ' H') ∧ ∀ x H', (Itr 0 j.toNat).yld i H x H' → g x σ H' fun σ2 H2 => tb { D with nx := N, ct := N, bk := D.nx } σ2 H2) :=
  ⟨n, rfl, by omega, hn.2, for_range Pv h0 (fun i σ H hi p => hs i σ H (by omega) p) hd⟩
/-- while: a word with a measure; the test is read in the word -/
theorem w_while {c : TT} {tb : TS} {D : Ends} (W : Nat → L2.St → Hp → Prop) (m : Nat) (h0 : W m σ H)
    (hs : ∀ m σ H, W m σ H → c σ H fun b H1 => if b = true then ∃ N : L2.St → Hp → Prop, (∀ σ' H', N σ' H' → ∃ m', m' < m ∧ W m' σ' H') ∧ tb { D with nx := N, ct := N, bk := D.nx } σ H1 else D.nx σ H1) : tWhile c tb D σ H :=
  ⟨W, ⟨m, h0⟩, hs⟩
theorem w_gtup {n : Nat} {t : TGs} {a : Addr} {xs : List V} {Q : L2.St → Hp → Prop} (h : H a = some (.tup xs)) (hn : xs.length = n) (q : t xs σ H Q) : gTup K n t (.ref a) σ H Q := ⟨a, xs, rfl, SqT.of h, hn, q⟩
theorem w_gcons {t : TG} {u : TGs} {v : V} {r : List V} {Q : L2.St → Hp → Prop} (h : t v σ H fun σ' H' => u r σ' H' Q) : gCons t u (v :: r) σ H Q := ⟨v, r, rfl, h⟩
theorem w_gnil {Q : L2.St → Hp → Prop} (h : Q σ H) : gNil [] σ H Q := ⟨rfl, h⟩
theorem w_app {l : Addr} {xs : List V} {y : V} {Q : VK} (h : H l = some (.lst xs)) (hz : xs.length < sizeLine) (q : Q .non (upd H l (.lst (xs ++ [y])))) : rAppend (.ref l) [y] H Q := ⟨l, xs, y, rfl, rfl, h, hz, q⟩
end
end Fw
end

section
-- part Fd
set_option Elab.async false
set_option linter.all false
set_option maxRecDepth 100000
set_option maxHeartbeats 2000000
/-! Fd: data -/
namespace Fw
open PySem PySem.Spec PyProof.Rows L2
section
variable {K : PySem.W.Frag} {H H' : Hp}
theorem dp_ints : ∀ ns : List Int, DpAll K H (ns.map V.int) (ns.map PyData.int)
  | [] => .nil
  | n :: r => .cons (.int n) (dp_ints r)
theorem lay_ints : ∀ ns : List Int, PyData.canLayAll0 (ns.map PyData.int) = true
  | [] => rfl
  | _ :: r => lay_ints r
theorem dep_ints (ns : List Int) : PyData.depth (.list (ns.map PyData.int)) ≤ 64 := by
  have h : ∀ ns : List Int, PyData.depthAll (ns.map PyData.int) ≤ 1 := by
    intro ns
    induction ns with
    | nil => simp [PyData.depthAll]
    | cons n r ih => simp only [List.map_cons, PyData.depthAll, PyData.depth]; omega
  have := h ns
  simp only [PyData.depth]
  omega
theorem shaped_ints (ns : List Int) : SeqAt.shaped (.list (ns.map PyData.int)) = true := by
  unfold SeqAt.shaped
  rw [Bool.and_eq_true]
  exact ⟨lay_ints ns, decide_eq_true (dep_ints ns)⟩
theorem eqv_nil (ns : List Int) : PyData.eqv (.list (ns.map PyData.int)) (.list []) = decide (ns = []) := by
  cases ns <;> rfl
theorem cut_ints (ns : List Int) (lo hi : Option Int) : ∃ ms : List Int, cutV (ns.map V.int) lo hi = ms.map V.int ∧ ms.length ≤ ns.length := by
  refine ⟨(ns.drop (HT.sIx (ns.map V.int).length 0 lo)).take (HT.sIx (ns.map V.int).length (ns.map V.int).length hi - HT.sIx (ns.map V.int).length 0 lo), ?_, ?_⟩
  · unfold cutV
    rw [List.map_take, List.map_drop]
  · rw [List.length_take, List.length_drop]
    omega
end
end Fw
end

section
-- part Fx
set_option Elab.async false
set_option linter.all false
set_option maxRecDepth 100000
set_option maxHeartbeats 2000000
/-! Fx: texts as lists of signs -/
namespace Fw
open PySem PySem.Spec PyProof.Rows L2 SX
open Builtin.Str PySem.StrLaws
abbrev S (l : List Nat) : Str := SX.S l
theorem fromIx {n p : Nat} : fromIndex n (p : Int) = p := by
  unfold fromIndex
  rw [if_neg (by omega)]
  omega
theorem at_pre (l b : List Nat) (i : Nat) : At (S l) (S b) (S l).length i ↔ (i + b.length ≤ l.length ∧ (l.drop i).take b.length = b) := by
  unfold At
  rw [S_len, S_len, subAt_eq, S_len]
  simp [SX.S]
theorem starts3 (l b : List Nat) (p : Nat) : Txt.startswith3 (S l) (S b) (p : Int) = decide ((l.drop p).take b.length = b ∧ p + b.length ≤ l.length) := by
  unfold Txt.startswith3
  rw [fromIx, S_len, S_len, subAt_eq, S_len]
  have e : (S l).cps.toList = l := by simp [SX.S]
  have e2 : (S b).cps.toList = b := by simp [SX.S]
  rw [e, e2]
  by_cases h : p + b.length ≤ l.length
  · by_cases h2 : (l.drop p).take b.length = b
    · simp [h, h2]
    · simp [h, h2]
  · simp [h]
/-- the place of the first c from p on -/
theorem find3_one (l : List Nat) (c p : Nat) : Txt.find3 (S l) (S [c]) (p : Int) = (match (l.drop p).findIdx? (· == c) with | some k => ((p + k : Nat) : Int) | none => -1) := by
  unfold Txt.find3
  rw [fromIx]
  have one : ∀ i, At (S l) (S [c]) (S l).length i ↔ l[i]? = some c := by
    intro i
    rw [at_pre]
    constructor
    · rintro ⟨h1, h2⟩
      simp only [List.length_singleton] at h1 h2
      have hi : i < l.length := by omega
      rw [List.getElem?_eq_getElem hi]
      have e3 : List.take 1 (List.drop i l) = [l[i]] := by rw [List.drop_eq_getElem_cons hi]; rfl
      rw [e3] at h2
      exact congrArg some (List.cons.inj h2).1
    · intro h
      obtain ⟨hi, e⟩ := List.getElem?_eq_some_iff.mp h
      refine ⟨by simp; omega, ?_⟩
      rw [List.drop_eq_getElem_cons hi]
      simp [e]
  rcases occ_head_from (S l) (S [c]) p 1 (by decide) with ⟨h0, hn⟩ | ⟨i, r, h0, hi, ha, hn⟩
  · rw [h0]
    have : (l.drop p).findIdx? (· == c) = none := by
      rw [List.findIdx?_eq_none_iff]
      intro x hx
      obtain ⟨k, hk, e⟩ := List.getElem_of_mem hx
      rw [List.getElem_drop] at e
      cases q : x == c with
      | false => rfl
      | true =>
        have hl : p + k < l.length := by rw [List.length_drop] at hk; omega
        exact absurd ((one (p + k)).mpr (by rw [List.getElem?_eq_getElem hl, e, eq_of_beq q])) (hn (p + k) (by omega))
    rw [this]
  · rw [h0]
    have hk : (l.drop p).findIdx? (· == c) = some (i - p) := by
      rw [List.findIdx?_eq_some_iff_getElem]
      obtain ⟨hl, e⟩ := List.getElem?_eq_some_iff.mp ((one i).mp ha)
      have e2 : (l.drop p)[i - p]? = some c := by
        rw [List.getElem?_drop]
        have : p + (i - p) = i := by omega
        rw [this]
        exact (one i).mp ha
      obtain ⟨h3, e3⟩ := List.getElem?_eq_some_iff.mp e2
      refine ⟨h3, by simp [e3], fun j hj => ?_⟩
      have hj2 : p + j < i := by omega
      have := hn (p + j) (by omega) hj2
      rw [one] at this
      rw [List.getElem_drop]
      intro q
      apply this
      rw [List.getElem?_eq_getElem (by omega)]
      simp at q
      rw [q]
    rw [hk]
    show ((i : Nat) : Int) = ((p + (i - p) : Nat) : Int)
    have : p + (i - p) = i := by omega
    rw [this]
theorem cutS_nat (l : List Nat) {i j : Nat} (hi : i ≤ l.length) (hj : j ≤ l.length) : cutS (S l) (some (i : Int)) (some (j : Int)) = S ((l.drop i).take (j - i)) := by
  unfold cutS
  rw [HT.sIx_nat, HT.sIx_nat, S_len, Nat.min_eq_left hi, Nat.min_eq_left hj]
theorem cutS_any (l : List Nat) {i j : Nat} (hi : i ≤ l.length) : cutS (S l) (some (i : Int)) (some (j : Int)) = S ((l.drop i).take (j - i)) := by
  unfold cutS
  rw [HT.sIx_nat, HT.sIx_nat, S_len, Nat.min_eq_left hi]
  have : ((l.drop i).take (min j l.length - i)) = (l.drop i).take (j - i) := by
    by_cases h : j ≤ l.length
    · rw [Nat.min_eq_left h]
    · rw [Nat.min_eq_right (by omega), List.take_of_length_le (by rw [List.length_drop]; omega), List.take_of_length_le (by rw [List.length_drop]; omega)]
  show (⟨_⟩ : Str) = SX.S _
  rw [show (S l).cps.toList = l by simp [SX.S], this]
theorem cutS_from (l : List Nat) {i : Nat} (hi : i ≤ l.length) : cutS (S l) (some (i : Int)) none = S (l.drop i) := by
  unfold cutS
  rw [HT.sIx_nat, HT.sIx_none, S_len, Nat.min_eq_left hi]
  show (⟨_⟩ : Str) = SX.S _
  rw [show (S l).cps.toList = l by simp [SX.S], List.take_of_length_le (by rw [List.length_drop]; omega)]
theorem atI_nat2 {α : Type} {l : List α} {i : Nat} {c : α} (h : l[i]? = some c) : atI l (i : Int) = some c := atI_nat h
section
variable {H : Hp} {Q : VK} {K : PySem.W.Frag}
theorem w_ixS {l : List Nat} {i c : Nat} (hz : l.length ≤ sizeLine) (h : l[i]? = some c) (q : Q (.str (S [c])) H) : rIxS (.str (S l)) (.int (i : Int)) H Q :=
  ⟨S l, (i : Int), c, rfl, rfl, by rw [S_len]; exact hz, by rw [show (S l).cps.toList = l by simp [SX.S]]; exact atI_nat h, q⟩
theorem S_list (l : List Nat) : (S l).cps.toList = l := by simp [SX.S]
theorem w_inS {l : List Nat} {c : Nat} {P : Nat → Str → Prop} (q : P c (S l)) : ∃ (d : Nat) (z : Str), V.str (S [c]) = .str ⟨#[d]⟩ ∧ V.str (S l) = .str z ∧ P d z := ⟨c, S l, rfl, rfl, q⟩
theorem w_lenS {l : List Nat} {P : Str → Prop} (hz : l.length ≤ sizeLine) (q : P (S l)) : ∃ z, [V.str (S l)] = [V.str z] ∧ z.length ≤ sizeLine ∧ P z := ⟨S l, rfl, by rw [S_len]; exact hz, q⟩
theorem w_find3 {a b : Str} {p : Int} {P : Str → Str → Int → Prop} (q : P a b p) : ∃ (x y : Str) (i : Int), V.str a = .str x ∧ [V.str b, V.int p] = [.str y, .int i] ∧ P x y i := ⟨a, b, p, rfl, rfl, q⟩
theorem w_2s {a b : Str} {P : Str → Str → Prop} (q : P a b) : ∃ (x y : Str), V.str a = .str x ∧ [V.str b] = [.str y] ∧ P x y := ⟨a, b, rfl, rfl, q⟩
theorem w_slS {l : List Nat} {i j : Nat} (hz : l.length ≤ sizeLine) (hi : i ≤ l.length) (q : Q (.str (S ((l.drop i).take (j - i)))) H) : rSlS (.str (S l)) (some (i : Int)) (some (j : Int)) H Q :=
  ⟨S l, rfl, by rw [S_len]; exact hz, by rw [cutS_any l hi]; exact q⟩
theorem w_slS1 {l : List Nat} {i : Nat} (hz : l.length ≤ sizeLine) (hi : i ≤ l.length) (q : Q (.str (S (l.drop i))) H) : rSlS (.str (S l)) (some (i : Int)) none H Q :=
  ⟨S l, rfl, by rw [S_len]; exact hz, by rw [cutS_from l hi]; exact q⟩
theorem w_addS {a b : List Nat} {P : Str → Str → Prop} (hz : a.length + b.length ≤ sizeLine) (q : P (S a) (S b)) : ∃ i j, V.str (S a) = .str i ∧ V.str (S b) = .str j ∧ i.length + j.length ≤ sizeLine ∧ P i j :=
  ⟨S a, S b, rfl, rfl, by rw [S_len, S_len]; exact hz, q⟩
theorem tyS {z : Str} : tyV K "str" (.str z) H := rfl
theorem tyL {p : Addr} {xs : List V} (h : H p = some (.lst xs)) : tyV K "list" (.ref p) H := Or.inl ⟨rfl, xs, SqL.of h⟩
end
section
variable {K : PySem.W.Frag} {σ : L2.St} {H : Hp} {Q : VK} {tl te : TE}
theorem w_iStr {R : It → Hp → Prop} (h : te σ H fun v H1 => ∃ x, v = .str x ∧ R (Its x) H1) : iStr te σ H R := h
theorem for_str {x : Str} {g : TG} {tb : TS} {D : Ends} (Pv : Nat → L2.St → Hp → Prop) (h0 : Pv 0 σ H)
    (hs : ∀ i c σ H, x.cps.toList[i]? = some c → Pv i σ H → g (.str (S [c])) σ H fun σ2 H2 => tb { D with nx := Pv (i + 1), ct := Pv (i + 1), bk := D.nx } σ2 H2) (hd : ∀ σ H, Pv x.cps.toList.length σ H → D.nx σ H) :
    ∃ W : Nat → Nat → L2.St → Hp → Prop, (∃ m, W 0 m σ H) ∧ ∀ i m σ H, W i m σ H →
      ((Its x).stop i H ∧ D.nx σ H) ∨ ((Its x).go i H ∧ ∃ N : L2.St → Hp → Prop, (∀ σ' H', N σ' H' → ∃ m', m' < m ∧ W (i + 1) m' σ' H') ∧ ∀ v H', (Its x).yld i H v H' → g v σ H' fun σ2 H2 => tb { D with nx := N, ct := N, bk := D.nx } σ2 H2) := by
  have el : x.cps.toList.length = x.cps.size := by simp
  refine ⟨fun i m σ H => m = x.cps.size - i ∧ i ≤ x.cps.size ∧ Pv i σ H, ⟨_, rfl, Nat.zero_le _, h0⟩, ?_⟩
  rintro i m σ H ⟨rfl, hi, p⟩
  by_cases hlt : i < x.cps.size
  · refine .inr ⟨hlt, Pv (i + 1), fun σ' H' p' => ⟨x.cps.size - (i + 1), by omega, rfl, hlt, p'⟩, fun v H' y => ?_⟩
    obtain ⟨e, c, hc, rfl⟩ := y
    subst e
    exact hs i c σ _ (by simpa using hc) p
  · have e : i = x.cps.size := by omega
    subst e
    exact .inl ⟨Nat.le_refl _, hd σ H (by rw [el]; exact p)⟩
theorem w_forS {l : List Nat} {g : TG} {tb : TS} {D : Ends} (Pv : Nat → L2.St → Hp → Prop) (h0 : Pv 0 σ H)
    (hs : ∀ i c σ H, l[i]? = some c → Pv i σ H → g (.str (S [c])) σ H fun σ2 H2 => tb { D with nx := Pv (i + 1), ct := Pv (i + 1), bk := D.nx } σ2 H2) (hd : ∀ σ H, Pv l.length σ H → D.nx σ H) :
    ∃ x, V.str (S l) = .str x ∧ ∃ W : Nat → Nat → L2.St → Hp → Prop, (∃ m, W 0 m σ H) ∧ ∀ i m σ H, W i m σ H →
      ((Its x).stop i H ∧ D.nx σ H) ∨ ((Its x).go i H ∧ ∃ N : L2.St → Hp → Prop, (∀ σ' H', N σ' H' → ∃ m', m' < m ∧ W (i + 1) m' σ' H') ∧ ∀ v H', (Its x).yld i H v H' → g v σ H' fun σ2 H2 => tb { D with nx := N, ct := N, bk := D.nx } σ2 H2) :=
  ⟨S l, rfl, for_str Pv h0 (fun i c σ H hi p => hs i c σ H (by simpa [SX.S] using hi) p) (fun σ H p => hd σ H (by simpa [SX.S] using p))⟩
theorem find_one (l : List Nat) (c : Nat) : Txt.find (S l) (S [c]) = (match l.findIdx? (· == c) with | some k => (k : Int) | none => -1) := by
  have h := find3_one l c 0
  have e : Txt.find3 (S l) (S [c]) ((0 : Nat) : Int) = Txt.find (S l) (S [c]) := by
    unfold Txt.find3 Txt.find
    rw [fromIx]
    rfl
  rw [← e, h, List.drop_zero]
  cases l.findIdx? (· == c) with
  | none => rfl
  | some k =>
    show ((0 + k : Nat) : Int) = (k : Int)
    rw [Nat.zero_add]
theorem w_1s {a : Str} {P : Str → Prop} (q : P a) : ∃ (x : Str), V.str a = .str x ∧ ([] : List V) = [] ∧ P x := ⟨a, rfl, rfl, q⟩
end
section
variable {K : PySem.W.Frag} {σ : L2.St} {H : Hp} {Q : VK} {i : Nat}
theorem str_len_app (a b : Str) : (a ++ b).length = a.length + b.length := by
  rw [TL.len_tl, TL.len_tl, TL.len_tl, TL.tl_append, List.length_append]
theorem num_short {n : Nat} (h : n < 10 ^ 7) : (Str.ofString (toString ((n : Nat) : Int))).length ≤ 7 := by
  rw [TL.len_tl, TL.tl_num]
  exact TL.numL_len (by decide) h
theorem w_fmt {n : Nat} {Q : VK} (h : n < 10 ^ 7) (hv : σ[i]? = some (some (.int (n : Int)))) (q : Q (.str (toString ((n : Nat) : Int))) H) : tFmt (tVar i) σ H Q := by
  refine ⟨_, hv, .inr ⟨_, rfl, ?_, q⟩⟩
  by_cases h0 : n = 0
  · subst h0
    decide
  · rw [Int.natAbs_natCast]
    have := (Nat.log2_lt h0 (k := 24)).mpr (Nat.lt_of_lt_of_le h (by decide))
    omega
/-- f'a{n}' and f'a{n}b' -/
theorem w_msg2 {a : Str} {n : Nat} {R : Str → Hp → Prop} (ha : a.length ≤ 1000) (h : n < 10 ^ 7) (hv : σ[i]? = some (some (.int (n : Int)))) (q : ∀ z, R z H) : tJs [tC (.str a), tFmt (tVar i)] Str.empty σ H R := by
  have e0 : (Str.empty ++ a).length = a.length := by rw [str_len_app]; exact Nat.zero_add _
  have l := num_short h
  refine ⟨a, rfl, by rw [e0]; exact Nat.le_trans ha (by decide), w_fmt h hv ⟨_, rfl, ?_, q _⟩⟩
  rw [str_len_app, e0]
  exact Nat.le_trans (Nat.add_le_add ha l) (by decide)
theorem w_msg3 {a b : Str} {n : Nat} {R : Str → Hp → Prop} (ha : a.length ≤ 1000) (hb : b.length ≤ 1000) (h : n < 10 ^ 7) (hv : σ[i]? = some (some (.int (n : Int)))) (q : ∀ z, R z H) : tJs [tC (.str a), tFmt (tVar i), tC (.str b)] Str.empty σ H R := by
  have e0 : (Str.empty ++ a).length = a.length := by rw [str_len_app]; exact Nat.zero_add _
  have l := num_short h
  refine ⟨a, rfl, by rw [e0]; exact Nat.le_trans ha (by decide), w_fmt h hv ⟨_, rfl, ?_, ⟨b, rfl, ?_, q _⟩⟩⟩
  · rw [str_len_app, e0]
    exact Nat.le_trans (Nat.add_le_add ha l) (by decide)
  · rw [str_len_app, str_len_app, e0]
    exact Nat.le_trans (Nat.add_le_add (Nat.add_le_add ha l) hb) (by decide)
/-- in a tuple of texts -/
theorem inV_txt (a : List Nat) : ∀ ls : List (List Nat), inV (.str (S a)) (ls.map fun l => V.str (S l)) = decide (a ∈ ls)
  | [] => by simp [inV]
  | l :: r => by
    have ih := inV_txt a r
    unfold inV at ih ⊢
    rw [List.map_cons, List.any_cons, ih]
    show ((S l == S a) || decide (a ∈ r)) = _
    rw [SX.S_beq]
    by_cases h : l = a
    · subst h; simp
    · have : (l == a) = false := by simp [h]
      rw [this, Bool.false_or]
      have h' : ¬ a = l := fun e => h e.symm
      simp [h']
theorem flat_txt : ∀ ls : List (List Nat), (ls.map fun l => V.str (S l)).all flatV = true
  | [] => rfl
  | _ :: r => flat_txt r
theorem w_inT {a : List Nat} {p : Addr} {ls : List (List Nat)} (h : SqT K H p (ls.map fun l => V.str (S l))) (q : Q (.bl (decide (a ∈ ls))) H) : rIn K false (.str (S a)) (.ref p) H Q :=
  ⟨p, _, rfl, .inr h, rfl, flat_txt ls, by rw [inV_txt]; exact q⟩
theorem str_eq {a b : List Nat} : (decide (V.str (S a) = V.str (S b))) = decide (a = b) := by
  by_cases h : a = b
  · subst h; simp
  · rw [decide_eq_false h, decide_eq_false]
    intro e
    exact h (SX.S_inj (V.str.inj e))
theorem w_eqS {a b : List Nat} (q : Q (.bl (decide (a = b))) H) : rEq (.str (S a)) (.str (S b)) H Q := ⟨rfl, by rw [str_eq]; exact q⟩
theorem w_neS {a b : List Nat} (q : Q (.bl (!decide (a = b))) H) : rNe (.str (S a)) (.str (S b)) H Q := ⟨rfl, by rw [str_eq]; exact q⟩
theorem int_eq {a b : Int} : (decide (V.int a = V.int b)) = decide (a = b) := by simp
theorem w_eqI {a b : Int} (q : Q (.bl (decide (a = b))) H) : rEq (.int a) (.int b) H Q := ⟨rfl, by rw [int_eq]; exact q⟩
theorem w_iteN {p A B : Prop} [Decidable p] (h1 : ¬ p → A) (h2 : p → B) : if (!decide p) = true then A else B := by
  by_cases c : p
  · rw [decide_eq_true c]; exact h2 c
  · rw [decide_eq_false c]; exact h1 c
end
section
variable {X : Cx}
/-- a text times a number -/
theorem op_mulS : OpR X (binaryOp .Mult) (fun x y H Q => ∃ (a : Str) (n : Int), x = .str a ∧ y = .int n ∧ a.length ≤ 4096 ∧ n ≤ 4096 ∧ -(2 ^ 63 : Int) ≤ n ∧ Q (.str (Txt.mul a n)) H) := by
  intro pins s σ H x y v u Q I rx ry h
  obtain ⟨a, n, rfl, rfl, h1, h2, h3, q⟩ := h
  obtain ⟨t, rfl⟩ := rx
  obtain ⟨t', rfl⟩ := ry
  exact PySem.SB.mul (PyProof.Rows.mulOk_of 4096 4096 h1 (by omega) h3 (by decide) (by decide)) fun t'' k => ⟨.str (Txt.mul a n), H, I.tok k, ⟨t'', rfl⟩, q⟩
/-- 'c' op e, where e wants a token that is out -/
theorem pe_opStr {op : Operator} {r : R2} {x : Str} {j : Nat} {p pos : Pos} {f : Expr} {tf : TE} (ho : OpR X (binaryOp op) r) (hb : PET X f tf) : PE X (.BinOp (.Constant (.str x) j p) op f pos) (tOp r (tC (.str x)) tf) := by
  refine ⟨fun pins s σ H Q I h => ?_⟩
  refine wpAny_BinOp (Calls.Constant_str ?_)
  exact thn (hb pins { s with toks := s.toks + 1 } σ H _ (by show 1 ≤ s.toks + 1; omega) (I.tok _) h) fun u s2 ⟨y, H2, I2, r2, q2⟩ => ho pins s2 σ H2 (.str x) y _ u Q I2 ⟨_, rfl⟩ r2 q2
theorem w_repl {σ : L2.St} {H : Hp} {Q : VK} {to : TE} {y z : Str} (h : to σ H fun v H1 => ∃ x, v = .str x ∧ x.length + (x.length + 1) * z.length ≤ 16777216 ∧ Q (.str (Txt.replace x y z)) H1) : CwR.tReplC to y z σ H Q := h
end
theorem vS_cat (a b : List Nat) : V.str (SX.S a ++ SX.S b) = V.str (SX.S (a ++ b)) := congrArg V.str (SX.S_cat a b)
/-- ' doubled -/
theorem repl_dbl (l : List Nat) : Txt.replace (S l) (S [39]) (S [39, 39]) = S (StrLaws.dbl 39 l) := by
  rw [PyProof.Rows.replace_dbl (S l) (S [39]) (S [39, 39]) 39 rfl rfl, S_list]
theorem dbl_len (c : Nat) : ∀ l : List Nat, (StrLaws.dbl c l).length ≤ 2 * l.length
  | [] => by simp [StrLaws.dbl]
  | k :: r => by
    have := dbl_len c r
    rw [StrLaws.dbl]
    split
    · simp only [List.length_cons]; omega
    · simp only [List.length_cons]; omega
end Fw
end

section
-- part Dc
set_option Elab.async false
set_option linter.all false
set_option maxRecDepth 100000
set_option maxHeartbeats 800000
/-! Dc: what the dice of a law promise -/
namespace Dc
open PySem PySem.Spec PyProof.Rows L2 Fw
def spDice : Sp := fun vs H Q _ => ∃ c : Int, vs = [.int c] ∧ ∀ p a b e, H p = none → Q (.ref p) (upd H p (.lst [.int a, .int b, .int e]))
/-- the drawn number is anything below m -/
def spRoll : Sp := fun vs H Q _ => ∃ (d : Addr) (m a b c : Int), vs = [.ref d, .int m] ∧ H d = some (.lst [.int a, .int b, .int c]) ∧ 0 < m ∧ m < 2 ^ 60 ∧
  ∀ r a' b' c' : Int, 0 ≤ r → r < m → Q (.int r) (upd H d (.lst [.int a', .int b', .int c']))
/-- a list of new dice -/
def spRounds (K : PySem.W.Frag) : Sp := fun vs H Q _ => ∃ (a : Addr) (ns : List Int) (m : Int), vs = [.ref a, .int m] ∧ SqL K H a (ns.map V.int) ∧ ns.length ≤ 63 ∧
  ∀ (p : Addr) (H' : Hp) (ds : List Addr), Same H H' → H p = none → H' p = some (.lst (ds.map V.ref)) → (∀ d ∈ ds, Dice H' d ∧ H d = none) → ds.length ≤ 63 → Q (.ref p) H'
end Dc
end

section
-- part FsD
set_option Elab.async false
set_option linter.all false
set_option maxRecDepth 100000
set_option maxHeartbeats 2000000
namespace Fw
open PySem PySem.Spec PyProof.Rows L2
section
variable {K : PySem.W.Frag} {σ : L2.St} {H : Hp} {Q : VK} {tl te : TE} {ta : TA} {j : Nat} {vs : List Nat} {tt : TT} {g : TG} {wi : TI}
theorem w_lcRp {n : Int} {R : Addr → Hp → Prop} (hn : 0 ≤ n ∧ n < 2 ^ 62) (h : ∀ D, H D = none → ∃ Pv : Nat → Hp → Prop, Pv 0 (upd H D (.lst [])) ∧
      (∀ (i : Nat) H2, (i : Int) < n → Pv i H2 → g (.int (0 + (i : Int))) (wipe σ vs) H2 fun σ2 H2 => wipe σ2 vs = wipe σ vs ∧ tt σ2 H2 fun b H3 =>
        if b = true then te σ2 H3 fun y H4 => ∃ acc, H4 D = some (.lst acc) ∧ acc.length < sizeLine ∧ Pv (i + 1) (upd H4 D (.lst (acc ++ [y]))) else Pv (i + 1) H3) ∧ (∀ H2, Pv n.toNat H2 → R D H2)) :
    -(2 ^ 62) ≤ n ∧ n < 2 ^ 62 ∧ ∀ D, H D = none → ∃ W : Nat → Nat → Hp → Prop, (∃ m, W 0 m (upd H D (.lst []))) ∧ ∀ i m H, W i m H →
      ((Itr 0 n.toNat).stop i H ∧ R D H) ∨ ((Itr 0 n.toNat).go i H ∧ ∃ Nx : Hp → Prop, (∀ H', Nx H' → ∃ m', m' < m ∧ W (i + 1) m' H') ∧ ∀ x H', (Itr 0 n.toNat).yld i H x H' → g x (wipe σ vs) H' fun σ2 H2 => wipe σ2 vs = wipe σ vs ∧ tt σ2 H2 fun b H3 =>
        if b = true then te σ2 H3 fun y H4 => ∃ acc, H4 D = some (.lst acc) ∧ acc.length < sizeLine ∧ Nx (upd H4 D (.lst (acc ++ [y]))) else Nx H3) := by
  obtain ⟨j, e, a, b, r⟩ := w_lcR (Q := fun v H => ∀ D, v = .ref D → R D H) hn fun D hD => by
    obtain ⟨Pv, x, y, z⟩ := h D hD
    exact ⟨Pv, x, y, fun H2 p D' e => by cases e; exact z H2 p⟩
  cases e
  refine ⟨a, b, fun D hD => ?_⟩
  obtain ⟨W, w1, w2⟩ := r D hD
  refine ⟨W, w1, fun i m H hw => ?_⟩
  rcases w2 i m H hw with ⟨x, y⟩ | x
  · exact .inl ⟨x, y D rfl⟩
  · exact .inr x
theorem w_forRp {g : TG} {tb : TS} {D : Ends} {n : Int} (hn : 0 ≤ n ∧ n < 2 ^ 62) (Pv : Nat → L2.St → Hp → Prop) (h0 : Pv 0 σ H)
    (hs : ∀ (i : Nat) σ H, (i : Int) < n → Pv i σ H → g (.int (0 + (i : Int))) σ H fun σ2 H2 => tb { D with nx := Pv (i + 1), ct := Pv (i + 1), bk := D.nx } σ2 H2) (hd : ∀ σ H, Pv n.toNat σ H → D.nx σ H) :
    -(2 ^ 62) ≤ n ∧ n < 2 ^ 62 ∧ ∃ W : Nat → Nat → L2.St → Hp → Prop, (∃ m, W 0 m σ H) ∧ ∀ i m σ H, W i m σ H →
      ((Itr 0 n.toNat).stop i H ∧ D.nx σ H) ∨ ((Itr 0 n.toNat).go i H ∧ ∃ N : L2.St → Hp → Prop, (∀ σ' H', N σ' H' → ∃ m', m' < m ∧ W (i + 1) m' σ' H') ∧ ∀ x H', (Itr 0 n.toNat).yld i H x H' → g x σ H' fun σ2 H2 => tb { D with nx := N, ct := N, bk := D.nx } σ2 H2) := by
  obtain ⟨j, e, r⟩ := w_forR hn Pv h0 hs hd
  cases e
  exact r
theorem newl {d p : Addr} {H0 Hc H' : Hp} {o : HO} (k : Kp d H0 Hc) (hd : Dice Hc d) (hp : Hc p = none) (hX : upd Hc p o = H') : Kp d H0 H' ∧ Kp d Hc H' ∧ Dice H' d ∧ p ≠ d ∧ H0 p = none ∧ H' p = some o := by
  subst hX
  have hd' := hd
  obtain ⟨a, b, c, hd'⟩ := hd'
  have n : p ≠ d := (ne_of_none hd' hp).symm
  refine ⟨k.trans (Kp.new hp), Kp.new hp, hd.new hp, n, ?_, upd_same⟩
  cases e : H0 p with
  | none => rfl
  | some u => rw [k _ _ n e] at hp; cases hp
theorem w_roll {d : Addr} {m : Int} {H0 Hc : Hp} {Q : VK} {E : XK} (h0 : 0 < m) (h1 : m < 2 ^ 60) (k : Kp d H0 Hc) (hd : Dice Hc d) (h : ∀ (r : Int) (H' : Hp), 0 ≤ r → r < m → Kp d H0 H' → Kp d Hc H' → Dice H' d → Q (.int r) H') : Dc.spRoll [.ref d, .int m] Hc Q E := by
  obtain ⟨a, b, c, hd⟩ := hd
  exact ⟨d, m, a, b, c, rfl, hd, h0, h1, fun r a' b' c' e0 e1 => h r _ e0 e1 (k.trans Kp.at_) Kp.at_ ⟨a', b', c', upd_same⟩⟩
/-- a list of signs drawn from cs -/
theorem w_draws {d : Addr} {H0 : Hp} {cs : List Nat} {k : Nat} {m n : Int} {x : Str} {R : Addr → Hp → Prop} (hx : x = S cs) (hm : m = cs.length) (h0 : 0 < m) (h1 : m ≤ 1000) (hn : 0 ≤ n ∧ n ≤ 1000) (kp : Kp d H0 H) (dd : Dice H d)
    (hσ : ∀ v, ((wipe σ vs).set k (some v))[0]? = some (some (.ref d))) (hw : ∀ v, wipe ((wipe σ vs).set k (some v)) vs = wipe σ vs)
    (h : ∀ (D : Addr) (H2 : Hp) (l : List Nat), Kp d H0 H2 → Kp d H H2 → Dice H2 d → H2 D = some (.lst (l.map fun c => V.str (S [c]))) → (∀ c ∈ l, c ∈ cs) → l.length = n.toNat → R D H2) :
    -(2 ^ 62) ≤ n ∧ n < 2 ^ 62 ∧ ∀ D, H D = none → ∃ W : Nat → Nat → Hp → Prop, (∃ m, W 0 m (upd H D (.lst []))) ∧ ∀ i m' H, W i m' H →
      ((Itr 0 n.toNat).stop i H ∧ R D H) ∨ ((Itr 0 n.toNat).go i H ∧ ∃ Nx : Hp → Prop, (∀ H', Nx H' → ∃ m'', m'' < m' ∧ W (i + 1) m'' H') ∧ ∀ z H', (Itr 0 n.toNat).yld i H z H' → gName k z (wipe σ vs) H' fun σ2 H2 => wipe σ2 vs = wipe σ vs ∧ tYes σ2 H2 fun b H3 =>
        if b = true then tOp rIxS (tC (.str x)) (tCl Dc.spRoll C8.E0 (tCons (tVar 0) (tCons (tC (.int m)) tNil))) σ2 H3 fun y H4 => ∃ acc, H4 D = some (.lst acc) ∧ acc.length < sizeLine ∧ Nx (upd H4 D (.lst (acc ++ [y]))) else Nx H3) := by
  subst hx
  refine w_lcRp ⟨hn.1, Int.lt_of_le_of_lt hn.2 (by decide)⟩ fun D hD => ?_
  obtain ⟨kp1, kp2, dd1, nD, fD, eD⟩ := newl (o := .lst []) kp dd hD rfl
  refine ⟨fun i H2 => ∃ l : List Nat, l.length = i ∧ (∀ c ∈ l, c ∈ cs) ∧ H2 D = some (.lst (l.map fun c => V.str (S [c]))) ∧ Kp d H0 H2 ∧ Kp d H H2 ∧ Dice H2 d, ⟨[], rfl, fun c hc => absurd hc List.not_mem_nil, eD, kp1, kp2, dd1⟩, ?_, ?_⟩
  · rintro i H2 hi ⟨l, rfl, hl, e2, k2, k3, d2⟩
    refine w_gname ⟨hw _, w_yes ?_⟩
    rw [if_pos rfl]
    refine w_op (w_c (w_cl (w_cons (w_var (hσ _) (w_cons (w_c (w_nil (w_roll h0 (Int.lt_of_le_of_lt h1 (by decide)) k2 d2 fun r H3 r0 r1 k4 k5 d4 => ?_))))))))
    obtain ⟨q, rfl⟩ := Int.eq_ofNat_of_zero_le r0
    have hq : q < cs.length := by omega
    refine w_ixS (Nat.le_trans (by omega : cs.length ≤ 1000) (by decide)) (List.getElem?_eq_getElem hq) ?_
    have e3 := k5 _ _ nD e2
    have hf : H D = none := hD
    have fin : ∀ {Hs : Hp}, Kp d Hs H3 → Hs D = none → Kp d Hs (upd H3 D (.lst ((l.map fun c => V.str (S [c])) ++ [V.str (S [cs[q]])]))) := fun {Hs} a f b o nb e => by
      rw [upd_ne (ne_of_none e f)]
      exact a b o nb e
    refine ⟨_, e3, by rw [List.length_map]; exact Nat.lt_of_lt_of_le (by omega : l.length < 1001) (by decide), l ++ [cs[q]], by simp, ?_, by rw [upd_same, List.map_append]; rfl, fin k4 fD, fin (k3.trans k5) hD, ?_⟩
    · intro c hc
      rcases List.mem_append.mp hc with hc | hc
      · exact hl c hc
      · rw [List.mem_singleton.mp hc]; exact List.getElem_mem hq
    · obtain ⟨a, b, c, e⟩ := d4
      exact ⟨a, b, c, by rw [upd_ne nD.symm]; exact e⟩
  · rintro H2 ⟨l, hl, hc, e, k1, k2, d2⟩
    exact h D H2 l k1 k2 d2 e hc hl
theorem joinL_one : ∀ l : List Nat, TL.joinL [] (l.map fun c => [c]) = l
  | [] => rfl
  | [c] => rfl
  | c :: d :: r => by
    have ih := joinL_one (d :: r)
    show [c] ++ ([] ++ TL.joinL [] ([d] :: r.map fun c => [c])) = c :: d :: r
    rw [List.nil_append]
    rw [List.map_cons] at ih
    rw [ih]
    rfl
theorem join1 {K : PySem.W.Frag} {H : Hp} {D : Addr} {l : List Nat} (hl : l.length ≤ 1000) (e : H D = some (.lst (l.map fun c => V.str (S [c])))) :
    SqL K H D (List.map V.str (l.map fun c => S [c])) ∧ (List.map (fun x : Str => x.length) (l.map fun c => S [c])).sum + (l.map fun c => S [c]).length * (S []).length ≤ 16777216 ∧ Txt.join (S []) (l.map fun c => S [c]) = S l := by
  have e1 : (l.map fun c => V.str (S [c])) = (l.map fun c => S [c]).map V.str := by rw [List.map_map]; rfl
  have e2 : (l.map fun c => S [c]) = (l.map fun c => [c]).map SX.S := by rw [List.map_map]; rfl
  have e3 : ∀ l : List Nat, (List.map (fun x : Str => x.length) (l.map fun c => S [c])).sum = l.length := fun l => by
    induction l with
    | nil => rfl
    | cons c r ih => simp only [List.map_cons, List.sum_cons, ih, List.length_cons, SX.S_len, List.length_nil]; omega
  refine ⟨by rw [← e1]; exact SqL.of e, ?_, ?_⟩
  · rw [e3, show (S []).length = 0 from rfl, Nat.mul_zero]
    omega
  · rw [e2, show S [] = SX.S [] from rfl, SX.join_S, joinL_one]
end
end Fw
end

section
-- part FyD
set_option Elab.async false
set_option linter.all false
set_option maxRecDepth 100000
set_option maxHeartbeats 2000000
/-! Fy5: more rules -/
namespace Fw
open PySem PySem.Spec PyProof.Rows L2 SX
section
variable {K : PySem.W.Frag} {σ : L2.St} {H : Hp} {Q : VK} {te : TE} {t : TA} {QA : List V → Hp → Prop}
theorem isi_str : PySem.W.kitOne K (.type "str") (.type "str") = some true := by rfl
theorem isi_int : PySem.W.kitOne K (.type "int") (.type "str") = some false := by rfl
theorem isi_non : PySem.W.kitOne K (.type "NoneType") (.type "str") = some false := by rfl
theorem w_isiS {x : Str} (q : Q (.bl true) H) : L2.rIsi K [.str x, .ty "str"] H Q := ⟨_, _, _, _, _, rfl, .ty _, .base (.str x), isi_str, q⟩
theorem w_isiI {i : Int} (q : Q (.bl false) H) : L2.rIsi K [.int i, .ty "str"] H Q := ⟨_, _, _, _, _, rfl, .ty _, .base (.int i), isi_int, q⟩
theorem w_isiN (q : Q (.bl false) H) : L2.rIsi K [.non, .ty "str"] H Q := ⟨_, _, _, _, _, rfl, .ty _, .base .non, isi_non, q⟩
theorem w_star (h : te σ H fun x H1 => ∃ p xs, x = V.ref p ∧ (SqT K H1 p xs ∨ SqL K H1 p xs) ∧ t σ H1 fun ys H2 => QA (xs ++ ys) H2) : StX.tStar K te t σ H QA := h
theorem w_revL (h : te σ H fun x H1 => ∃ a xs, x = .ref a ∧ SqL K H1 a xs ∧ ∀ p, H1 p = none → Q (.ref p) (upd H1 p (.lst xs.reverse))) : tRevL K te σ H Q := h
theorem w_isN0 (q : Q (.bl true) H) : (fun x y H Q => y = V.non ∧ Q (.bl (decide (x = V.non))) H) V.non V.non H Q := ⟨rfl, by rw [decide_eq_true rfl]; exact q⟩
end
section
open PySem.AutoSeq1
theorem ext_tup (l : Addr) (us : Array Value) (n : Nat) (b : Addr) (ws : Array Value) (n2 : Nat) (dd : Option Addr) (sl : Array (Option Value)) (h0 : ¬(!us.isEmpty && Builtin.List.listTooLong (us.size + ws.size)) = true) (h1 : us.size ≤ sizeLine) (h2 : us.size + ws.size ≤ sizeLine + 1) :
    Meets (Builtin.«list.extend» ⟨[.ref l, .ref b], []⟩) (fun _ R s => s.heap.get? l = some { cls := .type "list", dict := none, data := .seq us n, slots := #[] } ∧ s.heap.get? b = some { cls := .type "tuple", dict := dd, data := .seq ws n2, slots := sl } ∧
      R (.ok (.ret Value.none)) { s with heap := s.heap.update l (Obj.mapSeq fun x => x ++ ws), toks := s.toks }) :=
  .of_wp fun prog w A R s h => by
    obtain ⟨hp, g, d, tk, os⟩ := s
    obtain ⟨hl, hb, h⟩ := h
    have f1 := AutoSeq1.idx_int
    have f2 := AutoSeq1.sub_tuple_tuple
    have f3 := AutoSeq1.sub_list_list
    have f4 := AutoSeq1.sub_tuple_list
    have f5 := AutoSeq1.sub_list_tuple
    have hz' : (us ++ ws).size ≤ sizeLine + 1 := by rw [Array.size_append]; exact h2
    wp_walk using (wpAny_updateSeq hl rfl (hz := h1) (_hz' := hz')), wpAny_loadPart' hl, wpAny_loadPart' hb; exact ⟨_, rfl, h⟩
end
section
variable {X : Cx}
/-- l.extend(t): t a list that is tracked, or a tuple -/
def rExtT (K : PySem.W.Frag) : V → List V → Hp → VK → Prop := fun x vs H Q => ∃ l b xs zs, x = .ref l ∧ vs = [.ref b] ∧ H l = some (.lst xs) ∧ SqT K H b zs ∧ xs.length + zs.length ≤ sizeLine ∧ Q .non (upd H l (.lst (xs ++ zs)))
theorem mt_extT : MtM X "list.extend" (rExtT X.K) := by
  intro pins s σ H x vs v us Q I rx rv h
  obtain ⟨l, b, xs, zs, rfl, rfl, hH, hB, hz, q⟩ := h
  cases rx
  obtain ⟨u, rfl, ru⟩ := rv.one
  cases ru
  obtain ⟨z, its, n, r, hl, e⟩ := I.lstM hH
  obtain ⟨its2, r2, ⟨⟨cls, dd, data, sl⟩, e2, hc, n2, hd⟩, hs⟩ := I.tuple hB
  simp only at hc hd
  subst hc hd
  have hl2 := r2.length
  have hsz : its.toArray.size + its2.toArray.size ≤ sizeLine := by rw [List.size_toArray, List.size_toArray]; omega
  have hlong : ¬ (!its.toArray.isEmpty && Builtin.List.listTooLong (its.toArray.size + its2.toArray.size)) = true := by
    rw [notLongL hsz, Bool.and_false]
    exact Bool.false_ne_true
  refine call_meets F.slot_list_extend ⟨_, e, rfl⟩ F.entry_list_extend (F.args_list_extend_2 _ _)
    (ext_tup l its.toArray n b its2.toArray n2 dd sl hlong (by rw [List.size_toArray]; omega) (by omega)) ⟨e, e2, ?_⟩
  refine ⟨.non, _, I.lset (its' := its ++ its2) hH e (by simp) (r.append r2) ?_, rfl, q⟩
  rw [List.length_append]
  omega
theorem w_extT {K : PySem.W.Frag} {l b : Addr} {xs zs : List V} {H : Hp} {Q : VK} (h : H l = some (.lst xs)) (t : SqT K H b zs) (hz : xs.length + zs.length ≤ sizeLine) (q : Q .non (upd H l (.lst (xs ++ zs)))) : rExtT K (.ref l) [.ref b] H Q := ⟨l, b, xs, zs, rfl, rfl, h, t, hz, q⟩
end
section
variable {K : PySem.W.Frag} {σ : L2.St} {H : Hp} {te : TE} {vs : List Nat} {tt : TT} {g : TG}
/-- [.. for sign in text] -/
theorem w_lcS {l : List Nat} {R : Addr → Hp → Prop} (h : ∀ D, H D = none → ∃ Pv : Nat → Hp → Prop, Pv 0 (upd H D (.lst [])) ∧
      (∀ i c H2, l[i]? = some c → Pv i H2 → g (.str (S [c])) (wipe σ vs) H2 fun σ2 H2 => wipe σ2 vs = wipe σ vs ∧ tt σ2 H2 fun b H3 =>
        if b = true then te σ2 H3 fun y H4 => ∃ acc, H4 D = some (.lst acc) ∧ acc.length < sizeLine ∧ Pv (i + 1) (upd H4 D (.lst (acc ++ [y]))) else Pv (i + 1) H3) ∧ (∀ H2, Pv l.length H2 → R D H2)) :
    ∃ x, V.str (S l) = .str x ∧ ∀ D, H D = none → ∃ W : Nat → Nat → Hp → Prop, (∃ m, W 0 m (upd H D (.lst []))) ∧ ∀ i m H, W i m H →
      ((Its x).stop i H ∧ R D H) ∨ ((Its x).go i H ∧ ∃ Nx : Hp → Prop, (∀ H', Nx H' → ∃ m', m' < m ∧ W (i + 1) m' H') ∧ ∀ y H', (Its x).yld i H y H' → g y (wipe σ vs) H' fun σ2 H2 => wipe σ2 vs = wipe σ vs ∧ tt σ2 H2 fun b H3 =>
        if b = true then te σ2 H3 fun y H4 => ∃ acc, H4 D = some (.lst acc) ∧ acc.length < sizeLine ∧ Nx (upd H4 D (.lst (acc ++ [y]))) else Nx H3) := by
  refine ⟨S l, rfl, fun D hD => ?_⟩
  obtain ⟨Pv, h0, hs, hd⟩ := h D hD
  have el : (S l).cps.size = l.length := by rw [← S_list l]; simp
  have el2 : (S l).cps.toList = l := S_list l
  refine ⟨fun i m H => m = (S l).cps.size - i ∧ i ≤ (S l).cps.size ∧ Pv i H, ⟨_, rfl, Nat.zero_le _, h0⟩, ?_⟩
  rintro i m H ⟨rfl, hi, p⟩
  by_cases hlt : i < (S l).cps.size
  · refine .inr ⟨hlt, Pv (i + 1), fun H' p' => ⟨(S l).cps.size - (i + 1), by omega, rfl, hlt, p'⟩, fun v H' y => ?_⟩
    obtain ⟨e, c, hc, rfl⟩ := y
    subst e
    have hc2 : l[i]? = some c := by
      rw [← el2]
      simpa using hc
    exact hs i c _ hc2 p
  · have e : i = (S l).cps.size := by omega
    subst e
    rw [el] at p
    exact .inl ⟨Nat.le_refl _, hd H p⟩
/-- over a tuple -/
theorem w_lcTn {p : Addr} {xs : List V} {R : Addr → Hp → Prop} (hS : SqT K H p xs) (h : ∀ D, H D = none → ∃ Pv : Nat → Hp → Prop, Pv 0 (upd H D (.lst [])) ∧ (∀ i H2, i ≤ xs.length → Pv i H2 → SqT K H2 p xs) ∧
      (∀ i x H2, xs[i]? = some x → Pv i H2 → g x (wipe σ vs) H2 fun σ2 H2 => wipe σ2 vs = wipe σ vs ∧ tt σ2 H2 fun b H3 =>
        if b = true then te σ2 H3 fun y H4 => ∃ acc, H4 D = some (.lst acc) ∧ acc.length < sizeLine ∧ Pv (i + 1) (upd H4 D (.lst (acc ++ [y]))) else Pv (i + 1) H3) ∧ (∀ H2, Pv xs.length H2 → R D H2)) :
    ∃ a, V.ref p = .ref a ∧ (∃ xs, SqT K H a xs) ∧ ∀ D, H D = none → ∃ W : Nat → Nat → Hp → Prop, (∃ m, W 0 m (upd H D (.lst []))) ∧ ∀ i m H, W i m H →
      ((Itt K a).stop i H ∧ R D H) ∨ ((Itt K a).go i H ∧ ∃ Nx : Hp → Prop, (∀ H', Nx H' → ∃ m', m' < m ∧ W (i + 1) m' H') ∧ ∀ x H', (Itt K a).yld i H x H' → g x (wipe σ vs) H' fun σ2 H2 => wipe σ2 vs = wipe σ vs ∧ tt σ2 H2 fun b H3 =>
        if b = true then te σ2 H3 fun y H4 => ∃ acc, H4 D = some (.lst acc) ∧ acc.length < sizeLine ∧ Nx (upd H4 D (.lst (acc ++ [y]))) else Nx H3) := by
  refine ⟨p, rfl, ⟨xs, hS⟩, fun D hD => ?_⟩
  obtain ⟨Pv, h0, hl, hs, hd⟩ := h D hD
  exact lc_tup (Qd := fun H => R D H) Pv h0 hl hs hd
end
end Fw
end

section
-- part Fr
set_option Elab.async false
set_option linter.all false
set_option maxRecDepth 100000
set_option maxHeartbeats 4000000
/-! Fr: a list comprehension whose element may raise -/
namespace Fw
open PySem PySem.Spec PyProof.Rows L2
section
variable {M : Model} {A : Around} {E : Value → Shared → Prop} {s : Shared} {env : Env}
/-- the end of a block whose own env is ce -/
def endOf (M : Model) (A : Around) (E : Value → Shared → Prop) (use : Option (Value → Sem Unit)) (Q : Value → Shared → Prop) (acc : Value) (ce : Env) : Result → Shared → Prop
  | .ok _, t => match use with
    | none => ∃ m, t.heap.Ns ce.locals m ∧ ∀ g, Heap.SameBut ce.locals t.heap g → Q acc { t with heap := g }
    | some u => wpAny M A (u acc) (fun _ t' => ∃ m, t'.heap.Ns ce.locals m ∧ ∀ g, Heap.SameBut ce.locals t'.heap g → Q .none { t' with heap := g }) E t
  | .error x, t => ∃ m, t.heap.Ns ce.locals m ∧ ∀ g, Heap.SameBut ce.locals t.heap g → wpAny M A (passOn "comprehension.variables-let-go" x ce : Sem Value) (fun _ _ => False) E { t with heap := g }
theorem comp_run {e : Expr} {scope : Scope} {pos : Pos} {mk first : Sem Value} {c : Comprehension} {cs : List Comprehension} {cl : List (Str × Addr)} {use : Option (Value → Sem Unit)} {Q : Value → Shared → Prop}
    (h1 : clausesOf e = c :: cs) (h2 : ∀ x, foldedSetIterable c.iter env x = pure x) (h3 : closureFor scope env = pure cl) (hk : scope.kind = .function) (hn : ∀ x ∈ scope.names, x.2 = .local → scope.names.lookup x.1 = some .local)
    (h : wpAny M A first (fun x t1 => wpAny M A (pyIter x) (fun it t2 => wpAny M A mk (fun acc t3 => wpAny M A (newFunctionEnv scope env.globals cl [] env.qual none .none (some env)) (fun ce t4 =>
      codeAny M A (.compStart e 0 it acc { ce with scope := relabel scope env }) (endOf M A E use Q acc { ce with scope := relabel scope env }) t4) E t3) E t2) E t1) E s) :
    wpAny M A (comprehension e scope env pos mk false first use) Q E s := by
  unfold comprehension
  rw [h3, h1]
  refine wpAny_bind (wpAny_mono h (fun x t1 q1 => ?_) fun _ _ z => z)
  refine wpAny_bind (wpAny_standAt (wpAny_bind (wpAny_of_eq (h2 x) (wpAny_bind (wpAny_holding (wpAny_mono q1 (fun it t2 q2 => ?_) fun _ _ z => z))))))
  refine wpAny_standIf (wpAny_bind (wpAny_mono q2 (fun acc t3 q3 => ?_) fun _ _ z => z))
  refine wpAny_bind (wpAny_pure (wpAny_bind (wpAny_mono q3 (fun ce t4 q4 => ?_) fun _ _ z => z)))
  dsimp only
  have lk : ∀ {y}, y ∈ (scope.names.filter fun x => (x.2 == .local || x.2 == .cell) && x.1 != (".0" : Str)).reverse → y.2 = .local → Env.kindOf { ce with scope := relabel scope env } y.1 = some .local := fun {y} hy hl =>
    lookup_relabel_local (hn y (List.mem_filter.mp (List.mem_reverse.mp hy)).1 hl)
  have lk2 : ∀ y ∈ (scope.names.filter fun x => (x.2 == .local || x.2 == .cell) && x.1 != (".0" : Str)).reverse.drop 1 ++ (scope.names.filter fun x => (x.2 == .local || x.2 == .cell) && x.1 != (".0" : Str)).reverse.take 1,
      y.2 = .local → Env.kindOf { ce with scope := relabel scope env } y.1 = some .local := fun y hy hl => (List.mem_append.mp hy).elim (fun z => lk (List.mem_of_mem_drop z) hl) fun z => lk (List.mem_of_mem_take z) hl
  refine wpAny_holding (wpAny_bind (wpAny_attempt (wpAny_holding (wpAny_run (codeAny_mono q4 fun r t qr => ?_)))))
  cases r with
  | error x =>
    obtain ⟨m, hm, qr⟩ := qr
    exact wpAny_bind (wpAny_holding (wpAny_comp_letGo (cenv := { ce with scope := relabel scope env }) hk _ t m (fun y hy hl => lk hy hl) hm fun g _ _ sb => wpAny_mono (qr g sb) (fun _ _ z => z.elim) fun _ _ z => z))
  | ok f =>
    cases use with
    | none =>
      obtain ⟨m, hm, qr⟩ := qr
      exact wpAny_bind (wpAny_holding (wpAny_comp_letGo (cenv := { ce with scope := relabel scope env }) hk _ t m (fun y hy hl => lk hy hl) hm fun g _ _ sb => wpAny_pure (qr g sb)))
    | some u =>
      refine wpAny_bind (wpAny_rule (wpAny_bind (wpAny_holding (wpAny_mono qr (fun _ t' qr' => ?_) fun _ _ z => z))))
      obtain ⟨m, hm, qr'⟩ := qr'
      exact wpAny_bind (wpAny_comp_letGo (cenv := { ce with scope := relabel scope env }) hk _ t' m lk2 hm fun g _ _ sb => wpAny_pure (qr' g sb))
end
theorem frames_but {h h' B : Heap} {C : Addr} (k : ∀ b o, b ≠ C → h.get? b = some o → h'.get? b = some o) : ∀ {l : List Env}, h.FunFrames B l → C ∉ frs l → h'.FunFrames B l
  | [], _, _ => trivial
  | env :: l, x, n => by
    obtain ⟨x1, ⟨L, o, hf, hb, ho, hd⟩, x2⟩ := x
    have mL : L ∈ frs (env :: l) := List.mem_filterMap.mpr ⟨env, List.mem_cons_self, hf⟩
    refine ⟨x1, ⟨L, o, hf, hb, k L o (fun z => n (z ▸ mL)) ho, hd⟩, frames_but k x2 fun m => n ?_⟩
    obtain ⟨e, he, q⟩ := List.mem_filterMap.mp m
    exact List.mem_filterMap.mpr ⟨e, List.mem_cons_of_mem _ he, q⟩
theorem frames_base {h B B' : Heap} : ∀ {l : List Env}, h.FunFrames B l → (∀ b, B.get? b = none → B'.get? b = none) → h.FunFrames B' l
  | [], _, _ => trivial
  | env :: l, x, n => by
    obtain ⟨x1, ⟨L, o, hf, hb, ho, hd⟩, x2⟩ := x
    exact ⟨x1, ⟨L, o, hf, n L hb, ho, hd⟩, frames_base x2 n⟩
section
variable {X : Cx}
/-- what leaves a block by a call in it -/
def fromBlock (B : Cx) (X : Cx) (E : XK) : Value → Shared → Prop := fun u t => ∃ pins σ H s, Inv B pins σ H s ∧ L2.CX X.prog X.w X.stack H s E u t
theorem passes_block {B : Cx} {E : XK} (hs : B.stack = X.stack) : Passes (L2.CX X.prog X.w) (B.wish (fromBlock B X E)) E := by
  intro pins σ H s e t I c
  refine ⟨pins, σ, H, s, I.unwish, ?_⟩
  rw [← hs]
  exact c
theorem note_same {ce env : Env} (h : ce.frame = env.frame) (x : Value) : noteFrame x ce = noteFrame x env := by
  unfold noteFrame PySem.frameOf
  rw [h]
theorem block_raise {pins : List (Addr × Obj)} {σ : L2.St} {H3 : Hp} {s3 : Shared} {scope : Scope} {ce : Env} {fp : List Addr} {E : XK} {use : Option (Value → Sem Unit)} {Qf : Value → Shared → Prop} {acc u : Value} {t : Shared}
    (hs : X.stack = X.env :: X.outer) (hf : X.env.frame = some X.env.locals) (tk : Takes X (fun cls d _ H => E cls d H)) (I3 : Inv X pins σ H3 s3) (hcf : ce.frame = X.env.frame) (hcl : ce.locals = s3.heap.objs.size) (f3 : ∀ b ∈ fp, FpOk X pins H3 b)
    (r : fromBlock (X.blk s3 H3 scope ce fp) X E u t) : notedBy (model X.prog X.w) X.A ce (fun e t => endOf (model X.prog X.w) X.A X.xe use Qf acc ce (.error e) t) u t := by
  obtain ⟨pB, σB, HB, sB, IB, a, Bg, H', cls, d, rfl, fl, hok, ub, na, os, ag, hE⟩ := r
  have I7 : Inv X pins σ HB sB := I3.call' (ch := fp) IB.os IB.base IB.hok IB.bare fun b hb => ⟨(f3 b hb).2.2.2.1, (f3 b hb).2.1, (f3 b hb).2.2.2.2.1, (f3 b hb).2.2.2.2.2⟩
  have nC : HB ce.locals = none := IB.free
  obtain ⟨m, hn, _⟩ := IB.loc
  have hn : sB.heap.Ns ce.locals m := hn
  have fC : FpOk X pins HB s3.heap.objs.size := I3.fpOk (Nat.le_refl _) (by rw [← hcl]; exact nC)
  rw [← hcl] at fC
  generalize hC : ce.locals = C at nC hn fC
  have Cf : C ∉ frs X.stack := fun hm => by
    rcases List.mem_cons.mp (I3.stkSub C hm) with z | z
    · exact fC.2.1 z
    · exact fC.2.2.1 z
  obtain ⟨oC, _, _, eC, _⟩ := id hn
  have hn' : t.heap.Ns C m := hn.at' fun o e => fl.1 _ _ (ub.keep C o e nC Cf)
  have nC' : H' C = none := ub.free C oC eC nC
  -- the ground without C
  obtain ⟨B', b1, b2⟩ := restrict Bg fun b => decide (b ≠ C)
  have b3 : ∀ b o, B'.get? b = some o → Bg.get? b = some o ∧ b ≠ C := fun b o e => by
    by_cases z : b = C
    · rw [b2 b (by simp [z])] at e
      cases e
    · exact ⟨by rw [← b1 b (by simp [z])]; exact e, z⟩
  have b4 : ∀ b o, b ≠ C → Bg.get? b = some o → B'.get? b = some o := fun b o z e => by rw [b1 b (by simp [z])]; exact e
  have b5 : ∀ b, Bg.get? b = none → B'.get? b = none := fun b e => by
    cases q : B'.get? b with
    | none => rfl
    | some o => rw [(b3 b o q).1] at e; cases e
  have hfr : X.A.frames = some (X.env :: X.outer) := by rw [I3.ok.frames, hs]
  rw [hs] at fl
  unfold notedBy
  rw [note_same hcf]
  refine HandSPX.looks_onZ Zc.steady hfr hf fl fun h1 held up1 => ?_
  obtain ⟨k1, k2, k3, oe, vs, T, oT, ts, he, hz, hd, q1, nT, Ta, hT, hdT, q3⟩ := held
  refine ⟨m, ?_, fun g sb => ?_⟩
  · rw [hC]
    exact hn.at' fun o e => k1 _ _ (ub.keep C o e nC Cf)
  have bC := ub.keep C oC eC nC Cf
  have aC : a ≠ C := fun z => by rw [z, bC] at k2; cases k2
  have TC : T ≠ C := fun z => by rw [z, bC] at nT; cases nT
  have same : ∀ b, b ≠ C → g.get? b = h1.get? b := fun b hb => sb.2 b (by rw [hC]; exact hb)
  have held2 : HandSPX.HeldZ B' (X.env :: X.outer) a (Zc cls d) X.env.locals g := by
    refine ⟨fun b o e => ?_, b5 a k2, frames_base (frames_but (fun b o hb e => (same b hb).trans e) k3 (by rw [← hs]; exact Cf)) b5, oe, vs, T, oT, ts, (same a aC).trans he, hz, hd, q1, b5 T nT, Ta, (same T TC).trans hT, hdT, q3⟩
    obtain ⟨e1, e2⟩ := b3 b o e
    exact (same b e2).trans (k1 _ _ e1)
  unfold PySem.passOn
  refine wpAny_bind (wpAny_field ((same a aC).trans he) hd q1 ?_)
  rw [if_neg (show ¬ ((Value.ref T == Value.none) = true) from by simp)]
  have fin : wpAny (model X.prog X.w) X.A (setFlight (.ref a) ce.frame) (fun _ t4 => wpAny (model X.prog X.w) X.A (throw (.ref a) : Sem Value) (fun _ _ => False) X.xe t4) X.xe { t with heap := g } := by
    rw [hcf, hf]
    refine HandSPX.setFlight_onZ held2 fun h2 held3 up3 => wpAny_throw (tk _ _ ?_)
    obtain ⟨G, g1, g2⟩ := restrict t.heap fun b => (B'.get? b).isSome || decide (b ∈ frs X.stack)
    have og : ∀ b o, G.get? b = some o → t.heap.get? b = some o ∧ ((B'.get? b).isSome = true ∨ b ∈ frs X.stack) := fun b o e => by
      cases q : ((B'.get? b).isSome || decide (b ∈ frs X.stack)) with
      | true =>
        rw [g1 b q] at e
        exact ⟨e, by simpa [Bool.or_eq_true] using q⟩
      | false => rw [g2 b q] at e; cases e
    have gB : ∀ b o, B'.get? b = some o → G.get? b = some o := fun b o e => by
      rw [g1 b (by simp [e])]
      exact fl.1 b o (b3 b o e).1
    have gF : ∀ b, b ∈ frs X.stack → G.get? b = t.heap.get? b := fun b hb => g1 b (by simp [hb])
    have GC : ∀ b o, G.get? b = some o → b ≠ C := fun b o e z => by
      rcases (og b o e).2 with q | q
      · obtain ⟨o', q⟩ := Option.isSome_iff_exists.mp q
        exact (b3 b o' q).2 z
      · exact Cf (z ▸ q)
    refine ⟨a, B', { sB with heap := G, gens := t.gens, drawn := t.drawn, toks := t.toks }, pins, σ, H', cls, d, rfl, ?_, fun b o e hb => ?_, fun b o e hnf => ?_, .inr (.inr (by rw [hs]; exact held3)), na, os, ag, hE⟩
    · have slotF : ∀ b o, sB.heap.get? b = some o → b ∈ frs X.stack → ∃ sl, G.get? b = some { o with slots := sl } := fun b o e hb => by
        obtain ⟨sl, q⟩ := ub.slot b o e hb
        exact ⟨sl, by rw [gF b hb]; exact q⟩
      refine I7.call (ch := [C]) ⟨fun b o e n hb hc => gB b o (b4 b o (fun z => hc (by simp [z])) (ub.keep b o e n hb)), fun b o e n hb hc => slotF b o e hb, fun b o e n _ => ub.free b o e n, fun b o e hc => ?_, ub.tups, ub.frzs, ub.tbls⟩ (fun b o q => ?_) ag fun b hb => ?_
      · by_cases hb : b ∈ frs X.stack
        · obtain ⟨sl, q⟩ := slotF b o e hb
          exact ⟨_, q⟩
        · obtain ⟨o', q⟩ := ub.there b o e hb
          exact ⟨o', gB b o' (b4 b o' (fun z => hc (by simp [z])) q)⟩
      · refine (hok b o q).stay (fun c v hc e => gB c v (b4 c v (fun z => ?_) e)) (fun _ z => z) fun _ _ z => z
        rcases hc with hc | hc
        · rw [← hc, z, nC'] at q; cases q
        · rw [z, nC'] at hc; cases hc
      · rw [List.mem_singleton.mp hb]
        exact ⟨fC.2.2.2.1, fC.2.1, fC.2.2.2.2.1, fC.2.2.2.2.2⟩
    · obtain ⟨e', q⟩ := og b o e
      rcases q with q | q
      · obtain ⟨o', q⟩ := Option.isSome_iff_exists.mp q
        have z := fl.1 b o' (b3 b o' q).1
        rw [e'] at z
        cases z
        exact q
      · exact absurd q hb
    · obtain ⟨e', _⟩ := og b o e
      obtain ⟨sl, z1⟩ := up1 b o e' hnf
      have z2 := (same b (GC b o e)).trans z1
      obtain ⟨sl2, z3⟩ := up3 b _ z2 hnf
      exact ⟨sl2, z3⟩
  first
    | exact wpAny_bind (wpAny_pure (wpAny_bind fin))
    | exact wpAny_bind fin
/-- the comprehension's rule, its element one that may raise E -/
theorem lc_raise {pins : List (Addr × Obj)} {s : Shared} {σ : L2.St} {H : Hp} {Q : VK} {elt tg iter : Expr} {ifs : List Expr} {scope : Scope} {own : List (Str × Nat)} {pos pos' : Pos} {wi : TI} {g : TG} {tt : TT} {te : TE} {use : Option (Value → Sem Unit)} {Qf : Value → Shared → Prop} {E : XK}
    (hs : X.stack = X.env :: X.outer) (hf : X.env.frame = some X.env.locals) (tk : Takes X (fun cls d _ H => E cls d H)) (calm : X.calm = true) (hN : X.N.Nodup) (I : Inv X pins σ H s) (hi : PI X tg iter wi) (ok : BlkOk X.N X.env.scope scope own)
    (hg : ∀ (s : Shared) (H : Hp) (C : Addr) (cl : List (Str × Addr)) (fp : List Addr), PG (X.blk s H scope (compEnvC scope cl C X.env) fp) tg g)
    (ht : ∀ (s : Shared) (H : Hp) (C : Addr) (cl : List (Str × Addr)) (fp : List Addr), PTs (X.blk s H scope (compEnvC scope cl C X.env) fp) ifs tt)
    (he : ∀ (s : Shared) (H : Hp) (C : Addr) (cl : List (Str × Addr)) (fp : List Addr), PE ((X.blk s H scope (compEnvC scope cl C X.env) fp).wish (fromBlock (X.blk s H scope (compEnvC scope cl C X.env) fp) X E)) elt te)
    (hfs : ∀ x, foldedSetIterable iter X.env x = pure x) (h : tLc wi g tt te (own.map (·.2)) σ H Q)
    (hend : ∀ D ce t m H', ce.frame = X.env.frame → Inv X pins σ H' t → Q (.ref D) H' → t.heap.Ns ce.locals m → FpOk X pins H' ce.locals → endOf (model X.prog X.w) X.A X.xe use Qf (.ref D) ce (.ok .next) t) :
    wpAny (model X.prog X.w) X.A (comprehension (.ListComp elt [⟨tg, iter, ifs, 0⟩] scope pos) scope X.env pos' (newList []) false (eval iter X.env) use) Qf X.xe s := by
  have free : ∀ z ∈ scope.names, z.2 = .free → ∃ c, X.env.cells.lookup z.1 = some c := fun z hz e => (ok.free z hz e).elim (fun k => I.ok.has _ (.inl k)) fun k => I.ok.has _ (.inr k)
  refine comp_run rfl hfs (closure_ok free) ok.kind (fun z hz e => by rw [ok.uniq z hz, e]) (thn (hi.run pins s σ H _ I h) fun xv s1 hx => thn hx fun itv s2 ⟨it, fp, tn, J, H2, e, I2, T, st2, f2, q⟩ => ?_)
  subst e
  refine wpAny_newObj_type (newEnv_comp ?_) (show 0 ≤ sizeLine by decide)
  generalize hD : s2.heap.objs.size = D
  have hDn : H2 D = none := I2.hok.fresh (Nat.le_of_eq hD)
  obtain ⟨W, ⟨m0, w0⟩, turn⟩ := q D hDn
  generalize hs3 : ({ s2 with heap := s2.heap.push { cls := .type "list", data := .seq ([] : List Value).toArray } } : Shared) = s3
  have h3 : s3.heap = s2.heap.push { cls := .type "list", data := .seq ([] : List Value).toArray } := by rw [← hs3]
  have I3 : Inv X pins σ (upd H2 D (.lst [])) s3 := by
    rw [← hs3]
    exact I2.laid (t' := s2.toks) (fun b o e => Heap.get?_push_of_some _ e) (Nat.le_of_eq hD) ⟨Nat.zero_le _, [], 0, .nil, by rw [← hD]; exact Heap.get?_push_size _ rfl⟩
  have f3 : ∀ b ∈ fp, FpOk X pins (upd H2 D (.lst [])) b ∧ b < s3.heap.objs.size := fun b hb => by
    obtain ⟨o, e, _⟩ := T.obj _ _ st2 b hb
    have lt := Heap.lt_size e
    exact ⟨⟨by rw [upd_ne (by rw [← hD]; exact Nat.ne_of_lt lt)]; exact (f2 b hb).1, (f2 b hb).2⟩, by rw [h3, Heap.size_push]; exact Nat.lt_succ_of_lt lt⟩
  have st3 : tn 0 s3.heap := T.keep _ _ _ st2 fun b _ o e => by rw [h3]; exact Heap.get?_push_of_some _ e
  have I4 := block_start I3 ok hN f3
  have pg := hg s3 (upd H2 D (.lst [])) s3.heap.objs.size (cellsFrom (s3.heap.objs.size + 1) scope.names (cloFrom X.env.cells scope.names [])) fp
  have pt := ht s3 (upd H2 D (.lst [])) s3.heap.objs.size (cellsFrom (s3.heap.objs.size + 1) scope.names (cloFrom X.env.cells scope.names [])) fp
  have pe := he s3 (upd H2 D (.lst [])) s3.heap.objs.size (cellsFrom (s3.heap.objs.size + 1) scope.names (cloFrom X.env.cells scope.names [])) fp
  show codeAny _ _ (.compStart (.ListComp elt [⟨tg, iter, ifs, 0⟩] scope pos) 0 (.ref it) (.ref D) (compEnvC scope (cellsFrom (s3.heap.objs.size + 1) scope.names (cloFrom X.env.cells scope.names [])) s3.heap.objs.size X.env))
    (endOf (model X.prog X.w) X.A X.xe use Qf (.ref D) (compEnvC scope (cellsFrom (s3.heap.objs.size + 1) scope.names (cloFrom X.env.cells scope.names [])) s3.heap.objs.size X.env)) { s3 with heap := pushCells (s3.heap.push { cls := .type "dict", data := .dict #[] }) scope.names }
  have nfp : ∀ b ∈ fp, (upd H2 D (.lst [])) b = none := fun b hb => (f3 b hb).1.1
  generalize hce : compEnvC scope (cellsFrom (s3.heap.objs.size + 1) scope.names (cloFrom X.env.cells scope.names [])) s3.heap.objs.size X.env = ce at I4 pg pt pe ⊢
  have cL : ce.locals = s3.heap.objs.size := by subst hce; rfl
  have cF : ce.frame = X.env.frame := by subst hce; rfl
  generalize hH3 : upd H2 D (.lst []) = H3 at I3 I4 pg pt pe w0 nfp f3
  generalize hs4 : ({ s3 with heap := pushCells (s3.heap.push { cls := .type "dict", data := .dict #[] }) scope.names } : Shared) = s4 at I4 ⊢
  have st4 : tn 0 s4.heap := T.keep _ _ _ st3 fun b _ o e => by rw [← hs4]; exact pushCells_keeps _ _ _ _ (Heap.get?_push_of_some _ e)
  have stat : ∀ {σ' : L2.St} {H' : Hp} {t : Shared}, Inv (X.blk s3 H3 scope ce fp) [] σ' H' t → (∀ b ∈ fp, H' b = none) → ∀ b ∈ fp, FpOk (X.blk s3 H3 scope ce fp) [] H' b := fun {σ' H' t} J hn b hb =>
    ⟨hn b hb, (J.ok.exf b hb).1, J.ok.exfs b hb, .inl hb, fun x c e => (J.ok.exf b hb).2 x c e, fun p hp => absurd (show p ∈ ([] : List (Addr × Obj)) ++ [] from hp) (by simp)⟩
  have back : ∀ {pB : List (Addr × Obj)} {σB : L2.St} {H' : Hp} {t : Shared}, Inv (X.blk s3 H3 scope ce fp) pB σB H' t → Inv X pins σ H' t := fun {pB σB H' t} J =>
    I3.call' (ch := fp) J.os J.base J.hok J.bare fun b hb => ⟨(f3 b hb).1.2.2.2.1, (f3 b hb).1.2.1, (f3 b hb).1.2.2.2.2.1, (f3 b hb).1.2.2.2.2.2⟩
  have loop : codeAny (model X.prog X.w) X.A (.compLoop (.ListComp elt [⟨tg, iter, ifs, 0⟩] scope pos) 0 (.ref it) (.ref D) ce) (endOf (model X.prog X.w) X.A X.xe use Qf (.ref D) ce) s4 := by
    refine compLoop_any (fun n t => ∃ i H', Inv (X.blk s3 H3 scope ce fp) [] (wipe σ (own.map (·.2))) H' t ∧ tn i t.heap ∧ (∀ b ∈ fp, H' b = none) ∧ W i n H') ?_ m0 ⟨0, H3, I4, st4, nfp, w0⟩
    rintro n s5 ⟨i, H5, I5, st5, n5, w5⟩
    rcases turn i n H5 w5 with ⟨stop, qq⟩ | ⟨go, Nx, hNx, step⟩
    · refine thnF (T.done (X.blk s3 H3 scope ce fp) rfl rfl rfl calm i [] s5 _ H5 (fun _ _ => False) I5 (stat I5 n5) st5 stop) fun r s6 ⟨hr, I6⟩ => ?_
      subst hr
      have z : H5 ce.locals = none := I6.free
      obtain ⟨m, hn, _⟩ := I6.loc
      exact hend D ce s6 m H5 cF (back I6) qq hn (by rw [cL] at z ⊢; exact I3.fpOk (Nat.le_refl _) z)
    · refine thnF (T.item (X.blk s3 H3 scope ce fp) rfl rfl rfl calm i [] s5 _ H5 (fun _ _ => False) I5 (stat I5 n5) st5 go) fun r s6 ⟨u, hr, h6⟩ => ?_
      subst hr
      refine thnF h6 fun _ s7 ⟨x, H7, I7, r7, y7, st7, n7⟩ => ?_
      refine thnF (pg.run _ s7 _ H7 x u _ (I7.pinned (stat I7 n7) (T.obj _ _ st7)) r7 (step x H7 y7)) fun _ s8 ⟨σ8, H8, I8, hw8, q8⟩ => ?_
      refine thnF (pt.run _ s8 σ8 H8 _ I8 q8) fun b s9 ⟨H9, I9, q9⟩ => ?_
      have fin : ∀ {t : Shared} {H' : Hp}, Inv (X.blk s3 H3 scope ce fp) ([] ++ pinsAt fp s7.heap) σ8 H' t → Nx H' → ∃ m, m < n ∧ ∃ i H', Inv (X.blk s3 H3 scope ce fp) [] (wipe σ (own.map (·.2))) H' t ∧ tn i t.heap ∧ (∀ b ∈ fp, H' b = none) ∧ W i m H' := fun {t H'} J nx => by
        obtain ⟨m', hm, w'⟩ := hNx H' nx
        have pin : ∀ b ∈ fp, ∀ o, s7.heap.get? b = some o → t.heap.get? b = some o ∧ H' b = none := fun b hb o e =>
          have z := J.pin (b, o) (List.mem_append_right _ (List.mem_append_right _ (mem_pinsAt hb e)))
          ⟨z.1, z.2.1⟩
        refine ⟨m', hm, i + 1, H', (J.unpinned (pins := [])).weak (by rw [← hw8, wipe_length]) (fun j v e => by rw [← hw8] at e; exact (wipe_some e).1), T.keep _ _ _ st7 fun b hb o e => (pin b hb o e).1, fun b hb => ?_, w'⟩
        obtain ⟨o, e, _⟩ := T.obj _ _ st7 b hb
        exact (pin b hb o e).2
      cases b with
      | true =>
        simp only [if_true] at q9 ⊢
        refine wpAny_mono (pe.run _ s9 σ8 H9 _ (I9.wish _) q9) (fun z s10 ⟨yv, H10, I10, r10, acc, hD10, hz10, nx⟩ => ?_) fun u t r => block_raise hs hf tk I3 cF cL (fun b hb => (f3 b hb).1) r
        exact app_ok (X := X.blk s3 H3 scope ce fp) I10.unwish hD10 hz10 r10 fun s11 I11 => fin I11 nx
      | false =>
        simp only [Bool.false_eq_true, if_false] at q9 ⊢
        exact fin I9 q9
  exact codeAny_compStart_list loop (T.self X.A 0 _ _ _ st4 loop)
theorem pe_lcR {elt tg iter : Expr} {ifs : List Expr} {scope : Scope} {own : List (Str × Nat)} {pos : Pos} {wi : TI} {g : TG} {tt : TT} {te : TE} {E : XK} (hs : X.stack = X.env :: X.outer) (hf : X.env.frame = some X.env.locals) (tk : Takes X (fun cls d _ H => E cls d H)) (calm : X.calm = true) (hN : X.N.Nodup)
    (hi : PI X tg iter wi) (ok : BlkOk X.N X.env.scope scope own) (hg : ∀ (s : Shared) (H : Hp) (C : Addr) (cl : List (Str × Addr)) (fp : List Addr), PG (X.blk s H scope (compEnvC scope cl C X.env) fp) tg g)
    (ht : ∀ (s : Shared) (H : Hp) (C : Addr) (cl : List (Str × Addr)) (fp : List Addr), PTs (X.blk s H scope (compEnvC scope cl C X.env) fp) ifs tt)
    (he : ∀ (s : Shared) (H : Hp) (C : Addr) (cl : List (Str × Addr)) (fp : List Addr), PE ((X.blk s H scope (compEnvC scope cl C X.env) fp).wish (fromBlock (X.blk s H scope (compEnvC scope cl C X.env) fp) X E)) elt te)
    (hfs : ∀ x, foldedSetIterable iter X.env x = pure x := by intro _; rfl) : PE X (.ListComp elt [⟨tg, iter, ifs, 0⟩] scope pos) (tLc wi g tt te (own.map (·.2))) := by
  refine ⟨fun pins s σ H Q I h => ?_⟩
  rw [eval_ListComp]
  refine lc_raise hs hf tk calm hN I hi ok hg ht he hfs h fun D ce t m H' _ J q hn f => ⟨m, hn, fun g sb => ?_⟩
  exact ⟨.ref D, H', J.turned (t' := t.toks) (fun b o hb e => (sb.2 b hb).trans e) f.1 f.2.1 f.2.2.2.1 f.2.2.2.2.1 f.2.2.2.2.2, rfl, q⟩
/-- name = [..], the name a local -/
theorem ps_setLcR {i : Nat} {y : Str} {py : Pos} {elt tg iter : Expr} {ifs : List Expr} {scope : Scope} {own : List (Str × Nat)} {pos spos : Pos} {wi : TI} {g : TG} {tt : TT} {te : TE} {E : XK} (hs : X.stack = X.env :: X.outer) (hf : X.env.frame = some X.env.locals) (tk : Takes X (fun cls d _ H => E cls d H)) (calm : X.calm = true) (hN : X.N.Nodup)
    (hy : X.N[i]? = some y) (hyl : X.env.scope.names.lookup y = some .local) (hsw : swapsWith (.ListComp elt [⟨tg, iter, ifs, 0⟩] scope pos) (some (.Name y py)) spos.line X.env = pure true)
    (hi : PI X tg iter wi) (ok : BlkOk X.N X.env.scope scope own) (hg : ∀ (s : Shared) (H : Hp) (C : Addr) (cl : List (Str × Addr)) (fp : List Addr), PG (X.blk s H scope (compEnvC scope cl C X.env) fp) tg g)
    (ht : ∀ (s : Shared) (H : Hp) (C : Addr) (cl : List (Str × Addr)) (fp : List Addr), PTs (X.blk s H scope (compEnvC scope cl C X.env) fp) ifs tt)
    (he : ∀ (s : Shared) (H : Hp) (C : Addr) (cl : List (Str × Addr)) (fp : List Addr), PE ((X.blk s H scope (compEnvC scope cl C X.env) fp).wish (fromBlock (X.blk s H scope (compEnvC scope cl C X.env) fp) X E)) elt te)
    (hfs : ∀ x, foldedSetIterable iter X.env x = pure x := by intro _; rfl) : PS X (.Assign [.Name y py] (.ListComp elt [⟨tg, iter, ifs, 0⟩] scope pos) spos) (tAsg (tLc wi g tt te (own.map (·.2))) (gName i)) := by
  refine ⟨fun pins s σ H D I h => ?_⟩
  rw [exec_Assign_Name_used _ _ _ _ hsw]
  refine wpAny_bind (wpAny_standAt (wpAny_bind ?_))
  have h : tLc wi g tt te (own.map (·.2)) σ H (fun x H1 => gName i x σ H1 D.nx) := h
  show wpAny _ X.A (do
    let _ ← comprehension (.ListComp elt [⟨tg, iter, ifs, 0⟩] scope pos) scope X.env (firstIterPos [⟨tg, iter, ifs, 0⟩] pos) (newList []) false (eval iter X.env) (some (assign (.Name y py) X.env))) _ _ s
  refine wpAny_bind (thn (lc_raise (Qf := fun _ t => SP X pins D .next t) hs hf tk calm hN I hi ok hg ht he hfs h fun L ce t m H' _ J q hn f => ?_) fun _ t hq => wpAny_pure (wpAny_pure hq))
  show wpAny _ _ (assign (.Name y py) X.env (.ref L)) _ _ _
  refine wpAny_assign_Name (store_ok2 (v := V.ref L) J hN hy (.inl hyl) rfl (fun s2 I2 ⟨a, sb, ha⟩ => ?_) (.inr hyl))
  have haC : ce.locals ≠ a := ha.elim (fun z => by rw [z]; exact f.2.1) fun z e => f.2.2.2.2.1 y a z e.symm
  exact ⟨m, hn.sameBut sb haC, fun h3 sb3 => ⟨_, H', I2.turned (t' := s2.toks) (fun b o hb e => (sb3.2 b hb).trans e) f.1 f.2.1 f.2.2.2.1 f.2.2.2.2.1 f.2.2.2.2.2, q⟩⟩
end
end Fw
end

section
-- part Ft
set_option Elab.async false
set_option linter.all false
set_option maxRecDepth 100000
set_option maxHeartbeats 2000000
/-! Ft: a def that tells which of two own errors came -/
namespace Fw
open PySem PySem.Spec PyProof.Rows L2 LamX
section
variable {X : Cx}
theorem told2_gives {Ng : List Str} {x a e e2 q ret ret2 : Str} {sg : Scope} {g CS CS2 : Addr} {cdg : Value} {j j2 : Nat} {p1 p2 p3 p4 p5 p6 p7 p8 q4 q5 q6 q7 : Pos} (hge : sg.names.lookup e = some .globalImplicit) (hme : X.mg e = some (.ref CS)) (hde : (e == ("__debug__" : Str)) = false)
    (hge2 : sg.names.lookup e2 = some .globalImplicit) (hme2 : X.mg e2 = some (.ref CS2)) (hde2 : (e2 == ("__debug__" : Str)) = false) (h0 : ∀ f : Addr, (L2.start Ng [V.ref f])[0]? = some (some (V.ref f))) :
    GivesTo X Ng x sg g cdg [.Try [.Return (some (.Call (.Name a p1) [] [] p2)) p3]
      [.ExceptHandler (some (.Name e p4)) none [.Return (some (.Constant (.str ret) j p5)) p6] p7, .ExceptHandler (some (.Name e2 q4)) none [.Return (some (.Constant (.str ret2) j2 q5)) q6] q7] [] [] p8] a q (TTold X.K CS ret) := by
  intro f c' s H Q tl act hc h
  have hgl : Gl (cxOf C8.CX0 X.prog X.w X.K X.mg X.base Ng x sg g cdg X.A X.stack s H C8.E0).nox e := hge
  have hgl2 : Gl (cxOf C8.CX0 X.prog X.w X.K X.mg X.base Ng x sg g cdg X.A X.stack s H C8.E0).nox e2 := hge2
  refine ⟨_, pss_one (ps_try_many (X := (cxOf C8.CX0 X.prog X.w X.K X.mg X.base Ng x sg g cdg X.A X.stack s H C8.E0).nox)
      (tb := fun W D σ H => ∃ Ech : XK, (∀ cls d σ' H', Ech cls d H' → W cls d σ' H') ∧ σ[0]? = some (some (.ref f)) ∧ H c' = some (CodeO c' q) ∧ tl Ech H D.rt)
      rfl rfl LamX.takes0 (fun W pn xe tk _ => ?_)
      (.cons (c := .ref CS) ⟨hgl, hde, .inl hme⟩ (fun a oe cls d pn _ _ => pss_one (ps_ret pe_str)) (.cons (c := .ref CS2) ⟨hgl2, hde2, .inl hme2⟩ (fun a oe cls d pn _ _ => pss_one (ps_ret pe_str)) .nil))), ?_⟩
  · refine ⟨fun pins s' σ H' D I h' => ?_⟩
    obtain ⟨Ech, hW, h1, h2, h3⟩ := h'
    have hp := act W pn xe Ech p1 p2 tk hW
    have hq := pss_one (ps_ret (pos := p3) hp)
    exact hq.run pins s' σ H' D I ⟨h1, h2, h3⟩
  · exact ⟨fun cls _ H' => ∃ b, PySem.W.exmOne X.K cls (.ref CS) = some b ∧ (b = true → Q (.str ret) H') ∧ (b = false → False), fun cls d σ' H' ⟨b, e1, e2, e3⟩ => ⟨b, e1, fun hb a _ => e2 hb, fun hb => (e3 hb).elim⟩, h0 f, hc, h⟩
theorem pe_fldK (K : PySem.W.Frag) {e : Expr} {f : Str} {pos : Pos} {ta : TE} (he : PE X e ta) (hb : attributeBase e f X.env (eval e X.env) = eval e X.env) (hK : X.K = K) : PE X (.Attribute e f pos) (tFld K ta f) := by
  subst hK
  exact pe_fld he hb
end
section
variable {σ : L2.St} {H : Hp} {Q : VK} {ta tb : TE}
theorem w_andV (h : ta σ H fun x H1 => ∃ c, x = .bl c ∧ if c = true then tb σ H1 Q else Q (.bl false) H1) : tAndV ta tb σ H Q := h
theorem w_orV (h : ta σ H fun x H1 => ∃ c, x = .bl c ∧ if c = true then Q (.bl true) H1 else tb σ H1 Q) : tOrV ta tb σ H Q := h
theorem w_notV (h : ta σ H fun x H1 => ∃ c, x = .bl c ∧ Q (.bl (!c)) H1) : tNotV ta σ H Q := h
end
end Fw
end

section
-- part Fz3
set_option Elab.async false
set_option linter.all false
set_option maxRecDepth 100000
set_option maxHeartbeats 2000000
/-! Fz3: zip of two tuples and a list; len(range(a, b, c)) -/
namespace Fw
open PySem PySem.Spec PyProof.Rows L2
/-- two tuples and a list as they stand at each turn, the items in new tuples -/
def Itz3 (K : PySem.W.Frag) (a b c : Addr) : It :=
  ⟨fun i H => ∃ (xs ys zs : List V) (x y z : V), SqT K H a xs ∧ SqT K H b ys ∧ SqL K H c zs ∧ xs[i]? = some x ∧ ys[i]? = some y ∧ zs[i]? = some z,
    fun i H v H' => ∃ T x y z, v = .ref T ∧ H T = none ∧ H' = upd H T (.tup [x, y, z]) ∧ (∀ xs, SqT K H a xs → xs[i]? = some x) ∧ (∀ ys, SqT K H b ys → ys[i]? = some y) ∧ ∀ zs, SqL K H c zs → zs[i]? = some z,
    fun i H => ∃ xs ys zs : List V, SqT K H a xs ∧ SqT K H b ys ∧ SqL K H c zs ∧ i = xs.length ∧ xs.length = ys.length ∧ ys.length = zs.length⟩
theorem sub6 {z TI TO i1 i2 i3 d : Addr} (h : d ∉ [z, TI, TO, i1, i2, i3]) : d ∉ [z, TO, i1, i2, i3] := fun q => h (by
  simp only [List.mem_cons, List.not_mem_nil, or_false] at q ⊢
  rcases q with q | q | q | q | q <;> simp [q])
theorem turn_zip3 {P : Program} {w : World} {K : PySem.W.Frag} {elts : List Expr} {kk : Nat} {tpos : Pos} {a b c z TI TO i1 i2 i3 : Addr} (S : ZipSep3 z TI TO i1 i2 i3 [i1, a] [i2, b] [i3, c]) (na : a ≠ i1) (nb : b ≠ i2) (nc : c ≠ i3) :
    Turn P w K (.Tuple elts kk tpos) (Itz3 K a b c) [z, TI, TO, i1, i2, i3] z (fun i h => IsZip h z TI TO .none ∧ IsTupOf3 h TI (.ref i1) (.ref i2) (.ref i3) ∧ (∃ x y u, IsTupOf3 h TO x y u) ∧ h.IsTupleIter i1 a i ∧ h.IsTupleIter i2 b i ∧ h.IsListIter i3 c i) where
  mem := by simp
  obj := fun i h st d hd => by
    obtain ⟨hz, hTI, ⟨x, y, u, hTO⟩, ⟨o1, e1, _, d1⟩, ⟨o2, e2, _, d2⟩, ⟨o3, e3, _, d3⟩⟩ := st
    have e' : d = z ∨ d = TI ∨ d = TO ∨ d = i1 ∨ d = i2 ∨ d = i3 := by simpa using hd
    rcases e' with q | q | q | q | q | q
    · rw [q]; exact ⟨_, hz, fun v q => nomatch q⟩
    · rw [q]; exact ⟨_, hTI, fun v q => nomatch q⟩
    · rw [q]; exact ⟨_, hTO, fun v q => nomatch q⟩
    · rw [q]; exact ⟨o1, e1, fun v q => by rw [d1] at q; cases q⟩
    · rw [q]; exact ⟨o2, e2, fun v q => by rw [d2] at q; cases q⟩
    · rw [q]; exact ⟨o3, e3, fun v q => by rw [d3] at q; cases q⟩
  keep := fun i h h' st k => by
    obtain ⟨hz, hTI, ⟨x, y, u, hTO⟩, h1, h2, h3⟩ := st
    exact ⟨k z (by simp) _ hz, k TI (by simp) _ hTI, ⟨x, y, u, k TO (by simp) _ hTO⟩, h1.at fun o q => k i1 (by simp) o q, h2.at fun o q => k i2 (by simp) o q, h3.at fun o q => k i3 (by simp) o q⟩
  item := by
    intro X hP hw hK hc i pins s σ H E I hf st hg
    subst hP hw hK
    obtain ⟨hz, hTI, hTO, h1, h2, h3⟩ := st
    obtain ⟨xs, ys, zs, x, y, v, hqx, hqy, hqz, hx, hy, hv⟩ := hg
    obtain ⟨its, rv, p, _⟩ := I.tuple hqx
    obtain ⟨its2, rv2, p2, _⟩ := I.tuple hqy
    obtain ⟨its3, rv3, p3, _⟩ := I.list hqz
    obtain ⟨u, hu, ru⟩ := rv.get hx
    obtain ⟨u2, hu2, ru2⟩ := rv2.get hy
    obtain ⟨u3, hu3, ru3⟩ := rv3.get hv
    have hh : X.A.in1.handled = none := I.ok.hd hc
    have W := WalksT.zipD3 (prog := X.prog) (w := X.w) (A := X.A) S (Draws.tuple hh i1 a na its.toArray) (Draws.tuple hh i2 b nb its2.toArray) (Draws.list hh i3 c nc its3.toArray)
    have l1 : i < its.length := (List.getElem?_eq_some_iff.mp hu).1
    have l2 : i < its2.length := (List.getElem?_eq_some_iff.mp hu2).1
    have l3 : i < its3.length := (List.getElem?_eq_some_iff.mp hu3).1
    refine W.item i s _ _ (by simp only [List.size_toArray]; omega) ⟨hz, hTI, hTO, ⟨h1, p⟩, ⟨h2, p2⟩, ⟨h3, p3.isList⟩⟩ fun T vals h' tk hP hsz hT hmid hk => ?_
    refine ⟨_, rfl, W.go _ _ _ i T { s with heap := h', toks := tk } _ _ hmid fun h'' st'' hk'' => ?_⟩
    obtain ⟨x1, x2, x3, q1, q2, q3, rfl⟩ := hP
    have q1' : its[i]? = some x1 := by simpa using q1
    have q2' : its2[i]? = some x2 := by simpa using q2
    have q3' : its3[i]? = some x3 := by simpa using q3
    rw [hu] at q1'
    rw [hu2] at q2'
    rw [hu3] at q3'
    cases q1'
    cases q2'
    cases q3'
    have hT2 : h''.IsTuple T #[u, u2, u3] := hT.at fun o e => hk'' T o (W.apart i T h' hmid) e
    have new : ObjOk X.prog X.w (upd H T (.tup [x, y, v])) h'' T (.tup [x, y, v]) := ⟨by show 3 ≤ sizeLine; decide, [u, u2, u3], .cons ru (.cons ru2 (.cons ru3 .nil)), hT2⟩
    have nin : ∀ d, d ∉ [z, TI, TO, i1, i2, i3] → d ∉ [z, TO, i1, i2, i3] := fun d hd => sub6 hd
    have I1 : Inv X pins σ (upd H T (.tup [x, y, v])) { s with heap := h'', toks := tk } :=
      I.turnedNew (t' := tk) (ch := [z, TI, TO, i1, i2, i3]) (fun d o hb q => hk'' d o (nin d hb) (hk d o (nin d hb) q)) hf hsz new
    refine ⟨.ref T, _, I1, rfl, ⟨_, x, y, v, rfl, I.hok.fresh hsz, rfl, fun l hl => by rw [I.tuple_inj hl hqx]; exact hx, fun l hl => by rw [I.tuple_inj hl hqy]; exact hy, fun l hl => by rw [I.list_inj hl hqz]; exact hv⟩, ⟨st''.1, st''.2.1, st''.2.2.1, st''.2.2.2.1.1, st''.2.2.2.2.1.1, st''.2.2.2.2.2.1⟩, fun d hd => ?_⟩
    have hlt : d < s.heap.objs.size := by
      have e' : d = z ∨ d = TI ∨ d = TO ∨ d = i1 ∨ d = i2 ∨ d = i3 := by simpa using hd
      obtain ⟨a1, a2, a3, hTO⟩ := hTO
      rcases e' with q | q | q | q | q | q
      · rw [q]; exact Heap.lt_size hz
      · rw [q]; exact Heap.lt_size hTI
      · rw [q]; exact Heap.lt_size hTO
      · rw [q]; obtain ⟨_, e1, _⟩ := h1; exact Heap.lt_size e1
      · rw [q]; obtain ⟨_, e2, _⟩ := h2; exact Heap.lt_size e2
      · rw [q]; obtain ⟨_, e3, _⟩ := h3; exact Heap.lt_size e3
    rw [upd_ne (Nat.ne_of_lt (Nat.lt_of_lt_of_le hlt hsz))]
    exact (hf d hd).1
  done := by
    intro X hP hw hK hc i pins s σ H E I hf st hg
    subst hP hw hK
    obtain ⟨hz, hTI, hTO, h1, h2, h3⟩ := st
    obtain ⟨xs, ys, zs, hqx, hqy, hqz, rfl, e1, e2⟩ := hg
    obtain ⟨its, rv, p, _⟩ := I.tuple hqx
    obtain ⟨its2, rv2, p2, _⟩ := I.tuple hqy
    obtain ⟨its3, rv3, p3, _⟩ := I.list hqz
    have hh : X.A.in1.handled = none := I.ok.hd hc
    have l1 := rv.length
    have l2 := rv2.length
    have l3 := rv3.length
    have W := WalksT.zipD3 (prog := X.prog) (w := X.w) (A := X.A) S (Draws.tuple hh i1 a na its.toArray) (Draws.tuple hh i2 b nb its2.toArray) (Draws.list hh i3 c nc its3.toArray)
    have en : min (min its.toArray.size its2.toArray.size) its3.toArray.size = xs.length := by simp only [List.size_toArray]; omega
    refine W.done s _ _ (by rw [en]; exact ⟨hz, hTI, hTO, ⟨h1, p⟩, ⟨h2, p2⟩, ⟨h3, p3.isList⟩⟩) fun h' tk hk => ⟨rfl, I.turnedL (t' := tk) (ch := [z, TI, TO, i1, i2, i3]) (fun d o hb q => hk d o (sub6 hb) q) hf⟩
  self := fun A i s Q E st h => wpAny_pyIter_zip st.1 h
def iZip3 (K : PySem.W.Frag) (ta : TA) : TI := fun σ H R => ta σ H fun vs H1 => ∃ a b c xs ys zs, vs = [.ref a, .ref b, .ref c] ∧ SqT K H1 a xs ∧ SqT K H1 b ys ∧ SqL K H1 c zs ∧ R (Itz3 K a b c) H1
theorem pi_zip3 {X : Cx} {e e2 e3 : Expr} {ta : TA} {p pos tpos : Pos} {elts : List Expr} {kk : Nat} (hg : Gl X "zip") (hm : X.mg "zip" = none) (ha : PA X [e, e2, e3] ta)
    (hs : starEach [e, e2, e3] X.env = (false, eval e X.env) :: starEach [e2, e3] X.env := by rfl) (hpl : (backTo pos (starEach [e2, e3] X.env)).any (·.1) = false := by rfl) :
    PI X (.Tuple elts kk tpos) (.Call (.Name "zip" p) [e, e2, e3] [] pos) (iZip3 X.K ta) := by
  refine ⟨fun pins s σ H R I h => ?_⟩
  refine Call_ (ld_blt I hg hm PyProof.Rows.boot_zip (PyProof.Rows.callWith_type1 (thn (ha.run pos pins s σ H _ I h) fun us s1 ⟨vs, H1, I1, r1, q1⟩ => ?_) hs hpl))
  obtain ⟨a, b, c, xs, ys, zs, ex, hqx, hqy, hqz, q⟩ := q1
  subst ex
  cases r1 with
  | cons r rr =>
    cases rr with
    | cons r' rr =>
      cases rr with
      | cons r'' rr =>
        cases rr
        cases r
        cases r'
        cases r''
        obtain ⟨its, rv, p1, _⟩ := I1.tuple hqx
        obtain ⟨its2, rv2, p2, _⟩ := I1.tuple hqy
        obtain ⟨its3, rv3, p3, _⟩ := I1.list hqz
        have la : a < s1.heap.objs.size := by obtain ⟨o, ho, _⟩ := id p1; exact Heap.lt_size ho
        have lb : b < s1.heap.objs.size := by obtain ⟨o, ho, _⟩ := id p2; exact Heap.lt_size ho
        have lc : c < s1.heap.objs.size := p3.lt
        have one : ∀ {x N : Addr}, x < N → ∀ d ∈ [x], d < N := fun {x N} h d hd => by rw [List.mem_singleton.mp hd]; exact h
        have S := zip_sep3 (N := s1.heap.objs.size) (one la) (one lb) (one lc)
        refine zip_begins3 (begins_tuple a its.toArray) (begins_tuple b its2.toArray) (begins_list c its3.toArray) p1 p2 p3.isList fun h' hz hTI hTO g1 g2 g3 hsz hk => wpAny_pyIter_zip hz ?_
        have I2 : Inv X pins σ H1 { s1 with heap := h' } := I1.kept (t' := s1.toks) hk
        refine ⟨_, _, _, _, H1, rfl, I2, turn_zip3 (K := X.K) (a := a) (b := b) (c := c) S (Nat.ne_of_lt la) (Nat.ne_of_lt (Nat.lt_of_lt_of_le lb (Nat.le_add_right _ 1))) (Nat.ne_of_lt (Nat.lt_of_lt_of_le lc (Nat.le_add_right _ 2))), ⟨hz, hTI, ⟨_, _, _, hTO⟩, ⟨_, g1, rfl, rfl⟩, ⟨_, g2, rfl, rfl⟩, ⟨_, g3, rfl, rfl⟩⟩, fun d hdm => ?_, q⟩
        have hle : s1.heap.objs.size ≤ d := by
          simp only [List.mem_cons, List.not_mem_nil, or_false] at hdm
          rcases hdm with q | q | q | q | q | q <;> rw [q] <;> first | exact Nat.le_refl _ | exact Nat.le_add_right _ _
        exact I1.fpOk hle (I1.hok.fresh hle)

def tLenR3 (ta : TA) : TE := fun σ H Q => ta σ H fun vs H1 => ∃ (i j c : Int) (n : Nat), vs = [.int i, .int j, .int c] ∧ RgC i j c n ∧ (n : Int) < 2 ^ 63 ∧ Q (.int (n : Int)) H1
/-- len(range(a, b, c)) -/
theorem pe_lenR3 {X : Cx} {a b c : Expr} {ta : TA} {p p2 pos pos2 : Pos} (hgl : Gl X "len") (hml : X.mg "len" = none) (hg : Gl X "range") (hm : X.mg "range" = none) (ha : PA X [a, b, c] ta)
    (hs1 : starEach [.Call (.Name "range" p2) [a, b, c] [] pos2] X.env = (false, eval (.Call (.Name "range" p2) [a, b, c] [] pos2) X.env) :: starEach [] X.env := by rfl) (hpl1 : (backTo pos (starEach [] X.env)).any (·.1) = false := by rfl)
    (hs : starEach [a, b, c] X.env = (false, eval a X.env) :: starEach [b, c] X.env := by rfl) (hpl : (backTo pos2 (starEach [b, c] X.env)).any (·.1) = false := by rfl) :
    PE X (.Call (.Name "len" p) [.Call (.Name "range" p2) [a, b, c] [] pos2] [] pos) (tLenR3 ta) := by
  refine ⟨fun pins s σ H Q I h => ?_⟩
  refine wpAny_Call_Name_kw (ld_blt I hgl hml PySem.boot_len ?_)
  refine PyProof.Rows.callWith_builtin1 ?_ hs1 hpl1
  rw [hs1]
  show wpAny _ _ (spliced ((false, eval (.Call (.Name "range" p2) [a, b, c] [] pos2) X.env) :: backTo pos (starEach [] X.env))) _ _ s
  refine Calls.spliced_cons ?_
  refine Call_ (ld_blt I hg hm boot_range (PyProof.Rows.callWith_type1 (thn (ha.run pos2 pins s σ H _ I h) fun us s1 ⟨vs, H1, I1, r1, q1⟩ => ?_) hs hpl))
  obtain ⟨i, j, k, n, e, ⟨c0, c1, c2, c3⟩, hn, q⟩ := q1
  subst e
  cases r1 with
  | cons r rr =>
    cases rr with
    | cons r' rr =>
      cases rr with
      | cons r'' rr =>
        cases rr
        obtain ⟨t, rfl⟩ := r
        obtain ⟨t', rfl⟩ := r'
        obtain ⟨t'', rfl⟩ := r''
        refine call_range_3 c0 ?_ (.inl (PyProof.noPylong_small c1))
        have I2 : Inv X pins σ H1 { s1 with heap := s1.heap.push { cls := .type "range", data := .fields #[.int i t, .int j t', .int k t''] } } := I1.kept (t' := s1.toks) fun b o e => Heap.get?_push_of_some _ e
        refine Calls.spliced_nil ?_
        exact call_len_range (IsRange.new ..) c3 hn ⟨.int (n : Int), H1, I2.tok _, ⟨_, rfl⟩, q⟩
end Fw
end

section
-- part Fz4
set_option Elab.async false
set_option linter.all false
set_option maxRecDepth 100000
set_option maxHeartbeats 2000000
/-! Fz4: enumerate of a tuple -/
namespace Fw
open PySem PySem.Spec PyProof.Rows L2
open AutoSeq1 (wpAny_loadPart')
theorem meets_enum1 {v : Value} {o : Obj} {G : Heap → Prop} (B : Begins v o G) :
    Meets (Builtin.«enumerate.__new__» ⟨[.type "enumerate", v], []⟩) (fun _ R s => G s.heap ∧
      R (.ok (.ret (.ref (s.heap.push o).objs.size))) { s with heap := (s.heap.push o).push { cls := .type "enumerate", data := .fields #[.none, .bool false, .ref s.heap.objs.size, rawInt 0, .none, .none] } }) :=
  .of_wp fun prog w A R s h => by
    obtain ⟨hp, g, d, tk, os⟩ := s
    obtain ⟨h1, h⟩ := h
    have hsub := sub_enumerate
    have q1 : ∀ {A' : Around} {E : Value → Shared → Prop} {Q : Value → Shared → Prop}, Q (.ref hp.objs.size) ⟨hp.push o, g, d, tk, os⟩ → wpAny (model prog w) A' (pyIter v) Q E ⟨hp, g, d, tk, os⟩ :=
      fun q => B.iter prog w _ _ ⟨hp, g, d, tk, os⟩ _ h1 q
    wp_walk using q1
    refine wpAny_stack_any fun st => wpAny_pure ?_
    split
    · rename_i c _ _ _ _ _
      cases (c == Value.type "enumerate")
      · wp_walk using q1
        exact ⟨_, rfl, h⟩
      · wp_walk using q1
        exact ⟨_, rfl, h⟩
    · wp_walk using q1
      exact ⟨_, rfl, h⟩
section
variable {prog : Program} {w : World} {A : Around} {E : Value → Shared → Prop} {s : Shared}
theorem enum_begins1 {v : Value} {o : Obj} {G : Heap → Prop} {Q : Value → Shared → Prop} (B : Begins v o G) (h1 : G s.heap)
    (h : ∀ h', IsEnum h' (s.heap.objs.size + 1) s.heap.objs.size 0 .none → h'.get? s.heap.objs.size = some o → h'.objs.size = s.heap.objs.size + 2 →
      (∀ b o, s.heap.get? b = some o → h'.get? b = some o) → Q (.ref (s.heap.objs.size + 1)) { s with heap := h' }) :
    wpAny (model prog w) A (call (.type "enumerate") [v]) Q E s := by
  refine callType_new F.called_enumerate (by decide) (F.typeCall_enumerate_1 _) (F.newCall_enumerate_1 _) (fun obj => F.args_object_init_2 obj _) F.entry_enumerate_new (meets_enum1 B) ⟨h1, ?_⟩
  have hz : (s.heap.push o).objs.size = s.heap.objs.size + 1 := Heap.size_push ..
  show _ ∧ _
  rw [hz]
  have he : IsEnum ((s.heap.push o).push { cls := .type "enumerate", data := .fields #[.none, .bool false, .ref s.heap.objs.size, rawInt 0, .none, .none] }) (s.heap.objs.size + 1) s.heap.objs.size 0 .none := by
    have := Heap.get?_push_size (s.heap.push o) (o := { cls := .type "enumerate", data := .fields #[.none, .bool false, .ref s.heap.objs.size, rawInt 0, .none, .none] }) rfl
    rw [hz] at this
    exact this
  exact ⟨⟨_, he, rfl⟩, h _ he (Heap.get?_push_of_some _ (Heap.get?_push_size _ B.free)) (by rw [Heap.size_push, hz]) fun b o x => Heap.get?_push_of_some _ (Heap.get?_push_of_some _ x)⟩
end
/-- the tuple at a, each item in a new pair with its number -/
def IteT (K : PySem.W.Frag) (a : Addr) : It :=
  ⟨fun i H => ∃ (xs : List V) (x : V), SqT K H a xs ∧ xs[i]? = some x, fun i H v H' => ∃ T x, v = .ref T ∧ H T = none ∧ H' = upd H T (.tup [.int (i : Nat), x]) ∧ ∀ xs, SqT K H a xs → xs[i]? = some x, fun i H => ∃ xs : List V, SqT K H a xs ∧ xs.length = i⟩
theorem turn_enumT {P : Program} {w : World} {K : PySem.W.Frag} {elts : List Expr} {kk : Nat} {tpos : Pos} {a e it : Addr} (hei : e ≠ it) (hea : e ≠ a) (hai : a ≠ it) :
    Turn P w K (.Tuple elts kk tpos) (IteT K a) [e, it] e (fun i h => (∃ old, IsEnum h e it ((i : Nat) : Int) old) ∧ h.IsTupleIter it a i) where
  mem := by simp
  obj := fun i h st d hd => by
    obtain ⟨⟨old, he⟩, ⟨o1, e1, _, d1⟩⟩ := st
    have e' : d = e ∨ d = it := by simpa using hd
    rcases e' with q | q
    · rw [q]; exact ⟨_, he, fun v q => nomatch q⟩
    · rw [q]; exact ⟨o1, e1, fun v q => by rw [d1] at q; cases q⟩
  keep := fun i h h' st k => by
    obtain ⟨⟨old, he⟩, h1⟩ := st
    exact ⟨⟨old, k e (by simp) _ he⟩, h1.at fun o q => k it (by simp) o q⟩
  item := by
    intro X hP hw hK hc i pins s σ H E I hf st hg
    subst hP hw hK
    obtain ⟨⟨old, he⟩, h1⟩ := st
    obtain ⟨xs, x, hqx, hx⟩ := hg
    obtain ⟨its, rv, p, _⟩ := I.tuple hqx
    obtain ⟨u, hu, ru⟩ := rv.get hx
    have hh : X.A.in1.handled = none := I.ok.hd hc
    have W := WalksT.enumerateD (prog := X.prog) (w := X.w) (A := X.A) (Draws.tuple hh it a hai its.toArray) e hei (by simp; exact ⟨hei, hea⟩) (by simp)
    have l1 : i < its.length := (List.getElem?_eq_some_iff.mp hu).1
    refine W.item i s _ _ (by simp only [List.size_toArray]; omega) ⟨⟨old, he⟩, ⟨h1, p⟩⟩ fun T vals h' tk hP hsz hT hmid hk => ?_
    refine ⟨_, rfl, W.go _ _ _ i T { s with heap := h', toks := tk } _ _ hmid fun h'' st'' hk'' => ?_⟩
    obtain ⟨t, x1, q1, rfl⟩ := hP
    have q1' : its[i]? = some x1 := by simpa using q1
    rw [hu] at q1'
    cases q1'
    have hT2 : h''.IsTuple T #[.int (i : Int) t, u] := hT.at fun o e => hk'' T o (W.apart i T h' hmid) e
    have new : ObjOk X.prog X.w (upd H T (.tup [.int (i : Nat), x])) h'' T (.tup [.int (i : Nat), x]) := ⟨by show 2 ≤ sizeLine; decide, [.int (i : Int) t, u], .cons ⟨t, rfl⟩ (.cons ru .nil), hT2⟩
    have I1 : Inv X pins σ (upd H T (.tup [.int (i : Nat), x])) { s with heap := h'', toks := tk } :=
      I.turnedNew (t' := tk) (ch := [e, it]) (fun d o hb q => hk'' d o hb (hk d o hb q)) hf hsz new
    refine ⟨.ref T, _, I1, rfl, ⟨_, x, rfl, I.hok.fresh hsz, rfl, fun l hl => by rw [I.tuple_inj hl hqx]; exact hx⟩, ⟨st''.1, st''.2.1⟩, fun d hd => ?_⟩
    have hlt : d < s.heap.objs.size := by
      have e' : d = e ∨ d = it := by simpa using hd
      rcases e' with q | q
      · rw [q]; exact Heap.lt_size he
      · rw [q]; obtain ⟨_, e1, _⟩ := h1; exact Heap.lt_size e1
    rw [upd_ne (Nat.ne_of_lt (Nat.lt_of_lt_of_le hlt hsz))]
    exact (hf d hd).1
  done := by
    intro X hP hw hK hc i pins s σ H E I hf st hg
    subst hP hw hK
    obtain ⟨⟨old, he⟩, h1⟩ := st
    obtain ⟨xs, hqx, rfl⟩ := hg
    obtain ⟨its, rv, p, _⟩ := I.tuple hqx
    have hh : X.A.in1.handled = none := I.ok.hd hc
    have l1 := rv.length
    have W := WalksT.enumerateD (prog := X.prog) (w := X.w) (A := X.A) (Draws.tuple hh it a hai its.toArray) e hei (by simp; exact ⟨hei, hea⟩) (by simp)
    have en : its.toArray.size = xs.length := by simp only [List.size_toArray]; omega
    refine W.done s _ _ (by rw [en]; exact ⟨⟨old, he⟩, ⟨h1, p⟩⟩) fun h' tk hk => ⟨rfl, I.turnedL (t' := tk) (ch := [e, it]) (fun d o hb q => hk d o hb q) hf⟩
  self := fun A i s Q E st h => by
    obtain ⟨⟨old, he⟩, _⟩ := st
    exact wpAny_pyIter_enum he h
def iEnumT (K : PySem.W.Frag) (ta : TA) : TI := fun σ H R => ta σ H fun vs H1 => ∃ a xs, vs = [.ref a] ∧ SqT K H1 a xs ∧ R (IteT K a) H1
theorem pi_enumT {X : Cx} {e : Expr} {ta : TA} {p pos tpos : Pos} {elts : List Expr} {kk : Nat} (hg : Gl X "enumerate") (hm : X.mg "enumerate" = none) (ha : PA X [e] ta) (hs : starEach [e] X.env = [(false, eval e X.env)] := by rfl) :
    PI X (.Tuple elts kk tpos) (.Call (.Name "enumerate" p) [e] [] pos) (iEnumT X.K ta) := by
  refine ⟨fun pins s σ H R I h => ?_⟩
  refine Call_ (ld_blt I hg hm boot_enumerate (PyProof.Rows.callWith_type1 (thn (ha.run pos pins s σ H _ I h) fun us s1 ⟨vs, H1, I1, r1, q1⟩ => ?_) hs rfl))
  obtain ⟨a, xs, ex, hq, q⟩ := q1
  subst ex
  cases r1 with
  | cons r rr =>
    cases rr
    cases r
    obtain ⟨its, rv, p1, _⟩ := I1.tuple hq
    have la : a < s1.heap.objs.size := by obtain ⟨o, ho, _⟩ := id p1; exact Heap.lt_size ho
    refine enum_begins1 (begins_tuple a its.toArray) p1 fun h' he g1 hsz hk => wpAny_pyIter_enum he ?_
    have I2 : Inv X pins σ H1 { s1 with heap := h' } := I1.kept (t' := s1.toks) hk
    refine ⟨_, _, _, _, H1, rfl, I2, turn_enumT (K := X.K) (a := a) (Nat.succ_ne_self _) (Nat.ne_of_gt (Nat.lt_succ_of_lt la)) (Nat.ne_of_lt la), ⟨⟨.none, he⟩, ⟨_, g1, rfl, rfl⟩⟩, fun d hdm => ?_, q⟩
    have hle : s1.heap.objs.size ≤ d := by
      simp only [List.mem_cons, List.not_mem_nil, or_false] at hdm
      rcases hdm with q | q <;> rw [q] <;> first | exact Nat.le_refl _ | exact Nat.le_add_right _ _
    exact I1.fpOk hle (I1.hok.fresh hle)
section
variable {K : PySem.W.Frag} {σ : L2.St} {H : Hp} {g : TG} {tb : TS} {D : Ends} {ta : TA}
theorem w_iEnumT {R : It → Hp → Prop} (h : ta σ H fun vs H1 => ∃ a xs, vs = [.ref a] ∧ SqT K H1 a xs ∧ R (IteT K a) H1) : iEnumT K ta σ H R := h
theorem w_iZip3 {R : It → Hp → Prop} (h : ta σ H fun vs H1 => ∃ a b c xs ys zs, vs = [.ref a, .ref b, .ref c] ∧ SqT K H1 a xs ∧ SqT K H1 b ys ∧ SqL K H1 c zs ∧ R (Itz3 K a b c) H1) : iZip3 K ta σ H R := h
theorem w_par {i j : Nat} {D : Ends} (h : ta σ H fun vs H1 => ∃ v w, vs = [v, w] ∧ D.nx ((σ.set i (some v)).set j (some w)) H1) : tPar i j ta D σ H := h
theorem w_lenR3 {Q : VK} (h : ta σ H fun vs H1 => ∃ (i j c : Int) (n : Nat), vs = [.int i, .int j, .int c] ∧ RgC i j c n ∧ (n : Int) < 2 ^ 63 ∧ Q (.int (n : Int)) H1) : tLenR3 ta σ H Q := h
theorem for_enumT {a : Addr} {xs : List V} (Pv : Nat → L2.St → Hp → Prop) (h0 : Pv 0 σ H) (hq : ∀ i σ H, Pv i σ H → SqT K H a xs)
    (hs : ∀ (i : Nat) (x : V) (T : Addr) (σ : L2.St) (H : Hp), xs[i]? = some x → Pv i σ H → H T = none → g (.ref T) σ (upd H T (.tup [.int (i : Nat), x])) fun σ2 H2 => tb { D with nx := Pv (i + 1), ct := Pv (i + 1), bk := D.nx } σ2 H2)
    (hd : ∀ σ H, Pv xs.length σ H → D.nx σ H) :
    ∃ W : Nat → Nat → L2.St → Hp → Prop, (∃ m, W 0 m σ H) ∧ ∀ i m σ H, W i m σ H →
      ((IteT K a).stop i H ∧ D.nx σ H) ∨ ((IteT K a).go i H ∧ ∃ N : L2.St → Hp → Prop, (∀ σ' H', N σ' H' → ∃ m', m' < m ∧ W (i + 1) m' σ' H') ∧ ∀ v H', (IteT K a).yld i H v H' → g v σ H' fun σ2 H2 => tb { D with nx := N, ct := N, bk := D.nx } σ2 H2) := by
  refine ⟨fun i m σ H => m = xs.length - i ∧ i ≤ xs.length ∧ Pv i σ H, ⟨_, rfl, Nat.zero_le _, h0⟩, ?_⟩
  rintro i m σ H ⟨rfl, hi, p⟩
  by_cases hlt : i < xs.length
  · refine .inr ⟨⟨xs, xs[i], hq i σ H p, List.getElem?_eq_getElem hlt⟩, Pv (i + 1), fun σ' H' p' => ⟨xs.length - (i + 1), by omega, rfl, hlt, p'⟩, ?_⟩
    rintro v H' ⟨T, x, rfl, hT, rfl, hx⟩
    exact hs i x T σ H (hx xs (hq i σ H p)) p hT
  · have e : i = xs.length := by omega
    subst e
    exact .inl ⟨⟨xs, hq _ σ H p, rfl⟩, hd σ H p⟩
theorem for_zip3 {a b c : Addr} {xs ys zs : List V} (e1 : xs.length = ys.length) (e2 : ys.length = zs.length) (Pv : Nat → L2.St → Hp → Prop) (h0 : Pv 0 σ H) (hq : ∀ i σ H, Pv i σ H → SqT K H a xs ∧ SqT K H b ys ∧ SqL K H c zs)
    (hs : ∀ (i : Nat) (x y z : V) (T : Addr) (σ : L2.St) (H : Hp), xs[i]? = some x → ys[i]? = some y → zs[i]? = some z → Pv i σ H → H T = none → g (.ref T) σ (upd H T (.tup [x, y, z])) fun σ2 H2 => tb { D with nx := Pv (i + 1), ct := Pv (i + 1), bk := D.nx } σ2 H2)
    (hd : ∀ σ H, Pv xs.length σ H → D.nx σ H) :
    ∃ W : Nat → Nat → L2.St → Hp → Prop, (∃ m, W 0 m σ H) ∧ ∀ i m σ H, W i m σ H →
      ((Itz3 K a b c).stop i H ∧ D.nx σ H) ∨ ((Itz3 K a b c).go i H ∧ ∃ N : L2.St → Hp → Prop, (∀ σ' H', N σ' H' → ∃ m', m' < m ∧ W (i + 1) m' σ' H') ∧ ∀ v H', (Itz3 K a b c).yld i H v H' → g v σ H' fun σ2 H2 => tb { D with nx := N, ct := N, bk := D.nx } σ2 H2) := by
  refine ⟨fun i m σ H => m = xs.length - i ∧ i ≤ xs.length ∧ Pv i σ H, ⟨_, rfl, Nat.zero_le _, h0⟩, ?_⟩
  rintro i m σ H ⟨rfl, hi, p⟩
  by_cases hlt : i < xs.length
  · have q := hq i σ H p
    refine .inr ⟨⟨xs, ys, zs, xs[i], ys[i], zs[i], q.1, q.2.1, q.2.2, List.getElem?_eq_getElem hlt, List.getElem?_eq_getElem (by omega), List.getElem?_eq_getElem (by omega)⟩, Pv (i + 1), fun σ' H' p' => ⟨xs.length - (i + 1), by omega, rfl, hlt, p'⟩, ?_⟩
    rintro v H' ⟨T, x, y, z, rfl, hT, rfl, hx, hy, hz⟩
    exact hs i x y z T σ H (hx xs q.1) (hy ys q.2.1) (hz zs q.2.2) p hT
  · have e : i = xs.length := by omega
    subst e
    have q := hq _ σ H p
    exact .inl ⟨⟨xs, ys, zs, q.1, q.2.1, q.2.2, rfl, e1, e2⟩, hd σ H p⟩
end
section
variable {H : Hp} {Q : VK}
theorem w_neI {a b : Int} (q : Q (.bl (!decide (a = b))) H) : rNe (.int a) (.int b) H Q := ⟨rfl, by rw [show (decide (V.int a = V.int b)) = decide (a = b) by simp]; exact q⟩
theorem bl_eq {a b : Bool} : (decide (V.bl a = V.bl b)) = (a == b) := by cases a <;> cases b <;> rfl
theorem w_eqB {a b : Bool} (q : Q (.bl (a == b)) H) : rEq (.bl a) (.bl b) H Q := ⟨rfl, by rw [bl_eq]; exact q⟩
theorem w_neB {a b : Bool} (q : Q (.bl (a != b)) H) : rNe (.bl a) (.bl b) H Q := ⟨rfl, by rw [bl_eq]; exact q⟩
end
section
variable {K : PySem.W.Frag} {σ : L2.St} {H : Hp} {te : TE} {vs : List Nat} {tt : TT} {g : TG}
/-- a comprehension over a list, its end told by the new list's place -/
theorem w_lcLn {p : Addr} {xs : List V} {R : Addr → Hp → Prop} (hS : SqL K H p xs) (h : ∀ D, H D = none → ∃ Pv : Nat → Hp → Prop, Pv 0 (upd H D (.lst [])) ∧ (∀ i H2, i ≤ xs.length → Pv i H2 → SqL K H2 p xs) ∧
      (∀ i x H2, xs[i]? = some x → Pv i H2 → g x (wipe σ vs) H2 fun σ2 H2 => wipe σ2 vs = wipe σ vs ∧ tt σ2 H2 fun b H3 =>
        if b = true then te σ2 H3 fun y H4 => ∃ acc, H4 D = some (.lst acc) ∧ acc.length < sizeLine ∧ Pv (i + 1) (upd H4 D (.lst (acc ++ [y]))) else Pv (i + 1) H3) ∧ (∀ H2, Pv xs.length H2 → R D H2)) :
    ∃ a, V.ref p = .ref a ∧ (∃ xs, SqL K H a xs) ∧ ∀ D, H D = none → ∃ W : Nat → Nat → Hp → Prop, (∃ m, W 0 m (upd H D (.lst []))) ∧ ∀ i m H, W i m H →
      ((Itl K a).stop i H ∧ R D H) ∨ ((Itl K a).go i H ∧ ∃ Nx : Hp → Prop, (∀ H', Nx H' → ∃ m', m' < m ∧ W (i + 1) m' H') ∧ ∀ x H', (Itl K a).yld i H x H' → g x (wipe σ vs) H' fun σ2 H2 => wipe σ2 vs = wipe σ vs ∧ tt σ2 H2 fun b H3 =>
        if b = true then te σ2 H3 fun y H4 => ∃ acc, H4 D = some (.lst acc) ∧ acc.length < sizeLine ∧ Nx (upd H4 D (.lst (acc ++ [y]))) else Nx H3) := by
  refine ⟨p, rfl, ⟨xs, hS⟩, fun D hD => ?_⟩
  obtain ⟨Pv, h0, hl, hs, hd⟩ := h D hD
  exact lc_list (Qd := fun H => R D H) Pv h0 hl hs hd
end
section
variable {K : PySem.W.Frag} {σ : L2.St} {H : Hp} {g : TG} {tb : TS} {D : Ends} {ta : TA}
theorem w_iZip {R : It → Hp → Prop} (h : ta σ H fun vs H1 => ∃ a b xs ys, vs = [.ref a, .ref b] ∧ SqL K H1 a xs ∧ SqL K H1 b ys ∧ R (Itz K a b) H1) : iZip K ta σ H R := h
theorem for_zipN {a b : Addr} {xs ys : List V} (Pv : Nat → L2.St → Hp → Prop) (h0 : Pv 0 σ H) (hq : ∀ i σ H, Pv i σ H → SqL K H a xs ∧ SqL K H b ys)
    (hs : ∀ (i : Nat) (x y : V) (T : Addr) (σ : L2.St) (H : Hp), xs[i]? = some x → ys[i]? = some y → Pv i σ H → H T = none → g (.ref T) σ (upd H T (.tup [x, y])) fun σ2 H2 => tb { D with nx := Pv (i + 1), ct := Pv (i + 1), bk := D.nx } σ2 H2)
    (hd : ∀ i σ H, Pv i σ H → D.nx σ H) :
    ∃ W : Nat → Nat → L2.St → Hp → Prop, (∃ m, W 0 m σ H) ∧ ∀ i m σ H, W i m σ H →
      ((Itz K a b).stop i H ∧ D.nx σ H) ∨ ((Itz K a b).go i H ∧ ∃ N : L2.St → Hp → Prop, (∀ σ' H', N σ' H' → ∃ m', m' < m ∧ W (i + 1) m' σ' H') ∧ ∀ v H', (Itz K a b).yld i H v H' → g v σ H' fun σ2 H2 => tb { D with nx := N, ct := N, bk := D.nx } σ2 H2) := by
  refine ⟨fun i m σ H => m = xs.length - i ∧ Pv i σ H, ⟨_, rfl, h0⟩, ?_⟩
  rintro i m σ H ⟨rfl, p⟩
  have q := hq i σ H p
  by_cases h1 : i < xs.length
  · by_cases h2 : i < ys.length
    · refine .inr ⟨⟨xs, ys, xs[i], ys[i], q.1, q.2, List.getElem?_eq_getElem h1, List.getElem?_eq_getElem h2⟩, Pv (i + 1), fun σ' H' p' => ⟨xs.length - (i + 1), by omega, rfl, p'⟩, ?_⟩
      rintro v H' ⟨T, x, y, rfl, hT, rfl, hx, hy⟩
      exact hs i x y T σ H (hx xs q.1) (hy ys q.2) p hT
    · exact .inl ⟨⟨xs, ys, q.1, q.2, .inr (by omega)⟩, hd i σ H p⟩
  · exact .inl ⟨⟨xs, ys, q.1, q.2, .inl (by omega)⟩, hd i σ H p⟩
end
section
variable {X : Cx}
theorem ix_tupK (K : PySem.W.Frag) (h : X.K = K) : IxR X (rIxT K) := by subst h; exact ix_tup
theorem ix_listK (K : PySem.W.Frag) (h : X.K = K) : IxR X (rIxL K) := by subst h; exact ix_list
theorem sl_listK (K : PySem.W.Frag) (h : X.K = K) : SlR X (rSlL K) := by subst h; exact sl_list
theorem len_seqK (K : PySem.W.Frag) (h : X.K = K) : CallR X (.builtin "len") (fun xs H Q => ∃ p ys, xs = [.ref p] ∧ (SqL K H p ys ∨ SqT K H p ys) ∧ Q (.int ys.length) H) := by subst h; exact call_len_seq
theorem tuple_ofK (K : PySem.W.Frag) (h : X.K = K) : CallR X (.type "tuple") (fun xs H Q => ∃ p ys, xs = [.ref p] ∧ ((SqL K H p ys ∧ ∀ l, H l = none → Q (.ref l) (upd H l (.tup ys))) ∨ (SqT K H p ys ∧ Q (.ref p) H))) := by subst h; exact call_tuple_of
end
end Fw
end

section
-- part Fq
set_option Elab.async false
set_option linter.all false
set_option maxRecDepth 100000
set_option maxHeartbeats 2000000
/-! Fq: a def that raises into a try whose suite raises on; a call within a try; X('m') where an exception is handled -/
namespace Fw
open PySem PySem.Spec PyProof.Rows L2
/-- as Cl, its exceptions told with their contexts -/
structure ClN (P : Program) (w : World) (K : PySem.W.Frag) (mg : Str → Option Value) (base : Heap) (k : Nat) (x : Str) (sp : Sp) : Prop where
  ex : ∃ (f : Addr) (fd : FuncData) (ps : List Str), FnOk P w K mg base (L2N.CX P w) k f fd ps sp ∧ mg x = some (.ref f) ∧ PySem.W.keepIn K (.ref f) = true ∧ Binds K fd ps []
section
variable {P : Program} {w : World} {K : PySem.W.Frag} {mg : Str → Option Value} {base : Heap} {x : Str} {st : Stmt}
theorem clN_mk {N ps : List Str} {k : Nat} {sp : Sp} (F : FnP K mg x st) (S : FnScope N ps (defScope st))
    (b : ∀ (kV doc pm : Value) (an : Option Addr) (cdv ct : Value) (us : List Value), us.length = ps.length → bindArgs (PySem.W.fnOf x x (defArgs st) (defBody st) (defScope st) .none kV doc pm an cdv ct) ⟨us, []⟩ = pure (ps.zip us))
    (len : ∀ vs H Q E, sp vs H Q E → vs.length = ps.length)
    (hbody : ∀ (f : Addr) (cdv : Value) (A : Around) (outer : List Env) (s : Shared) (H : Hp) (vs : List V) (Q : VK) (E : XK), Room k (A.deeper (envOfC x (defScope st) s.heap.objs.size f cdv)) → sp vs H Q E →
      ∃ t, PSs (cxOf (L2N.CX P w) P w K mg base N x (defScope st) f cdv A outer s H E) (defBody st) t ∧ t { nx := fun _ H' => Q .non H', rt := Q } (start N vs) H) : ClN P w K mg base (k + 1) x sp := by
  obtain ⟨f, fd, F, m⟩ := F
  exact ⟨f, fd, ps, F.ok S len (hbody f), m, F.kp, F.bindsN b⟩
end
section
variable {X : Cx} {CX : CXT} {k j : Nat} {x : Str} {sp : Sp} {E : L2.St → XK} {p pos : Pos} {e : Expr} {es : List Expr} {t : TA}
theorem pe_clS (c : ∃ (f : Addr) (fd : FuncData) (ps : List Str), FnOk X.prog X.w X.K X.mg X.base CX k f fd ps sp ∧ X.mg x = some (.ref f) ∧ PySem.W.keepIn X.K (.ref f) = true ∧ Binds X.K fd ps []) (hr : Room j X.A) (hk : k ≤ j) (hg : Gl X x) (hx : ∀ σ, PassesAt CX X σ (E σ)) (ha : PA X (e :: es) t)
    (hdb : (x == ("__debug__" : Str)) = false := by decide) (he : starEach (e :: es) X.env = (false, eval e X.env) :: starEach es X.env := by rfl) (hpl : (backTo pos (starEach es X.env)).any (·.1) = false := by rfl) :
    PE X (.Call (.Name x p) (e :: es) [] pos) (tCallS sp E t) := by
  obtain ⟨f, fd, ps, F, hm, kp, b⟩ := c
  exact pe_callS F (hr.mono hk) hg hm kp b hx ha hdb he hpl
theorem w_clS {σ : L2.St} {H : Hp} {Q : VK} (h : t σ H fun vs H1 => sp vs H1 Q (E σ)) : tCallS sp E t σ H Q := h
end
/-- a, b = .. within a try: the frame told by name -/
theorem pg_tupK (K : PySem.W.Frag) (n : Nat) {X : Cx} {es : List Expr} {k : Nat} {pos : Pos} {t : TGs} (hK : X.K = K) (hc : X.calm = true) (h : PGs X es t) (hn : (assignEach es X.env).length = n) (hst : (assignEach es X.env).findIdx? (·.1) = none) : PG X (.Tuple es k pos) (gTup K n t) := by
  subst hK
  exact pg_tup hc h hn hst
section
variable {X : Cx} {C : Addr} {bmB : List Value} {B newId initId : String}
/-- X('m') -/
theorem pmk5_own {x m : Str} {j : Nat} {p p2 pos : Pos} (F : ExcBaseFacts B newId initId bmB) (q : PySem.W.excIn X.K C bmB newId = true) (gC : X.mg x = some (.ref C)) (kC : PySem.W.keepIn X.K (.ref C) = true) (r : Raises X (.ref C)) (hg : Gl X x)
    (hdb : (x == ("__debug__" : Str)) = false := by decide) : L2H.PMk5 X (.Call (.Name x p) [.Constant (.str m) j p2] [] pos) (fun _ H Q => Q (.ref C) none H) := fun pins s σ H Q I h => by
  have args : PA X [.Constant (.str m) j p2] (tCons (tC (.str m)) tNil) := pa_cons pe_str pa_nil
  refine wpAny_Call_Name_kw (ld_glob I hg gC (PySem.W.callWith_K (h₀ := X.base) I.ok.mod.kin kC (thn (args.run pos pins s σ H (fun vs H1 => vs = [V.str m] ∧ H = H1) I ⟨rfl, rfl⟩) ?_)) hdb)
  rintro us s1 ⟨vs, H1, I1, rv, rfl, rfl⟩
  refine ⟨I1.kIn, ?_⟩
  obtain ⟨u, rfl, ru⟩ := rv.one
  obtain ⟨bm, N, nm, qn, bs, hdct, sn, sub, ab, col, dd, k0, k1, k2, k3, k5, mN, hC, hN, hni, T⟩ := exc_obj I1.kIn q
  exact wpAny_call_exc_subT F T hC hN hni (fun h' e hm => L2H.mk_of5 I1 hm r h (I1.hok.gone hm.new)) (by show 1 ≤ sizeLine; rw [sizeLine_eq]; omega)
end
end Fw
end

section
-- part Fac
set_option Elab.async false
set_option linter.all false
set_option maxRecDepth 100000
set_option maxHeartbeats 1000000
namespace Ac
open PySem PySem.Spec PyProof.Rows
theorem owner_acc : Manifest.owners.lookup (String.ofList ['e', 't', 'a', 'l', 'u', 'm', 'u', 'c', 'c', 'a', '.', 's', 'l', 'o', 'o', 't', 'r', 'e', 't', 'i'].reverse) = some Manifest.sig_itertools_accumulate := by kernel_rfl
theorem mro_acc : mroOf (.type "itertools.accumulate") = pure [.type "itertools.accumulate", .type "object"] := by rw [mroOf_type]; kernel_rfl
theorem lookup_acc_new : typeLookup (.type "itertools.accumulate") "__new__" = pure (some (.builtin "itertools.accumulate.__new__")) := by rw [typeLookup_type, builtinLookup_eq_fast]; kernel_rfl
theorem slot_acc_init : Slot "itertools.accumulate" "__init__" "object.__init__" :=
  .of (owner := "object") (n := "__init__") (by rw [typeLookup_type, builtinLookup_eq_fast]; kernel_rfl) (by decide +kernel) (by decide +kernel) (by decide +kernel)
    (by first | exact .inl (by decide +kernel) | exact .inr (by decide +kernel)) (by rw [isSubtype_type]; kernel_rfl)
theorem sub_acc : isSubtype (.type "itertools.accumulate") (.type "itertools.accumulate") = pure true := by rw [isSubtype_type]; kernel_rfl
theorem called_acc : TypeCalled "itertools.accumulate" "itertools.accumulate.__new__" "object.__init__" :=
  ⟨by decide +kernel, by decide +kernel, ⟨_, _, mro_acc⟩, madeBy_type mro_acc lookup_acc_new (by decide +kernel), by decide +kernel, sub_acc, slot_acc_init⟩
theorem typeCall_acc (a : Value) : checkTypeCall "itertools.accumulate" ⟨[a], []⟩ = pure () := by kernel_rfl
theorem newCall_acc (a : Value) : checkBuiltinCall "itertools.accumulate.__new__" ⟨[.type "itertools.accumulate", a], []⟩ = pure () := by kernel_rfl
theorem entry_acc_new : entryFor table "itertools.accumulate.__new__" = some Builtin.«itertools.accumulate.__new__» := entryFor_of_tree (by kernel_rfl)
theorem slot_acc_iter : Slot "itertools.accumulate" "__iter__" "itertools.accumulate.__iter__" :=
  .of (owner := "itertools.accumulate") (n := "__iter__") (by rw [typeLookup_type, builtinLookup_eq_fast]; kernel_rfl) (by decide +kernel) (by decide +kernel) (by decide +kernel)
    (by first | exact .inl (by decide +kernel) | exact .inr (by decide +kernel)) sub_acc
theorem slot_acc_next : Slot "itertools.accumulate" "__next__" "itertools.accumulate.__next__" :=
  .of (owner := "itertools.accumulate") (n := "__next__") (by rw [typeLookup_type, builtinLookup_eq_fast]; kernel_rfl) (by decide +kernel) (by decide +kernel) (by decide +kernel)
    (by first | exact .inl (by decide +kernel) | exact .inr (by decide +kernel)) sub_acc
theorem entry_acc_iter : entryFor table "itertools.accumulate.__iter__" = some Builtin.«dict_keyiterator.__iter__» :=
  entryFor_alias (id' := "dict_keyiterator.__iter__") (by kernel_rfl) (by first | rfl | decide +kernel | (unfold String.splitOn; simp +decide [String.splitOnAux])) (by decide +kernel) (by kernel_rfl)
theorem entry_acc_next : entryFor table "itertools.accumulate.__next__" = some Builtin.«itertools.accumulate.__next__» := entryFor_of_tree (by kernel_rfl)
theorem args_acc_iter (a : Value) : argsOk "itertools.accumulate.__iter__" ⟨[a], []⟩ := by
  unfold argsOk; rw [signature?_of (id := "itertools.accumulate.__iter__") (n := ['_', '_', 'r', 'e', 't', 'i', '_', '_']) (o := ['e', 't', 'a', 'l', 'u', 'm', 'u', 'c', 'c', 'a', '.', 's', 'l', 'o', 'o', 't', 'r', 'e', 't', 'i']) (by kernel_rfl) owner_acc]; kernel_rfl
theorem args_acc_next (a : Value) : argsOk "itertools.accumulate.__next__" ⟨[a], []⟩ := by
  unfold argsOk; rw [signature?_of (id := "itertools.accumulate.__next__") (n := ['_', '_', 't', 'x', 'e', 'n', '_', '_']) (o := ['e', 't', 'a', 'l', 'u', 'm', 'u', 'c', 'c', 'a', '.', 's', 'l', 'o', 'o', 't', 'r', 'e', 't', 'i']) (by kernel_rfl) owner_acc]; kernel_rfl
theorem noDict_acc : typeHasDict (.type "itertools.accumulate") = false := by decide +kernel
/-- an accumulate object: what it draws from, its total so far -/
abbrev IsAcc (h : Heap) (a it : Addr) (S : Int) (t : Tok) : Prop := h.get? a = some { cls := .type "itertools.accumulate", dict := none, data := .fields #[.ref it, .none, .int S t, .none], slots := #[] }
theorem classRest_acc (x : Value) : Builtin.Itertools.itClassAndRest "accumulate" ⟨[.type "itertools.accumulate", x], []⟩ = pure (.type "itertools.accumulate", [x]) := by
  unfold Builtin.Itertools.itClassAndRest
  have e : ("itertools." ++ "accumulate" : String) = "itertools.accumulate" := by decide
  simp only [e, isType, sub_acc, pure_bind, Bool.not_true, Bool.false_eq_true, if_false]
theorem bind_acc (x : Value) : Builtin.Itertools.itBindNamed "accumulate" ["iterable", "func", "initial"] 1 2 [x] [] = pure [some x, none, none] := by
  first | rfl | kernel_rfl
section
variable {prog : Program} {w : World} {A : Around} {E : Value → Shared → Prop} {s : Shared}
theorem new_acc (x : Value) : MeetsIn prog w (Builtin.«itertools.accumulate.__new__» ⟨[.type "itertools.accumulate", x], []⟩)
    (fun A R s => wpAny (model prog w) A.in1 (pyIter x) (fun itv s1 => R (.ok (.ret (.ref s1.heap.objs.size))) { s1 with heap := s1.heap.push { cls := .type "itertools.accumulate", data := .fields #[itv, .none, .int 0 0, .none] } }) (fun e s1 => R (.error e) s1) s) :=
  .of_wp fun A R s h => by
    unfold Builtin.«itertools.accumulate.__new__»
    refine wpAny_bind (wpAny_of_eq (classRest_acc _) ?_)
    try dsimp only
    refine wpAny_bind (wpAny_of_eq (bind_acc _) ?_)
    try dsimp only
    refine wpAny_bind (wpAny_mono h (fun itv s1 hR => ?_) fun _ _ z => z)
    refine wpAny_bind ?_
    unfold Builtin.Itertools.itNewRecord
    rw [if_pos (by rw [noDict_acc]; rfl)]
    show wpAny _ _ (newObj (.type "itertools.accumulate") (.fields #[itv, .none, .int 0 0, .none])) _ _ _
    refine wpAny_newObj_type ?_
    exact wpAny_pure ⟨_, rfl, hR⟩
theorem call_acc {x : Value} {Q : Value → Shared → Prop}
    (hx : wpAny (model prog w) A.in1.in1 (pyIter x) (fun itv s1 => ∀ h', h'.get? s1.heap.objs.size = some { cls := .type "itertools.accumulate", dict := none, data := .fields #[itv, .none, .int 0 0, .none], slots := #[] } →
      (∀ c o, s1.heap.get? c = some o → h'.get? c = some o) → Q (.ref s1.heap.objs.size) { s1 with heap := h' }) E s) :
    wpAny (model prog w) A (call (.type "itertools.accumulate") [x]) Q E s := by
  refine callType_newIn called_acc (by decide +kernel) (typeCall_acc _) (newCall_acc _) (fun obj => F.args_object_init_2 obj _) entry_acc_new (new_acc x) ?_
  show wpAny (model prog w) A.in1.in1 (pyIter x) _ _ _
  refine wpAny_mono hx (fun itv s1 h => ?_) fun _ _ z => z
  have g : (s1.heap.push { cls := .type "itertools.accumulate", data := .fields #[itv, .none, .int 0 0, .none] }).get? s1.heap.objs.size = some { cls := .type "itertools.accumulate", dict := none, data := .fields #[itv, .none, .int 0 0, .none], slots := #[] } := Heap.get?_push_size _ rfl
  show _ ∧ _
  exact ⟨⟨_, g, rfl⟩, h _ g fun c o e => Heap.get?_push_of_some _ e⟩
/-- one item of a tuple's iterator, asked for by its slot -/
theorem raw_item {it t : Addr} {i : Nat} {items : Array Value} {x : Value} {Q : Value → Shared → Prop} (hit : s.heap.IsTupleIter it t i) (ht : s.heap.IsTuple t items) (hx : items[i]? = some x)
    (hQ : ∀ h', h'.IsTupleIter it t (i + 1) → Heap.SameBut it s.heap h' → Q x { s with heap := h' }) : wpAny (model prog w) A (Builtin.Itertools.itRawNext (.ref it)) Q E s := by
  obtain ⟨o1, g1, c1, d1⟩ := id hit
  obtain ⟨o2, g2, _, n2, d2⟩ := ht
  unfold Builtin.Itertools.itRawNext
  refine wpAny_bind (wpAny_callSpecial?_slot (name := Str.ofString "__next__") hit.typeIs F.slot_tuple_iterator_next (wpAny_call_entry F.slot_tuple_iterator_next hit.typeIs F.entry_tuple_iterator_next ?_ (F.args_tuple_iterator_next_1 _)))
  show wpAny _ _ (field (.ref it) 0 >>= _) _ _ s
  refine wpAny_bind (wpAny_field g1 d1 (x := .ref t) rfl ?_)
  show wpAny _ _ (if (Value.ref t == Value.none) = true then _ else _) _ _ s
  rw [if_neg (fun z : (Value.ref t == Value.none) = true => Bool.false_ne_true z)]
  show wpAny _ _ (field (.ref it) 1 >>= _) _ _ s
  refine wpAny_bind (wpAny_field g1 d1 (x := .int i 0) rfl ?_)
  show wpAny _ _ (seqItems? (.ref t) >>= _) _ _ s
  refine wpAny_bind (wpAny_seqItems g2 d2 ?_)
  simp only [Int.toNat_natCast, hx]
  refine wpAny_bind (wpAny_setField g1 d1 (by simp) (wpAny_pure ⟨x, rfl, wpAny_pure (hQ _ ⟨_, Heap.get?_update_self _ g1 (Obj.isFreed_of_fields (Obj.data_mapFields d1 _)), (Obj.cls_mapFields ..).trans c1, ?_⟩ (Heap.SameBut.update ..))⟩))
  rw [Obj.data_mapFields d1]
  simp [rawInt]
theorem raw_end {it t : Addr} {i : Nat} {items : Array Value} {Q : Value → Shared → Prop} (hh : A.handled = none) (hit : s.heap.IsTupleIter it t i) (ht : s.heap.IsTuple t items) (hx : items[i]? = none)
    (hE : ∀ h' e, Heap.ExtBut it s.heap h' → (∃ o, h'.get? e = some o ∧ o.cls = .type "StopIteration") → E (.ref e) { s with heap := h' }) : wpAny (model prog w) A (Builtin.Itertools.itRawNext (.ref it)) Q E s := by
  obtain ⟨o1, g1, c1, d1⟩ := id hit
  obtain ⟨o2, g2, _, n2, d2⟩ := ht
  unfold Builtin.Itertools.itRawNext
  refine wpAny_bind (wpAny_callSpecial?_slot (name := Str.ofString "__next__") hit.typeIs F.slot_tuple_iterator_next (wpAny_call_entry F.slot_tuple_iterator_next hit.typeIs F.entry_tuple_iterator_next ?_ (F.args_tuple_iterator_next_1 _)))
  show wpAny _ _ (field (.ref it) 0 >>= _) _ _ s
  refine wpAny_bind (wpAny_field g1 d1 (x := .ref t) rfl ?_)
  show wpAny _ _ (if (Value.ref t == Value.none) = true then _ else _) _ _ s
  rw [if_neg (fun z : (Value.ref t == Value.none) = true => Bool.false_ne_true z)]
  show wpAny _ _ (field (.ref it) 1 >>= _) _ _ s
  refine wpAny_bind (wpAny_field g1 d1 (x := .int i 0) rfl ?_)
  show wpAny _ _ (seqItems? (.ref t) >>= _) _ _ s
  refine wpAny_bind (wpAny_seqItems g2 d2 ?_)
  simp only [Int.toNat_natCast, hx]
  refine wpAny_bind (wpAny_rule (wpAny_bind (wpAny_setField g1 d1 (by simp) ?_)))
  show wpAny _ _ (newExc (.type "StopIteration") [] >>= _) _ _ _
  refine wpAny_bind ?_
  simp only [newExc, newTuple]
  refine wpAny_bind (wpAny_newObj_type ?_ (by size_fits))
  refine wpAny_bind (m := firstArgMember _ _) (wpAny_of_eq (a := Value.none) (by first | rfl | (simp only [firstArgMember]; rfl)) ?_)
  refine wpAny_newObj_type ?_ (by size_fits)
  simp only [raiseNew]
  refine wpAny_bind (wpAny_handled ?_)
  first | rw [show A.in1.handled = none from hh] | rw [hh]
  refine wpAny_bind (wpAny_pure (wpAny_throw ?_))
  exact hE _ _ (((Heap.SameBut.update ..).extBut.push _).push _) ⟨_, Heap.get?_push_size _ rfl, rfl⟩
/-- the next total -/
theorem acc_item {a it t : Addr} {i : Nat} {items : Array Value} {S b : Int} {tk u : Tok} {Q : Option Value → Shared → Prop} (ha : IsAcc s.heap a it S tk) (hit : s.heap.IsTupleIter it t i) (ht : s.heap.IsTuple t items) (hx : items[i]? = some (.int b u)) (h1 : a ≠ it) (h2 : t ≠ it) (h3 : t ≠ a)
    (hQ : ∀ h' v k, IsAcc h' a it (S + b) v → h'.IsTupleIter it t (i + 1) → h'.IsTuple t items → (∀ c o, c ≠ it → c ≠ a → s.heap.get? c = some o → h'.get? c = some o) → s.toks ≤ k → Q (some (.int (S + b) v)) { s with heap := h', toks := k }) :
    wpAny (model prog w) A (pyNext (.ref a)) Q E s := by
  have hT : s.TypeIs (.ref a) "itertools.accumulate" := ⟨_, ha, rfl⟩
  unfold pyNext
  refine wpAny_bind (wpAny_attempt (wpAny_callSpecial?_slot (name := Str.ofString "__next__") hT slot_acc_next (wpAny_call_entry slot_acc_next hT entry_acc_next ?_ (args_acc_next _))))
  show wpAny _ _ (field (.ref a) 3 >>= _) _ _ s
  refine wpAny_bind (wpAny_field ha rfl (x := .none) rfl ?_)
  show wpAny _ _ (field (.ref a) 0 >>= _) _ _ s
  refine wpAny_bind (wpAny_field ha rfl (x := .ref it) rfl ?_)
  refine wpAny_bind (raw_item hit ht hx fun h' hit' hs => ?_)
  have ha' : IsAcc h' a it S tk := (hs.2 a h1).trans ha
  have ht' : h'.IsTuple t items := ht.extBut hs.extBut h2
  show wpAny _ _ (field (.ref a) 2 >>= _) _ _ _
  refine wpAny_bind (wpAny_field ha' rfl (x := .int S tk) rfl ?_)
  have upd2 : ∀ (x : Value), (h'.update a (Obj.mapFields fun y => y.setIfInBounds 2 x)).get? a = some { cls := .type "itertools.accumulate", dict := none, data := .fields #[.ref it, .none, x, .none], slots := #[] } := fun x => Heap.get?_update_self _ ha' rfl
  have oth : ∀ (x : Value) c o, c ≠ a → h'.get? c = some o → (h'.update a (Obj.mapFields fun y => y.setIfInBounds 2 x)).get? c = some o := fun x c o hc e => (Heap.get?_update_other _ _ (Ne.symm hc)).trans e
  obtain ⟨o1, g1, r1⟩ := hit'
  obtain ⟨o2, g2, r2⟩ := ht'
  by_cases hz : (Value.int S tk == Builtin.Itertools.itNothing) = true
  · obtain rfl : S = 0 := by
      simp [Builtin.Itertools.itNothing, rawInt] at hz
      exact hz.1
    show wpAny _ _ (if (Value.int 0 tk == Builtin.Itertools.itNothing) = true then _ else _) _ _ _
    rw [if_pos hz]
    refine wpAny_bind (wpAny_rule ?_)
    refine wpAny_bind (wpAny_setField ha' rfl (by simp) ?_)
    refine wpAny_pure ⟨_, rfl, ?_⟩
    have e0 : (0 : Int) + b = b := Int.zero_add b
    rw [e0] at hQ
    exact wpAny_pure (hQ _ u s.toks (upd2 _) ⟨o1, oth _ _ _ (Ne.symm h1) g1, r1⟩ ⟨o2, oth _ _ _ h3 g2, r2⟩ (fun c o c1 c2 e => oth _ _ _ c2 (hs.extBut c o c1 e)) (Nat.le_refl _))
  · show wpAny _ _ (if (Value.int S tk == Builtin.Itertools.itNothing) = true then _ else _) _ _ _
    rw [if_neg hz]
    show wpAny _ _ (field (.ref a) 1 >>= _) _ _ _
    refine wpAny_bind (wpAny_field ha' rfl (x := .none) rfl ?_)
    refine wpAny_bind (wpAny_holding ?_)
    show wpAny _ _ (binaryOp .Add (.int S tk) (.int b u)) _ _ _
    refine PyProof.Rows.add_int ?_
    refine wpAny_bind (wpAny_setField ha' rfl (by simp) ?_)
    refine wpAny_bind (wpAny_letGo ?_)
    refine wpAny_pure ⟨_, rfl, ?_⟩
    exact wpAny_pure (hQ _ _ (s.toks + 1) (upd2 _) ⟨o1, oth _ _ _ (Ne.symm h1) g1, r1⟩ ⟨o2, oth _ _ _ h3 g2, r2⟩ (fun c o c1 c2 e => oth _ _ _ c2 (hs.extBut c o c1 e)) (Nat.le_succ _))
theorem acc_end {a it t : Addr} {i : Nat} {items : Array Value} {S : Int} {tk : Tok} {Q : Option Value → Shared → Prop} (hh : A.handled = none) (ha : IsAcc s.heap a it S tk) (hit : s.heap.IsTupleIter it t i) (ht : s.heap.IsTuple t items) (hx : items[i]? = none)
    (hQ : ∀ h', Heap.ExtBut it s.heap h' → Q none { s with heap := h' }) : wpAny (model prog w) A (pyNext (.ref a)) Q E s := by
  have hT : s.TypeIs (.ref a) "itertools.accumulate" := ⟨_, ha, rfl⟩
  have hh1 : A.in1.handled = none := hh
  unfold pyNext
  refine wpAny_bind (wpAny_attempt (wpAny_callSpecial?_slot (name := Str.ofString "__next__") hT slot_acc_next (wpAny_call_entry slot_acc_next hT entry_acc_next ?_ (args_acc_next _))))
  show wpAny _ _ (field (.ref a) 3 >>= _) _ _ s
  refine wpAny_bind (wpAny_field ha rfl (x := .none) rfl ?_)
  show wpAny _ _ (field (.ref a) 0 >>= _) _ _ s
  refine wpAny_bind (wpAny_field ha rfl (x := .ref it) rfl ?_)
  refine wpAny_bind (raw_end hh1 hit ht hx fun h' x he hx' => ?_)
  obtain ⟨o, ho, hc⟩ := hx'
  refine wpAny_bind (wpAny_isInstance (T := "StopIteration") (b := true) ⟨o, ho, hc⟩ isSubtype_stop ?_)
  exact wpAny_pure (hQ _ he)
theorem acc_iter {a it : Addr} {S : Int} {tk : Tok} {Q : Value → Shared → Prop} (ha : IsAcc s.heap a it S tk) (h : Q (.ref a) s) : wpAny (model prog w) A (pyIter (.ref a)) Q E s := by
  have hT : s.TypeIs (.ref a) "itertools.accumulate" := ⟨_, ha, rfl⟩
  refine wpAny_pyIter_slot hT slot_acc_iter (wpAny_call_entry slot_acc_iter hT entry_acc_iter ?_ (args_acc_iter _))
  show wpAny _ _ (ret (.ref a)) _ _ s
  exact wpAny_pure ⟨_, rfl, "itertools.accumulate", _, hT, slot_acc_next.lookup, h⟩
end
theorem walks_acc {prog : Program} {w : World} {A : Around} {a it t : Addr} {items : Array Value} {val : Nat → Int} (hh : A.handled = none) (hv : ∀ (i : Nat) (v : Value), items[i]? = some v → ∃ u, v = .int (val i) u) (h1 : a ≠ it) (h2 : t ≠ it) (h3 : t ≠ a) :
    WalksS prog w A a [a, it, t] [a, it] (fun x y => y = x) items.size (fun i v => ∃ u, v = .int (preSum val (i + 1)) u) (fun i s => (∃ tk, IsAcc s.heap a it (preSum val i) tk) ∧ s.heap.IsTupleIter it t i ∧ s.heap.IsTuple t items) where
  sub := fun b hb => by
    rcases List.mem_cons.mp hb with rfl | hb
    · simp
    · rw [List.mem_singleton.mp hb]; simp
  grefl := fun _ => rfl
  gtrans := fun _ _ _ q1 q2 => q2.trans q1
  frame := fun i s h' tk st _ hk => by
    obtain ⟨⟨k, q1⟩, ⟨o1, g1, r1⟩, ⟨o2, g2, r2⟩⟩ := st
    exact ⟨⟨k, hk a (by simp) _ q1⟩, ⟨o1, hk it (by simp) _ g1, r1⟩, ⟨o2, hk t (by simp) _ g2, r2⟩⟩
  item := fun i s Q E hi st hQ => by
    obtain ⟨⟨k, q1⟩, q2, q3⟩ := st
    have hg : items[i]? = some items[i] := Array.getElem?_eq_getElem hi
    obtain ⟨u, hu⟩ := hv i _ hg
    rw [hu] at hg
    refine acc_item q1 q2 q3 hg h1 h2 h3 fun h' v k2 a1 a2 a3 hk htk => ?_
    exact hQ _ _ ⟨v, rfl⟩ ⟨⟨v, a1⟩, a2, a3⟩ ⟨fun b o hb e => hk b o (fun z => hb (by simp [z])) (fun z => hb (by simp [z])) e, rfl, rfl, rfl, htk⟩
  done := fun s Q E st hQ => by
    obtain ⟨⟨k, q1⟩, q2, q3⟩ := st
    refine acc_end hh q1 q2 q3 (Array.getElem?_eq_none (Nat.le_refl _)) fun h' he => ?_
    exact hQ _ ⟨fun b o hb e => he b o (fun z => hb (by simp [z])) e, rfl, rfl, rfl, Nat.le_refl _⟩
  self := fun i s Q E st hQ => by
    obtain ⟨⟨k, q1⟩, _⟩ := st
    exact acc_iter q1 hQ
section
variable {prog : Program} {w : World} {A : Around} {E : Value → Shared → Prop} {s : Shared}
theorem sum_tup {t : Addr} {items : Array Value} {val : Nat → Int} {Q : Value → Shared → Prop} (hh : A.handled = none) (ht : s.heap.IsTuple t items) (hv : ∀ (i : Nat) (v : Value), items[i]? = some v → ∃ u, v = .int (val i) u)
    (hq : ∀ h' t' k, (∀ b o, s.heap.get? b = some o → h'.get? b = some o) → Q (.int (preSum val items.size) t') { s with heap := h', toks := k }) : wpAny (model prog w) A (call (.builtin "sum") [.ref t]) Q E s := by
  have lt : t < s.heap.objs.size := by obtain ⟨o, ho, _⟩ := ht; exact Heap.lt_size ho
  have hh1 : A.in1.handled = none := hh
  refine call_sum_walkG (wpAny_pyIter_tuple ht ?_)
  refine ⟨_, _, _, _, _, _, val, rfl, Walks.tuple hh1 s.heap.objs.size t (Nat.ne_of_lt lt) items, ⟨⟨_, Heap.get?_push_size _ rfl, rfl, rfl⟩, ht.push _⟩, fun b hb => ?_, hv, fun h' tk t' hk => ?_⟩
  · have e : (s.heap.push { cls := .type "tuple_iterator", data := .fields #[.ref t, .int 0 0] }).objs.size = s.heap.objs.size + 1 := Heap.size_push ..
    show b < (s.heap.push { cls := .type "tuple_iterator", data := .fields #[.ref t, .int 0 0] }).objs.size
    rw [e]
    rcases List.mem_cons.mp hb with rfl | hb
    · exact Nat.lt_succ_self _
    · rw [List.mem_singleton.mp hb]; exact Nat.lt_succ_of_lt lt
  · exact hq h' t' tk fun b o e => hk b o (fun z => absurd (List.mem_singleton.mp z) (Nat.ne_of_lt (Heap.lt_size e))) (Heap.get?_push_of_some _ e)
theorem sum_acc {t : Addr} {items : Array Value} {val : Nat → Int} {Q : Value → Shared → Prop} (hh : A.handled = none) (ht : s.heap.IsTuple t items) (hv : ∀ (i : Nat) (v : Value), items[i]? = some v → ∃ u, v = .int (val i) u)
    (hq : ∀ h' t' k, (∀ b o, s.heap.get? b = some o → h'.get? b = some o) → Q (.int (preSum (fun i => preSum val (i + 1)) items.size) t') { s with heap := h', toks := k }) :
    wpAny (model prog w) A (call (.type "itertools.accumulate") [.ref t]) (fun v s1 => wpAny (model prog w) A (call (.builtin "sum") [v]) Q E s1) E s := by
  have lt : t < s.heap.objs.size := by obtain ⟨o, ho, _⟩ := ht; exact Heap.lt_size ho
  have hh1 : A.in1.handled = none := hh
  refine call_acc (wpAny_pyIter_tuple ht ?_)
  have e1 : (s.heap.push { cls := .type "tuple_iterator", data := .fields #[.ref t, .int 0 0] }).objs.size = s.heap.objs.size + 1 := Heap.size_push ..
  intro h' g1 hk
  rw [show ({ s with heap := s.heap.push { cls := .type "tuple_iterator", data := .fields #[.ref t, .int 0 0] } } : Shared).heap.objs.size = s.heap.objs.size + 1 from e1] at g1 ⊢
  have git : h'.IsTupleIter s.heap.objs.size t 0 := ⟨_, hk _ _ (Heap.get?_push_size _ rfl), rfl, rfl⟩
  have gt : h'.IsTuple t items := (ht.push _).at fun o e => hk _ o e
  have W := walks_acc (A := A.in1) (prog := prog) (w := w) (a := s.heap.objs.size + 1) (it := s.heap.objs.size) (t := t) (items := items) hh1 hv (Nat.succ_ne_self _) (Nat.ne_of_lt lt) (Nat.ne_of_lt (Nat.lt_succ_of_lt lt))
  refine call_sum_walkAnyS (acc_iter g1 ?_)
  refine ⟨_, _, _, _, _, _, _, fun i => preSum val (i + 1), rfl, W, ⟨⟨0, g1⟩, git, gt⟩, fun b hb => ?_, fun i v hv => hv, fun s' t' hm => ?_⟩
  · have q1 := Heap.lt_size g1
    rcases List.mem_cons.mp hb with rfl | hb
    · exact q1
    · rcases List.mem_cons.mp hb with rfl | hb
      · exact Nat.lt_of_succ_lt q1
      · rw [List.mem_singleton.mp hb]; exact Nat.lt_trans lt (Nat.lt_of_succ_lt q1)
  · rw [Moved.eq_with hm]
    refine hq s'.heap t' s'.toks fun b o e => hm.heap b o (fun z => ?_) (hk b o (Heap.get?_push_of_some _ e))
    have hb := Heap.lt_size e
    rcases List.mem_cons.mp z with rfl | z
    · exact absurd hb (Nat.not_lt.mpr (Nat.le_succ _))
    · rw [List.mem_singleton.mp z] at hb
      exact Nat.lt_irrefl _ hb
end
end Ac
namespace L2
open PySem PySem.Spec PyProof.Rows
/-- the sum of the sums so far -/
def accI : Int → List Int → Int
  | _, [] => 0
  | S, b :: r => (S + b) + accI (S + b) r
theorem preSum_ext {f g : Nat → Int} : ∀ n, (∀ i, i < n → f i = g i) → preSum f n = preSum g n
  | 0, _ => rfl
  | n + 1, h => by
    show preSum f n + f n = preSum g n + g n
    rw [preSum_ext n (fun i hi => h i (Nat.lt_succ_of_lt hi)), h n (Nat.lt_succ_self n)]
theorem preSum_cons (f : Nat → Int) : ∀ n, preSum f (n + 1) = f 0 + preSum (fun i => f (i + 1)) n
  | 0 => by show (0 : Int) + f 0 = f 0 + 0; omega
  | n + 1 => by
    have := preSum_cons f n
    show preSum f (n + 1) + f (n + 1) = f 0 + (preSum (fun i => f (i + 1)) n + f (n + 1))
    rw [this]
    omega
theorem preSum_add (c : Int) (f : Nat → Int) : ∀ n, preSum (fun i => c + f i) n = n * c + preSum f n
  | 0 => by show (0 : Int) = ((0 : Nat) : Int) * c + 0; simp
  | n + 1 => by
    show preSum (fun i => c + f i) n + (c + f n) = ((n + 1 : Nat) : Int) * c + (preSum f n + f n)
    rw [preSum_add c f n, Int.natCast_add, Int.add_mul]
    simp only [Int.natCast_one, Int.one_mul]
    omega
theorem accI_add : ∀ (S : Int) (ns : List Int), accI S ns = ns.length * S + accI 0 ns
  | S, [] => by simp [accI]
  | S, b :: r => by
    show S + b + accI (S + b) r = ((r.length + 1 : Nat) : Int) * S + (0 + b + accI (0 + b) r)
    rw [accI_add (S + b) r, accI_add (0 + b) r, Int.natCast_add, Int.add_mul, Int.mul_add]
    simp only [Int.natCast_one, Int.one_mul, Int.zero_add]
    omega
theorem pre_sum : ∀ (ns : List Int) (val : Nat → Int), (∀ i b, ns[i]? = some b → val i = b) → preSum val ns.length = ns.sum
  | [], _, _ => rfl
  | b :: r, val, h => by
    rw [List.length_cons, preSum_cons, h 0 b rfl, pre_sum r (fun i => val (i + 1)) (fun i c hc => h (i + 1) c hc), List.sum_cons]
theorem pre_acc : ∀ (ns : List Int) (val : Nat → Int), (∀ i b, ns[i]? = some b → val i = b) → preSum (fun i => preSum val (i + 1)) ns.length = accI 0 ns
  | [], _, _ => rfl
  | b :: r, val, h => by
    rw [List.length_cons, preSum_cons]
    have e : preSum (fun i => preSum val (i + 1 + 1)) r.length = preSum (fun i => b + preSum (fun i => val (i + 1)) (i + 1)) r.length := preSum_ext _ fun i _ => by
      show preSum val (i + 1 + 1) = _
      rw [preSum_cons, h 0 b rfl]
    show preSum val (0 + 1) + preSum (fun i => preSum val (i + 1 + 1)) r.length = _
    rw [e, preSum_add, pre_acc r (fun i => val (i + 1)) (fun i c hc => h (i + 1) c hc)]
    show (0 : Int) + val 0 + (r.length * b + accI 0 r) = 0 + b + accI (0 + b) r
    rw [h 0 b rfl, accI_add (0 + b) r]
    simp only [Int.zero_add]
theorem ints_val {ns : List Int} {its : List Value} (rv : Vals (ns.map V.int) its) : ∀ (i : Nat) (v : Value), its.toArray[i]? = some v → ∃ u, v = .int (ns[i]?.getD 0) u := fun i v hv => by
  have hv' : its[i]? = some v := by simpa using hv
  have hi : i < ns.length := by
    have e := rv.length
    rw [List.length_map] at e
    have := (List.getElem?_eq_some_iff.mp hv').1
    omega
  obtain ⟨u2, hu2, rx⟩ := rv.get (i := i) (x := V.int ns[i]) (by rw [List.getElem?_map, List.getElem?_eq_getElem hi]; rfl)
  obtain rfl : u2 = v := Option.some.inj (hu2.symm.trans hv')
  obtain ⟨t, rfl⟩ := rx
  exact ⟨t, by rw [List.getElem?_eq_getElem hi]; rfl⟩
theorem val_get {ns : List Int} : ∀ (i : Nat) (b : Int), ns[i]? = some b → (fun i : Nat => ns[i]?.getD 0) i = b := fun i b h => by
  show ns[i]?.getD 0 = b
  rw [h]
  rfl
section
variable {X : Cx}
/-- sum(t) of a list or tuple of ints -/
def rSumA (K : PySem.W.Frag) : List V → Hp → VK → Prop := fun vs H Q => ∃ (a : Addr) (ns : List Int), vs = [V.ref a] ∧ (SqL K H a (ns.map V.int) ∨ SqT K H a (ns.map V.int)) ∧ Q (.int ns.sum) H
theorem cr_sumA (hc : X.calm = true) : CallR X (.builtin "sum") (rSumA X.K) := by
  intro pins s σ H vs us Q I r h
  obtain ⟨a, ns, rfl, hs, q⟩ := h
  rcases hs with hs | hs
  · exact cr_sum hc pins s σ H [V.ref a] us Q I r ⟨a, ns, rfl, hs, q⟩
  obtain ⟨its, rv, hl, _⟩ := I.tuple hs
  rw [Vals.ref1 r]
  refine Ac.sum_tup (val := fun i : Nat => ns[i]?.getD 0) (I.ok.hd hc) hl (ints_val rv) fun h' t' k hk => ⟨.int _, H, I.kept hk, ⟨_, rfl⟩, ?_⟩
  have e : its.toArray.size = ns.length := by have := rv.length; rw [List.length_map] at this; simp only [List.size_toArray]; omega
  rw [e, pre_sum ns _ val_get]
  exact q
/-- sum(accumulate(t)) of a tuple of ints -/
def tSumAcc (K : PySem.W.Frag) (ta : TA) : TE := fun σ H Q => ta σ H fun vs H2 => ∃ (q : Addr) (ns : List Int), vs = [V.ref q] ∧ SqT K H2 q (ns.map V.int) ∧ Q (.int (accI 0 ns)) H2
theorem pe_sumAcc {e : Expr} {ta : TA} {p0 pos p pos2 : Pos} (hc : X.calm = true) (hgs : Gl X "sum") (hms : X.mg "sum" = none) (hg : Gl X "accumulate") (hm : X.mg "accumulate" = some (.type "itertools.accumulate")) (ha : PA X [e] ta)
    (hs1 : starEach [.Call (.Name "accumulate" p) [e] [] pos2] X.env = (false, eval (.Call (.Name "accumulate" p) [e] [] pos2) X.env) :: starEach [] X.env := by rfl)
    (hp1 : (backTo pos (starEach [] X.env)).any (·.1) = false := by rfl) (hs : starEach [e] X.env = (false, eval e X.env) :: starEach [] X.env := by rfl) (hpl : (backTo pos2 (starEach [] X.env)).any (·.1) = false := by rfl) :
    PE X (.Call (.Name "sum" p0) [.Call (.Name "accumulate" p) [e] [] pos2] [] pos) (tSumAcc X.K ta) := by
  refine ⟨fun pins s σ H Q I h => ?_⟩
  refine wpAny_Call_Name_kw (ld_blt I hgs hms boot_sum ?_)
  refine PyProof.Rows.callWith_builtin1 ?_ hs1 hp1
  rw [hs1]
  show wpAny _ _ (spliced ((false, eval (.Call (.Name "accumulate" p) [e] [] pos2) X.env) :: backTo pos (starEach [] X.env))) _ _ s
  refine Calls.spliced_cons ?_
  refine wpAny_Call_Name_kw (ld_glob I hg hm ?_ (by decide))
  refine PyProof.Rows.callWith_type1 ?_ hs hpl
  refine thn (ha.run pos2 pins s σ H _ I h) fun us s3 ⟨vs, H2, I3, r3, q3⟩ => ?_
  obtain ⟨q, ns, rfl, hq, q3⟩ := q3
  rw [Vals.ref1 r3]
  obtain ⟨its, rv, hl, _⟩ := I3.tuple hq
  refine wpAny_mono (Ac.sum_acc (val := fun i : Nat => ns[i]?.getD 0) (Q := EP X pins σ Q) (E := X.xe) (I3.ok.hd hc) hl (ints_val rv) fun h' t' k hk => ?_) (fun v s4 h4 => Calls.spliced_nil h4) fun _ _ z => z
  have e : its.toArray.size = ns.length := by have := rv.length; rw [List.length_map] at this; simp only [List.size_toArray]; omega
  rw [e, pre_acc ns _ val_get]
  exact ⟨.int _, H2, I3.kept hk, ⟨t', rfl⟩, q3⟩
theorem w_sumAcc {K : PySem.W.Frag} {ta : TA} {σ : St} {H : Hp} {Q : VK} (h : ta σ H fun vs H2 => ∃ (q : Addr) (ns : List Int), vs = [V.ref q] ∧ SqT K H2 q (ns.map V.int) ∧ Q (.int (accI 0 ns)) H2) : tSumAcc K ta σ H Q := h
end
end L2
end

section
-- part Fal
set_option Elab.async false
set_option linter.all false
set_option maxRecDepth 100000
set_option maxHeartbeats 1000000
/-! Fal: sum(accumulate(l)) of a list, too -/
namespace Ac
open PySem PySem.Spec PyProof.Rows
section
variable {prog : Program} {w : World} {A : Around} {E : Value → Shared → Prop} {s : Shared}
/-- one item of a list's iterator, asked for by its slot -/
theorem raw_itemL {it t : Addr} {i : Nat} {items : Array Value} {x : Value} {Q : Value → Shared → Prop} (hit : s.heap.IsListIter it t i) (ht : s.heap.IsList t items) (hx : items[i]? = some x)
    (hQ : ∀ h', h'.IsListIter it t (i + 1) → Heap.SameBut it s.heap h' → Q x { s with heap := h' }) : wpAny (model prog w) A (Builtin.Itertools.itRawNext (.ref it)) Q E s := by
  obtain ⟨o1, g1, c1, d1⟩ := id hit
  obtain ⟨o2, g2, _, n2, d2⟩ := ht
  unfold Builtin.Itertools.itRawNext
  refine wpAny_bind (wpAny_callSpecial?_slot (name := Str.ofString "__next__") hit.typeIs slot_listiter_next (wpAny_call_entry slot_listiter_next hit.typeIs entry_listiter_next ?_ (args_listiter_next _)))
  show wpAny _ _ (field (.ref it) 0 >>= _) _ _ s
  refine wpAny_bind (wpAny_field g1 d1 (x := .ref t) rfl ?_)
  show wpAny _ _ (if (Value.ref t == Value.none) = true then _ else _) _ _ s
  rw [if_neg (fun z : (Value.ref t == Value.none) = true => Bool.false_ne_true z)]
  show wpAny _ _ (field (.ref it) 1 >>= _) _ _ s
  refine wpAny_bind (wpAny_field g1 d1 (x := .int i 0) rfl ?_)
  show wpAny _ _ (seqItems? (.ref t) >>= _) _ _ s
  refine wpAny_bind (wpAny_seqItems g2 d2 ?_)
  simp only [Int.toNat_natCast, hx]
  refine wpAny_bind (wpAny_setField g1 d1 (by simp) (wpAny_pure ⟨x, rfl, wpAny_pure (hQ _ ⟨_, Heap.get?_update_self _ g1 (Obj.isFreed_of_fields (Obj.data_mapFields d1 _)), (Obj.cls_mapFields ..).trans c1, ?_⟩ (Heap.SameBut.update ..))⟩))
  rw [Obj.data_mapFields d1]
  simp [rawInt]
theorem raw_endL {it t : Addr} {i : Nat} {items : Array Value} {Q : Value → Shared → Prop} (hh : A.handled = none) (hit : s.heap.IsListIter it t i) (ht : s.heap.IsList t items) (hx : items[i]? = none)
    (hE : ∀ h' e, Heap.ExtBut it s.heap h' → (∃ o, h'.get? e = some o ∧ o.cls = .type "StopIteration") → E (.ref e) { s with heap := h' }) : wpAny (model prog w) A (Builtin.Itertools.itRawNext (.ref it)) Q E s := by
  obtain ⟨o1, g1, c1, d1⟩ := id hit
  obtain ⟨o2, g2, _, n2, d2⟩ := ht
  unfold Builtin.Itertools.itRawNext
  refine wpAny_bind (wpAny_callSpecial?_slot (name := Str.ofString "__next__") hit.typeIs slot_listiter_next (wpAny_call_entry slot_listiter_next hit.typeIs entry_listiter_next ?_ (args_listiter_next _)))
  show wpAny _ _ (field (.ref it) 0 >>= _) _ _ s
  refine wpAny_bind (wpAny_field g1 d1 (x := .ref t) rfl ?_)
  show wpAny _ _ (if (Value.ref t == Value.none) = true then _ else _) _ _ s
  rw [if_neg (fun z : (Value.ref t == Value.none) = true => Bool.false_ne_true z)]
  show wpAny _ _ (field (.ref it) 1 >>= _) _ _ s
  refine wpAny_bind (wpAny_field g1 d1 (x := .int i 0) rfl ?_)
  show wpAny _ _ (seqItems? (.ref t) >>= _) _ _ s
  refine wpAny_bind (wpAny_seqItems g2 d2 ?_)
  simp only [Int.toNat_natCast, hx]
  refine wpAny_bind (wpAny_rule (wpAny_bind (wpAny_setField g1 d1 (by simp) ?_)))
  show wpAny _ _ (newExc (.type "StopIteration") [] >>= _) _ _ _
  refine wpAny_bind ?_
  simp only [newExc, newTuple]
  refine wpAny_bind (wpAny_newObj_type ?_ (by size_fits))
  refine wpAny_bind (m := firstArgMember _ _) (wpAny_of_eq (a := Value.none) (by first | rfl | (simp only [firstArgMember]; rfl)) ?_)
  refine wpAny_newObj_type ?_ (by size_fits)
  simp only [raiseNew]
  refine wpAny_bind (wpAny_handled ?_)
  first | rw [show A.in1.handled = none from hh] | rw [hh]
  refine wpAny_bind (wpAny_pure (wpAny_throw ?_))
  exact hE _ _ (((Heap.SameBut.update ..).extBut.push _).push _) ⟨_, Heap.get?_push_size _ rfl, rfl⟩
/-- the next total -/
theorem acc_itemL {a it t : Addr} {i : Nat} {items : Array Value} {S b : Int} {tk u : Tok} {Q : Option Value → Shared → Prop} (ha : IsAcc s.heap a it S tk) (hit : s.heap.IsListIter it t i) (ht : s.heap.IsList t items) (hx : items[i]? = some (.int b u)) (h1 : a ≠ it) (h2 : t ≠ it) (h3 : t ≠ a)
    (hQ : ∀ h' v k, IsAcc h' a it (S + b) v → h'.IsListIter it t (i + 1) → h'.IsList t items → (∀ c o, c ≠ it → c ≠ a → s.heap.get? c = some o → h'.get? c = some o) → s.toks ≤ k → Q (some (.int (S + b) v)) { s with heap := h', toks := k }) :
    wpAny (model prog w) A (pyNext (.ref a)) Q E s := by
  have hT : s.TypeIs (.ref a) "itertools.accumulate" := ⟨_, ha, rfl⟩
  unfold pyNext
  refine wpAny_bind (wpAny_attempt (wpAny_callSpecial?_slot (name := Str.ofString "__next__") hT slot_acc_next (wpAny_call_entry slot_acc_next hT entry_acc_next ?_ (args_acc_next _))))
  show wpAny _ _ (field (.ref a) 3 >>= _) _ _ s
  refine wpAny_bind (wpAny_field ha rfl (x := .none) rfl ?_)
  show wpAny _ _ (field (.ref a) 0 >>= _) _ _ s
  refine wpAny_bind (wpAny_field ha rfl (x := .ref it) rfl ?_)
  refine wpAny_bind (raw_itemL hit ht hx fun h' hit' hs => ?_)
  have ha' : IsAcc h' a it S tk := (hs.2 a h1).trans ha
  have ht' : h'.IsList t items := ht.extBut hs.extBut h2
  show wpAny _ _ (field (.ref a) 2 >>= _) _ _ _
  refine wpAny_bind (wpAny_field ha' rfl (x := .int S tk) rfl ?_)
  have upd2 : ∀ (x : Value), (h'.update a (Obj.mapFields fun y => y.setIfInBounds 2 x)).get? a = some { cls := .type "itertools.accumulate", dict := none, data := .fields #[.ref it, .none, x, .none], slots := #[] } := fun x => Heap.get?_update_self _ ha' rfl
  have oth : ∀ (x : Value) c o, c ≠ a → h'.get? c = some o → (h'.update a (Obj.mapFields fun y => y.setIfInBounds 2 x)).get? c = some o := fun x c o hc e => (Heap.get?_update_other _ _ (Ne.symm hc)).trans e
  obtain ⟨o1, g1, r1⟩ := hit'
  obtain ⟨o2, g2, r2⟩ := ht'
  by_cases hz : (Value.int S tk == Builtin.Itertools.itNothing) = true
  · obtain rfl : S = 0 := by
      simp [Builtin.Itertools.itNothing, rawInt] at hz
      exact hz.1
    show wpAny _ _ (if (Value.int 0 tk == Builtin.Itertools.itNothing) = true then _ else _) _ _ _
    rw [if_pos hz]
    refine wpAny_bind (wpAny_rule ?_)
    refine wpAny_bind (wpAny_setField ha' rfl (by simp) ?_)
    refine wpAny_pure ⟨_, rfl, ?_⟩
    have e0 : (0 : Int) + b = b := Int.zero_add b
    rw [e0] at hQ
    exact wpAny_pure (hQ _ u s.toks (upd2 _) ⟨o1, oth _ _ _ (Ne.symm h1) g1, r1⟩ ⟨o2, oth _ _ _ h3 g2, r2⟩ (fun c o c1 c2 e => oth _ _ _ c2 (hs.extBut c o c1 e)) (Nat.le_refl _))
  · show wpAny _ _ (if (Value.int S tk == Builtin.Itertools.itNothing) = true then _ else _) _ _ _
    rw [if_neg hz]
    show wpAny _ _ (field (.ref a) 1 >>= _) _ _ _
    refine wpAny_bind (wpAny_field ha' rfl (x := .none) rfl ?_)
    refine wpAny_bind (wpAny_holding ?_)
    show wpAny _ _ (binaryOp .Add (.int S tk) (.int b u)) _ _ _
    refine PyProof.Rows.add_int ?_
    refine wpAny_bind (wpAny_setField ha' rfl (by simp) ?_)
    refine wpAny_bind (wpAny_letGo ?_)
    refine wpAny_pure ⟨_, rfl, ?_⟩
    exact wpAny_pure (hQ _ _ (s.toks + 1) (upd2 _) ⟨o1, oth _ _ _ (Ne.symm h1) g1, r1⟩ ⟨o2, oth _ _ _ h3 g2, r2⟩ (fun c o c1 c2 e => oth _ _ _ c2 (hs.extBut c o c1 e)) (Nat.le_succ _))
theorem acc_endL {a it t : Addr} {i : Nat} {items : Array Value} {S : Int} {tk : Tok} {Q : Option Value → Shared → Prop} (hh : A.handled = none) (ha : IsAcc s.heap a it S tk) (hit : s.heap.IsListIter it t i) (ht : s.heap.IsList t items) (hx : items[i]? = none)
    (hQ : ∀ h', Heap.ExtBut it s.heap h' → Q none { s with heap := h' }) : wpAny (model prog w) A (pyNext (.ref a)) Q E s := by
  have hT : s.TypeIs (.ref a) "itertools.accumulate" := ⟨_, ha, rfl⟩
  have hh1 : A.in1.handled = none := hh
  unfold pyNext
  refine wpAny_bind (wpAny_attempt (wpAny_callSpecial?_slot (name := Str.ofString "__next__") hT slot_acc_next (wpAny_call_entry slot_acc_next hT entry_acc_next ?_ (args_acc_next _))))
  show wpAny _ _ (field (.ref a) 3 >>= _) _ _ s
  refine wpAny_bind (wpAny_field ha rfl (x := .none) rfl ?_)
  show wpAny _ _ (field (.ref a) 0 >>= _) _ _ s
  refine wpAny_bind (wpAny_field ha rfl (x := .ref it) rfl ?_)
  refine wpAny_bind (raw_endL hh1 hit ht hx fun h' x he hx' => ?_)
  obtain ⟨o, ho, hc⟩ := hx'
  refine wpAny_bind (wpAny_isInstance (T := "StopIteration") (b := true) ⟨o, ho, hc⟩ isSubtype_stop ?_)
  exact wpAny_pure (hQ _ he)
end
theorem walks_accL {prog : Program} {w : World} {A : Around} {a it t : Addr} {items : Array Value} {val : Nat → Int} (hh : A.handled = none) (hv : ∀ (i : Nat) (v : Value), items[i]? = some v → ∃ u, v = .int (val i) u) (h1 : a ≠ it) (h2 : t ≠ it) (h3 : t ≠ a) :
    WalksS prog w A a [a, it, t] [a, it] (fun x y => y = x) items.size (fun i v => ∃ u, v = .int (preSum val (i + 1)) u) (fun i s => (∃ tk, IsAcc s.heap a it (preSum val i) tk) ∧ s.heap.IsListIter it t i ∧ s.heap.IsList t items) where
  sub := fun b hb => by
    rcases List.mem_cons.mp hb with rfl | hb
    · simp
    · rw [List.mem_singleton.mp hb]; simp
  grefl := fun _ => rfl
  gtrans := fun _ _ _ q1 q2 => q2.trans q1
  frame := fun i s h' tk st _ hk => by
    obtain ⟨⟨k, q1⟩, ⟨o1, g1, r1⟩, ⟨o2, g2, r2⟩⟩ := st
    exact ⟨⟨k, hk a (by simp) _ q1⟩, ⟨o1, hk it (by simp) _ g1, r1⟩, ⟨o2, hk t (by simp) _ g2, r2⟩⟩
  item := fun i s Q E hi st hQ => by
    obtain ⟨⟨k, q1⟩, q2, q3⟩ := st
    have hg : items[i]? = some items[i] := Array.getElem?_eq_getElem hi
    obtain ⟨u, hu⟩ := hv i _ hg
    rw [hu] at hg
    refine acc_itemL q1 q2 q3 hg h1 h2 h3 fun h' v k2 a1 a2 a3 hk htk => ?_
    exact hQ _ _ ⟨v, rfl⟩ ⟨⟨v, a1⟩, a2, a3⟩ ⟨fun b o hb e => hk b o (fun z => hb (by simp [z])) (fun z => hb (by simp [z])) e, rfl, rfl, rfl, htk⟩
  done := fun s Q E st hQ => by
    obtain ⟨⟨k, q1⟩, q2, q3⟩ := st
    refine acc_endL hh q1 q2 q3 (Array.getElem?_eq_none (Nat.le_refl _)) fun h' he => ?_
    exact hQ _ ⟨fun b o hb e => he b o (fun z => hb (by simp [z])) e, rfl, rfl, rfl, Nat.le_refl _⟩
  self := fun i s Q E st hQ => by
    obtain ⟨⟨k, q1⟩, _⟩ := st
    exact acc_iter q1 hQ
section
variable {prog : Program} {w : World} {A : Around} {E : Value → Shared → Prop} {s : Shared}
theorem sum_accL {t : Addr} {items : Array Value} {val : Nat → Int} {Q : Value → Shared → Prop} (hh : A.handled = none) (ht : s.heap.IsList t items) (hv : ∀ (i : Nat) (v : Value), items[i]? = some v → ∃ u, v = .int (val i) u)
    (hq : ∀ h' t' k, (∀ b o, s.heap.get? b = some o → h'.get? b = some o) → Q (.int (preSum (fun i => preSum val (i + 1)) items.size) t') { s with heap := h', toks := k }) :
    wpAny (model prog w) A (call (.type "itertools.accumulate") [.ref t]) (fun v s1 => wpAny (model prog w) A (call (.builtin "sum") [v]) Q E s1) E s := by
  have lt : t < s.heap.objs.size := by obtain ⟨o, ho, _⟩ := ht; exact Heap.lt_size ho
  have hh1 : A.in1.handled = none := hh
  refine call_acc (wpAny_pyIter_list ht ?_)
  have e1 : (s.heap.push { cls := .type "list_iterator", data := .fields #[.ref t, .int 0 0] }).objs.size = s.heap.objs.size + 1 := Heap.size_push ..
  intro h' g1 hk
  rw [show ({ s with heap := s.heap.push { cls := .type "list_iterator", data := .fields #[.ref t, .int 0 0] } } : Shared).heap.objs.size = s.heap.objs.size + 1 from e1] at g1 ⊢
  have git : h'.IsListIter s.heap.objs.size t 0 := ⟨_, hk _ _ (Heap.get?_push_size _ rfl), rfl, rfl⟩
  have gt : h'.IsList t items := (ht.push _).at fun o e => hk _ o e
  have W := walks_accL (A := A.in1) (prog := prog) (w := w) (a := s.heap.objs.size + 1) (it := s.heap.objs.size) (t := t) (items := items) hh1 hv (Nat.succ_ne_self _) (Nat.ne_of_lt lt) (Nat.ne_of_lt (Nat.lt_succ_of_lt lt))
  refine call_sum_walkAnyS (acc_iter g1 ?_)
  refine ⟨_, _, _, _, _, _, _, fun i => preSum val (i + 1), rfl, W, ⟨⟨0, g1⟩, git, gt⟩, fun b hb => ?_, fun i v hv => hv, fun s' t' hm => ?_⟩
  · have q1 := Heap.lt_size g1
    rcases List.mem_cons.mp hb with rfl | hb
    · exact q1
    · rcases List.mem_cons.mp hb with rfl | hb
      · exact Nat.lt_of_succ_lt q1
      · rw [List.mem_singleton.mp hb]; exact Nat.lt_trans lt (Nat.lt_of_succ_lt q1)
  · rw [Moved.eq_with hm]
    refine hq s'.heap t' s'.toks fun b o e => hm.heap b o (fun z => ?_) (hk b o (Heap.get?_push_of_some _ e))
    have hb := Heap.lt_size e
    rcases List.mem_cons.mp z with rfl | z
    · exact absurd hb (Nat.not_lt.mpr (Nat.le_succ _))
    · rw [List.mem_singleton.mp z] at hb
      exact Nat.lt_irrefl _ hb
end
end Ac
namespace L2
open PySem PySem.Spec PyProof.Rows
section
variable {X : Cx}
/-- sum(accumulate(t)) of a tuple or a list of ints -/
def tSumAc2 (K : PySem.W.Frag) (ta : TA) : TE := fun σ H Q => ta σ H fun vs H2 => ∃ (q : Addr) (ns : List Int), vs = [V.ref q] ∧ (SqL K H2 q (ns.map V.int) ∨ SqT K H2 q (ns.map V.int)) ∧ Q (.int (accI 0 ns)) H2
theorem pe_sumAc2 {e : Expr} {ta : TA} {p0 pos p pos2 : Pos} (hc : X.calm = true) (hgs : Gl X "sum") (hms : X.mg "sum" = none) (hg : Gl X "accumulate") (hm : X.mg "accumulate" = some (.type "itertools.accumulate")) (ha : PA X [e] ta)
    (hs1 : starEach [.Call (.Name "accumulate" p) [e] [] pos2] X.env = (false, eval (.Call (.Name "accumulate" p) [e] [] pos2) X.env) :: starEach [] X.env := by rfl)
    (hp1 : (backTo pos (starEach [] X.env)).any (·.1) = false := by rfl) (hs : starEach [e] X.env = (false, eval e X.env) :: starEach [] X.env := by rfl) (hpl : (backTo pos2 (starEach [] X.env)).any (·.1) = false := by rfl) :
    PE X (.Call (.Name "sum" p0) [.Call (.Name "accumulate" p) [e] [] pos2] [] pos) (tSumAc2 X.K ta) := by
  refine ⟨fun pins s σ H Q I h => ?_⟩
  refine wpAny_Call_Name_kw (ld_blt I hgs hms boot_sum ?_)
  refine PyProof.Rows.callWith_builtin1 ?_ hs1 hp1
  rw [hs1]
  show wpAny _ _ (spliced ((false, eval (.Call (.Name "accumulate" p) [e] [] pos2) X.env) :: backTo pos (starEach [] X.env))) _ _ s
  refine Calls.spliced_cons ?_
  refine wpAny_Call_Name_kw (ld_glob I hg hm ?_ (by decide))
  refine PyProof.Rows.callWith_type1 ?_ hs hpl
  refine thn (ha.run pos2 pins s σ H _ I h) fun us s3 ⟨vs, H2, I3, r3, q3⟩ => ?_
  obtain ⟨q, ns, rfl, hq, q3⟩ := q3
  rw [Vals.ref1 r3]
  have fin : ∀ {its : List Value} (rv : Vals (ns.map V.int) its) (h' : Heap) (t' : Tok) (k : Nat), (∀ b o, s3.heap.get? b = some o → h'.get? b = some o) → EP X pins σ Q (.int (preSum (fun i => preSum (fun i : Nat => ns[i]?.getD 0) (i + 1)) its.toArray.size) t') { s3 with heap := h', toks := k } := fun {its} rv h' t' k hk => by
    have e : its.toArray.size = ns.length := by have := rv.length; rw [List.length_map] at this; simp only [List.size_toArray]; omega
    rw [e, pre_acc ns _ val_get]
    exact ⟨.int _, H2, I3.kept hk, ⟨t', rfl⟩, q3⟩
  rcases hq with hq | hq
  · obtain ⟨its, rv, hl, _⟩ := I3.list hq
    exact wpAny_mono (Ac.sum_accL (val := fun i : Nat => ns[i]?.getD 0) (Q := EP X pins σ Q) (E := X.xe) (I3.ok.hd hc) hl.isList (ints_val rv) (fin rv)) (fun v s4 h4 => Calls.spliced_nil h4) fun _ _ z => z
  · obtain ⟨its, rv, hl, _⟩ := I3.tuple hq
    exact wpAny_mono (Ac.sum_acc (val := fun i : Nat => ns[i]?.getD 0) (Q := EP X pins σ Q) (E := X.xe) (I3.ok.hd hc) hl (ints_val rv) (fin rv)) (fun v s4 h4 => Calls.spliced_nil h4) fun _ _ z => z
theorem w_sumAc2 {K : PySem.W.Frag} {ta : TA} {σ : St} {H : Hp} {Q : VK} (h : ta σ H fun vs H2 => ∃ (q : Addr) (ns : List Int), vs = [V.ref q] ∧ (SqL K H2 q (ns.map V.int) ∨ SqT K H2 q (ns.map V.int)) ∧ Q (.int (accI 0 ns)) H2) : tSumAc2 K ta σ H Q := h
end
end L2
end

section
-- part Fgn
set_option Elab.async false
set_option linter.all false
set_option maxRecDepth 100000
set_option maxHeartbeats 2000000
/-! Fgn: any, all of a test over a tuple of ints, the def's table of code objects kept by names -/
namespace GnI
open PySem PySem.Spec PyProof.Rows L2 LamX
open GxR (GenS keeps_refl keeps_tok sh_eta passing_true)
/-- the test of an int -/
def EltI (prog : Program) (w : World) (scope : Scope) (x : Str) (elt : Expr) (pb : Int → Bool) : Prop :=
  ∀ (ce : Env) (B : Around) (F : Value → Shared → Prop) (c : Int) (t : Tok) (z : Shared) (m : Str → Option Value), ce.scope = scope → z.heap.Ns ce.locals m → m x = some (.int c t) →
    wpAny (model prog w) B (eval elt ce) (fun y z' => y = .bool (pb c) ∧ Keeps z z') F z
/-- x != k -/
theorem eltI_ne {prog : Program} {w : World} {scope : Scope} {x : Str} {k : Int} {j : Nat} {p1 p2 p3 : Pos} (hk : scope.kind = .function) (hl : scope.names.lookup x = some .local) (hd : (x == ("__debug__" : Str)) = false := by decide) :
    EltI prog w scope x (.Compare (.Name x p1) [.NotEq] [.Constant (.int k) j p2] p3) (fun c => c != k) := by
  intro ce B F c t z m hs hn hm
  refine wpAny_Compare1 (wpAny_Name (wpAny_loadName_local (by rw [hs]; exact hk) (show ce.scope.names.lookup x = some .local by rw [hs]; exact hl) hn hm ?_) hd)
  refine wpAny_Constant_int ?_
  exact PyProof.Rows.ne_int ⟨rfl, keeps_tok _ _⟩
def genSB (scope : Scope) (x : Str) : Bool := decide (scope.kind = .function) && !scope.isCoroutine && decide (scope.names.lookup (".0" : Str) = some NameKind.local) && decide (scope.names.lookup x = some .local) && scope.names.all fun y => !decide (y.2 = .cell) && !decide (y.2 = .free)
theorem genS_by {env : Env} {scope : Scope} {x : Str} (h : genSB scope x = true) : GenS env scope x := by
  unfold genSB at h
  simp only [Bool.and_eq_true, Bool.not_eq_true', decide_eq_true_eq, decide_eq_false_iff_not, List.all_eq_true] at h
  obtain ⟨⟨⟨⟨h1, h2⟩, h3⟩, h4⟩, h5⟩ := h
  exact ⟨h1, h2, fun y hy => (h5 y hy).1, h3, h4, fun y hy e => absurd e (h5 y hy).2⟩
/-- the test at place j -/
def trI (pb : Int → Bool) (l : List Int) (j : Nat) : Bool := (l[j]?).elim false pb
theorem trI_some {pb : Int → Bool} {l : List Int} {j : Nat} {b : Int} (h : l[j]? = some b) : trI pb l j = pb b := by show (l[j]?).elim false pb = pb b; rw [h]; rfl
theorem any_trI (l : List Int) (pb : Int → Bool) : (List.range l.length).any (trI pb l) = l.any pb := by
  rw [Bool.eq_iff_iff, List.any_eq_true, List.any_eq_true]
  refine ⟨fun ⟨j, hj, h⟩ => ?_, fun ⟨b, hb, h⟩ => ?_⟩
  · have hl := List.mem_range.mp hj
    exact ⟨l[j], List.getElem_mem hl, by rw [← trI_some (pb := pb) (List.getElem?_eq_getElem hl)]; exact h⟩
  · obtain ⟨j, hl, e⟩ := List.getElem_of_mem hb
    exact ⟨j, List.mem_range.mpr hl, by rw [trI_some (List.getElem?_eq_getElem hl), e]; exact h⟩
theorem all_trI (l : List Int) (pb : Int → Bool) : (List.range l.length).all (trI pb l) = l.all pb := by
  rw [Bool.eq_iff_iff, List.all_eq_true, List.all_eq_true]
  refine ⟨fun h b hb => ?_, fun h j hj => ?_⟩
  · obtain ⟨j, hl, e⟩ := List.getElem_of_mem hb
    have := h j (List.mem_range.mpr hl)
    rwa [trI_some (List.getElem?_eq_getElem hl), e] at this
  · have hl := List.mem_range.mp hj
    rw [trI_some (List.getElem?_eq_getElem hl)]
    exact h _ (List.getElem_mem hl)
variable {X : Cx} {pins : List (Addr × Obj)} {σ : L2.St} {H : Hp} {s : Shared}
/-- the generator g over the ints ns, ready to be walked, in the state z -/
def Ready (X : Cx) (pins : List (Addr × Obj)) (σ : L2.St) (H1 : Hp) (T : List (Addr × Str)) (ns : List Int) (pb : Int → Bool) (g : Addr) (z : Shared) : Prop :=
  ∃ (fp wr : List Addr) (G : Array GenState → Array GenState → Prop) (F : Nat → Value → Prop) (St : Nat → Shared → Prop),
    WalksS X.prog X.w X.A.in1 g fp wr G ns.length F St ∧ St 0 z ∧ TruthOf X.prog X.w X.A.in1 F (trI pb ns) ∧ ∀ z', Moved wr G z z' → ∃ H2, ExtN H1 H2 ∧ Tabs T H2 ∧ Inv X pins σ H2 z'
theorem moved_inv {g' : Array GenState} {d' : Drawn} {t' : Nat} {h' : Heap} (I : Inv X pins σ H s) (k : ∀ b o, s.heap.get? b = some o → h'.get? b = some o) (hg : AllBare g') : Inv X pins σ H { s with heap := h', gens := g', drawn := d', toks := t' } := by
  refine I.step (g' := g') (d' := d') (ch := []) (fun b hb => nomatch hb) (fun b o _ _ _ e n => k b o e) (fun b o _ _ _ e n => ⟨o.slots, k b o e⟩) (fun b o _ e n => n) (fun b o _ e => ⟨o, k b o e⟩) (fun b xs e => e) (fun b o u e => e) (fun b qs e => by rw [e]; exact ⟨#[], by simp⟩)
    (fun m hn => ?_) (fun b u e => (I.hok b u e).stay (fun d v _ q => k d v q) (fun d q => q) fun d xs q => q) hg
  obtain ⟨ob, es, ep, ho, r⟩ := hn
  exact ⟨ob, es, ep, k _ ob ho, r⟩
theorem gen_ints {T : List (Addr × Str)} {c P : Addr} {elt iter : Expr} {x : Str} {px gpos : Pos} {scope : Scope} {pb : Int → Bool} {te : TE} {k : Nat} {Q' : Value → Shared → Prop} {R : Addr → List Int → Hp → Prop}
    (hr : Room k X.A) (TB : TabB X.base X.mg c P) (hcode : X.env.code = .ref c) (hm : (P, X.env.qual ++ "<genexpr>") ∈ T) (hu : ∀ p ∈ T, p.1 = P → p.2 = X.env.qual ++ "<genexpr>") (S : GenS X.env scope x) (hi : PE X iter te) (hel : EltI X.prog X.w scope x elt pb)
    (hs : ∀ v, genFold iter X.env v = pure v) (I : Inv X pins σ H s) (h : te σ H fun v H1 => ∃ a ns, v = .ref a ∧ SqT X.K H1 a (ns.map V.int) ∧ Tabs T H1 ∧ R a ns H1)
    (hQ : ∀ a ns H1 g z, R a ns H1 → Ready X pins σ H1 T ns pb g z → Q' (.ref g) z) : wpAny (model X.prog X.w) X.A (eval (.GeneratorExp elt [⟨.Name x px, iter, [], 0⟩] scope gpos) X.env) Q' X.xe s := by
  refine wpAny_GeneratorExp_walksQ hr.hd S.co (closure_ok S.free) S.cell S.dot S.loc S.kind (by have := hr.dp; omega) (thn (hi.run pins s σ H _ I h) fun xv s1 ⟨v, H1, I1, r1, q1⟩ => ?_) hs
  obtain ⟨a, ns, rfl, hS, hT, q1⟩ := q1
  obtain ⟨its, rv, ht, _⟩ := I1.tuple hS
  cases r1
  have la : a < s1.heap.objs.size := by obtain ⟨o, ho, _⟩ := id ht; exact Heap.lt_size ho
  have hlen : its.toArray.size = ns.length := by have := rv.length; rw [List.length_map] at this; simp only [List.size_toArray]; omega
  have hval : ∀ (i : Nat) (u : Value), its.toArray[i]? = some u → ∃ b t, ns[i]? = some b ∧ u = .int b t := fun i u e => by
    have e' : its[i]? = some u := by simpa using e
    have hl : i < ns.length := by have := (List.getElem?_eq_some_iff.mp e').1; rw [← hlen]; simpa using this
    obtain ⟨u2, e2, r2⟩ := rv.get (i := i) (x := V.int ns[i]) (by rw [List.getElem?_map, List.getElem?_eq_getElem hl]; rfl)
    rw [e'] at e2
    cases e2
    obtain ⟨t, rfl⟩ := r2
    exact ⟨_, t, List.getElem?_eq_getElem hl, rfl⟩
  obtain ⟨ps, hP, htr, hnm⟩ := hT _ hm
  refine wpAny_pyIter_tuple ht ?_
  have hPs : s1.heap.get? P = some { cls := .none, data := .fields ps } := I1.hok P _ hP
  have haP : a ≠ P := fun z => by
    obtain ⟨o, ho, hc, _⟩ := id ht
    rw [z, hPs] at ho
    cases ho
    cases hc
  have hPlt : P < s1.heap.objs.size := Heap.lt_size hPs
  obtain ⟨N, eN⟩ : ∃ N : Nat, N = s1.heap.objs.size := ⟨_, rfl⟩
  obtain ⟨o, eo⟩ : ∃ o : Obj, o = { cls := .type "tuple_iterator", data := .fields #[.ref a, .int 0 0] } := ⟨_, rfl⟩
  rw [← eo]
  have sz2 : (s1.heap.push o).objs.size = N + 1 := by rw [Heap.size_push, ← eN]
  have kp2 : ∀ b u, s1.heap.get? b = some u → (s1.heap.push o).get? b = some u := fun b u e => Heap.get?_push_of_some _ e
  have hit : (s1.heap.push o).IsTupleIter N a 0 := by rw [eN, eo]; exact ⟨_, Heap.get?_push_size _ rfl, rfl, rfl⟩
  have cd : PySem.W.CodeHd (s1.heap.push o) c P := TB.code.keeps fun b u e => kp2 b u (I1.bk b u e)
  have lim2 : (s1.heap.push o).NoLimit := I1.nolimit.push o
  have W : ∀ B : Around, B.handled = none → Walks X.prog X.w B N [N, a] [N] its.toArray.size (fun i u => its.toArray[i]? = some u) (fun i hh => hh.IsTupleIter N a i ∧ hh.IsTuple a its.toArray) := fun B hB => Walks.tuple hB N a (by rw [eN]; exact Nat.ne_of_lt la) its.toArray
  have cont : ∀ (code : Value) (h3 : Heap) (tk : Nat), Heap.ExtBut P (s1.heap.push o) h3 → (s1.heap.push o).objs.size ≤ h3.objs.size →
      (∀ (h' : Heap) (t' : Nat), (∀ b u, b ≠ N → h3.get? b = some u → h'.get? b = some u) → ∃ H3, ExtN H1 H3 ∧ Tabs T H3 ∧ Inv X pins σ H3 { s1 with heap := h', toks := t' }) →
      wpAny (model X.prog X.w) X.A (builtinsFor X.env.globals X.env.builtins) (fun bi z =>
        ∃ Ia fp wr n₀ Pf St₀ pz F, Value.ref N = .ref Ia ∧ (∀ B : Around, B.handled = none → Walks X.prog X.w B Ia fp wr n₀ Pf St₀) ∧ St₀ 0 z.heap ∧ (∀ b ∈ fp, b < z.heap.objs.size) ∧ z.heap.NoLimit ∧ cStatics ∉ wr ∧
          (∀ hz : Heap, (∀ b o, z.heap.get? b = some o → hz.get? b = some o) →
            QuietGen X.prog X.w (genEnv scope (cloFrom X.env.cells scope.names []) z.heap.objs.size code bi X.env) x [] elt (List.range z.heap.objs.size) wr Pf pz F hz) ∧
          (∀ a h₅ tk gs, gs.bare = true → z.heap.objs.size < a → h₅.objs.size = a + 1 → (∀ b o, z.heap.get? b = some o → h₅.get? b = some o) →
            WalksS X.prog X.w X.A.in4 a (a :: z.heap.objs.size :: List.range z.heap.objs.size) (z.heap.objs.size :: wr) (GenOnlyQ z.gens.size) (passing pz n₀ 0).length
              (fun j y => ∃ i, (passing pz n₀ 0)[j]? = some i ∧ F i y) (GenAt X.prog X.w X.A.in4 a z.gens.size z.heap.objs.size (List.range z.heap.objs.size) wr pz n₀ F) →
            GenAt X.prog X.w X.A.in4 a z.gens.size z.heap.objs.size (List.range z.heap.objs.size) wr pz n₀ F 0 { z with gens := z.gens.push gs, toks := tk, heap := h₅ } →
            Q' (.ref a) { z with gens := z.gens.push gs, toks := tk, heap := h₅ })) X.xe { s1 with heap := h3, toks := tk } := by
    intro code h3 tk hx hsz hI
    obtain ⟨bm, ob, e1, e2, e3, e4, e5, e6, e7, e8⟩ := TB.bm
    have hsz' : N + 1 ≤ h3.objs.size := by rw [← sz2]; exact hsz
    have keep3 : ∀ b u, b ≠ P → s1.heap.get? b = some u → h3.get? b = some u := fun b u hb e => hx b u hb (kp2 b u e)
    have hclt : cStatics < N := by rw [eN]; exact let ⟨_, hns, _⟩ := I1.nolimit; hns.lt
    refine wpAny_builtinsFor (m := X.mg) (by rw [I1.ok.glob]; exact ((I1.mod.glob.keeps I1.bk).push o).extBut hx TB.gP) e1 e2 (keep3 _ _ e4 (I1.bk _ _ e5)) e6 e7 e8 ?_
    have itP : N ≠ P := fun z => by rw [eN] at z; exact Nat.ne_of_lt hPlt z.symm
    have hta : h3.IsTuple a its.toArray := by
      obtain ⟨o1, g1, r1⟩ := ht
      exact ⟨o1, keep3 a o1 haP g1, r1⟩
    obtain ⟨_, _, _, I3⟩ := hI h3 tk fun b u _ e => e
    refine ⟨N, [N, a], [N], its.toArray.size, _, _, (fun _ => true), (fun i y => ∃ b, ns[i]? = some b ∧ y = .bool (pb b)), rfl, W, ⟨hit.at fun u e => hx N u itP e, hta⟩, fun b hb => ?_, I3.nolimit, fun z => ?_, fun hz hhz => ?_, fun g h5 tk5 gs hgb hag hsz5 hk5 W5 hat => ?_⟩
    · show b < h3.objs.size
      rcases List.mem_cons.mp hb with z | hb
      · rw [z]; exact Nat.lt_of_lt_of_le (Nat.lt_succ_self N) hsz'
      · rw [List.mem_singleton.mp hb]; exact Nat.lt_of_lt_of_le (Nat.lt_succ_of_lt (eN ▸ la)) hsz'
    · rw [List.mem_singleton.mp z] at hclt
      exact Nat.lt_irrefl _ hclt
    · refine ⟨fun B F' i v s₂ m₂ hB hPv hn hm hk => ?_, fun B F' i v s₂ m₂ hB hPv hp hn hm hk => ?_⟩
      · simp only [List.forIn_nil]
        exact wpAny_pure ⟨rfl, keeps_refl _⟩
      · obtain ⟨b, u, hb, rfl⟩ := hval i v hPv
        exact wpAny_mono (hel _ B F' b u s₂ m₂ rfl hn hm) (fun y s3 r => ⟨⟨b, hb, r.1⟩, r.2⟩) fun _ _ e => e
    · simp only [GxR.passing_true, List.length_range, hlen] at W5
      refine hQ a ns H1 g _ q1 ⟨_, _, _, _, _, W5.in4_1, by rw [hlen] at hat; exact hat, fun j y sj Qj Ej hy hQj => ?_, fun z' hmv => ?_⟩
      · obtain ⟨i, hij, b, hb, rfl⟩ := hy
        obtain ⟨hj, ej⟩ := List.getElem?_eq_some_iff.mp hij
        rw [List.getElem_range] at ej
        subst ej
        have hQ2 : Qj (trI pb ns j) sj := hQj
        rw [trI_some hb] at hQ2
        exact wpAny_truthy_bool hQ2
      · obtain ⟨H3, eN3, hT3, I4⟩ := hI z'.heap z'.toks fun b u hb e => hmv.heap b u (fun z => by
          rcases List.mem_cons.mp z with z | z
          · rw [z] at e
            exact Nat.lt_irrefl _ (Heap.lt_size e)
          · exact hb (List.mem_singleton.mp z)) (hk5 b u e)
        have J := moved_inv (g' := z'.gens) (d' := z'.drawn) (t' := z'.toks) (h' := z'.heap) I4 (fun b u e => e) (AllBare.movedS (I1.bare.push hgb) hmv)
        have J2 := sh_eta { s1 with heap := h3, toks := tk } z' hmv.os
        rw [← J2]
        exact ⟨H3, eN3, hT3, J⟩
  subst eN
  refine ⟨lim2, ?_⟩
  have hP2 : (s1.heap.push o).get? P = some { cls := .none, data := .fields ps } := kp2 _ _ hPs
  have nN : ∀ b u, s1.heap.get? b = some u → b ≠ s1.heap.objs.size := fun b u e => Nat.ne_of_lt (Heap.lt_size e)
  cases hf : codeAmong gpos ps.toList with
  | none =>
    refine wpAny_genexprCodeX hcode (cd.code hP2 htr) (cd.tab hP2) hf fun c' h' tk hx hge hlt hco' hrec htab' _ => ?_
    obtain ⟨c2, oc, vs, t, e2, hoc, hd, hv⟩ := hrec
    cases e2
    have hge1 : s1.heap.objs.size + 1 ≤ c' := by rw [← sz2]; exact hge
    have hge' : s1.heap.objs.size ≤ c' := Nat.le_of_succ_le hge1
    have nC : H1 c' = none := I1.hok.fresh hge'
    have hE : ExtN H1 (upd (upd H1 P (.tbl (ps ++ #[rawInt gpos.line, rawInt gpos.col, .ref c']))) c' (CodeO c' (X.env.qual ++ "<genexpr>"))) := fun b u e n => by
      rw [upd_ne (ne_of_none e nC), upd_ne (fun z => n ps (Option.some.inj (e.symm.trans (by rw [z]; exact hP))))]
      exact e
    have eL : (ps ++ #[rawInt gpos.line, rawInt gpos.col, .ref c']).toList = ps.toList ++ [rawInt gpos.line, rawInt gpos.col, .ref c'] := by simp
    refine cont _ h' tk hx (Nat.le_trans hge (Nat.le_of_lt hlt)) fun h'' t'' k'' => ⟨_, hE, fun p hp => ?_, inv_table (t' := t'') (more := #[rawInt gpos.line, rawInt gpos.col, .ref c']) (h' := h'') I1 hP (fun b u hb e => k'' b u (nN b u e) (hx b u hb (kp2 b u e))) (k'' P _ (nN _ _ hPs) htab'.2) hge' ⟨oc, vs, t, k'' c' _ (Nat.ne_of_gt hge1) hoc, hd, hv⟩⟩
    by_cases hb : p.1 = P
    · rw [hu p hp hb, hb]
      refine ⟨_, by rw [upd_ne (ne_of_none hP nC), upd_same], by rw [eL]; exact PySem.TriplesOk_snoc _ _ _ _ htr, fun p' cv hcv => ?_⟩
      rw [eL] at hcv
      rcases among_app _ htr hcv with z | z
      · obtain ⟨c0, e1, e2⟩ := hnm p' cv z
        exact ⟨c0, e1, hE _ _ e2 codeO_ne⟩
      · exact ⟨c', z, upd_same⟩
    · obtain ⟨ps', a1, a2, a3⟩ := hT p hp
      refine ⟨ps', by rw [upd_ne (ne_of_none a1 nC), upd_ne hb]; exact a1, a2, fun p' cv hcv => ?_⟩
      obtain ⟨c0, e1, e2⟩ := a3 p' cv hcv
      exact ⟨c0, e1, hE _ _ e2 codeO_ne⟩
  | some cv =>
    refine wpAny_genexprCode_hit hcode (cd.code hP2 htr) hf ?_
    exact cont cv (s1.heap.push o) s1.toks (Heap.ExtBut.refl _ _) (Nat.le_refl _) fun h'' t'' k'' => ⟨H1, ExtN.refl H1, hT, I1.kept fun b u e => k'' b u (nN b u e) (kp2 b u e)⟩
/-- any(test for x in e), e a tuple of ints -/
def tAnyI (K : PySem.W.Frag) (T : List (Addr × Str)) (pb : Int → Bool) (te : TE) : TE := fun σ H Q => te σ H fun v H1 => ∃ (a : Addr) (ns : List Int), v = .ref a ∧ SqT K H1 a (ns.map V.int) ∧ Tabs T H1 ∧ ∀ H2, ExtN H1 H2 → Tabs T H2 → Q (.bl (ns.any pb)) H2
theorem pe_anyI {T : List (Addr × Str)} {c P : Addr} {elt iter : Expr} {x : Str} {px p pos gpos : Pos} {scope : Scope} {pb : Int → Bool} {te : TE} {k : Nat} (hr : Room k X.A) (hg : Gl X "any") (hma : X.mg "any" = none) (TB : TabB X.base X.mg c P) (hcode : X.env.code = .ref c)
    (hm : (P, X.env.qual ++ "<genexpr>") ∈ T) (hu : ∀ p ∈ T, p.1 = P → p.2 = X.env.qual ++ "<genexpr>") (S : GenS X.env scope x) (hi : PE X iter te) (hel : EltI X.prog X.w scope x elt pb) (hs : ∀ v, genFold iter X.env v = pure v)
    (he : starEach [.GeneratorExp elt [⟨.Name x px, iter, [], 0⟩] scope gpos] X.env = (false, eval (.GeneratorExp elt [⟨.Name x px, iter, [], 0⟩] scope gpos) X.env) :: starEach [] X.env := by rfl) :
    PE X (.Call (.Name "any" p) [.GeneratorExp elt [⟨.Name x px, iter, [], 0⟩] scope gpos] [] pos) (tAnyI X.K T pb te) := by
  refine ⟨fun pins s σ H Q I h => wpAny_Call_Name_kw (ld_blt I hg hma boot_any (PyProof.Rows.callWith_builtin1 ?_ he (by rfl)))⟩
  rw [he]
  show wpAny _ _ (spliced ((false, eval (.GeneratorExp elt [⟨.Name x px, iter, [], 0⟩] scope gpos) X.env) :: backTo pos (starEach [] X.env))) _ _ s
  refine Calls.spliced_cons (gen_ints (R := fun a ns H1 => ∀ H2, ExtN H1 H2 → Tabs T H2 → Q (.bl (ns.any pb)) H2) hr TB hcode hm hu S hi hel hs I h fun a ns H1 g z hR hG => Calls.spliced_nil ?_)
  obtain ⟨fp, wr, G, F, St, W, hst, htr, hI⟩ := hG
  refine call_any_walkS (W.self 0 _ _ _ hst ⟨g, fp, wr, G, _, F, St, _, rfl, W, hst, htr, fun s' hmv => ?_⟩)
  obtain ⟨H2, hE, hT, J⟩ := hI s' hmv
  exact ⟨.bl _, H2, J, rfl, by rw [any_trI ns pb]; exact hR H2 hE hT⟩
theorem w_anyI {K : PySem.W.Frag} {T : List (Addr × Str)} {pb : Int → Bool} {te : TE} {Q : VK} (h : te σ H fun v H1 => ∃ (a : Addr) (ns : List Int), v = .ref a ∧ SqT K H1 a (ns.map V.int) ∧ Tabs T H1 ∧ ∀ H2, ExtN H1 H2 → Tabs T H2 → Q (.bl (ns.any pb)) H2) : tAnyI K T pb te σ H Q := h
end GnI
end

section
-- part Fno
set_option Elab.async false
set_option linter.all false
set_option maxRecDepth 100000
set_option maxHeartbeats 2000000
/-! Fno: an instance without == of its own is not equal to a text -/
namespace NoS
open PySem PySem.Spec PyProof.Rows PySem.SeqAt L2
section
variable {M : Model} {prog : Program} {w : World} {A : Around} {E : Value → Shared → Prop} {s : Shared} {K : PySem.W.Frag} {x C : Addr} {ox : Obj} {od : Option Obj} {z : Str} {t : Tok}
theorem same_str {R : Bool → Shared → Prop} (h : R false s) : wpAny M A (isSame (.ref x) (.str z t)) R E s := wpAny_of_eq (rfl : isSame (.ref x) (.str z t) = pure false) h
theorem entryE {Q : Fin → Shared → Prop} (hq : Q (.done (.ret .notImplemented)) s) : wpAny M A (Builtin.«object.__eq__» ⟨[.ref x, .str z t], []⟩) Q E s := by
  unfold Builtin.«object.__eq__»
  repeat (first | with_reducible refine same_str ?_ | wp_step)
  exact hq
theorem callE {Q : Value → Shared → Prop} (X : K.In s.heap) (I : PySem.W.InstAt s.heap x ox C od) (hm : PySem.W.mroIn K C (.type "object") = some true) (hq : Q .notImplemented s) : wpAny (model prog w) A (call (.builtin "object.__eq__") [.ref x, .str z t]) Q E s :=
  wpAny_call (codeAny_call_builtin F.cmp_object.eq.plain F.cmpEntry_eq (PySem.W.check_slot F.cmpKind_eq F.cmpSplit_eq (I.type.andThen (PySem.W.looks_mroIn X hm)) (F.cmpArgs_eq _ _) (entryE hq)))
theorem ifBoundN {args : List Value} {Q : Option Value → Shared → Prop} (X : K.In s.heap) (I : PySem.W.InstAt s.heap x ox C od) (hs : PySem.W.findIn K (.ref C) "__ne__" = some (some (.builtin "object.__ne__")))
    (h : wpAny M A (call (.builtin "object.__ne__") (.ref x :: args)) (fun v => Q (some v)) E s) : wpAny M A (callSpecialIfBound? (.ref x) "__ne__" args) Q E s := by
  simp only [callSpecialIfBound?, bindSpecialIfBound?]
  refine wpAny_holding (wpAny_bind (wpAny_bind (wpAny_bind (I.type.here ((PySem.W.looks_findIn X hs).here (wpAny_bind (wpAny_askSetting (wpAny_ite ?_))))))))
  have fin : wpAny M A (call (.builtin "object.__ne__") ([.ref x] ++ args) >>= fun v => pure (some v)) Q E s := wpAny_bind (wpAny_mono h (fun v s' h' => wpAny_pure h') fun _ _ h' => h')
  split
  · exact wpAny_bind (wpAny_of_eq (F.cmp_object.ne.bind _) (wpAny_pure (by exact fin)))
  · exact wpAny_tryCatch (wpAny_bind (wpAny_of_eq (F.cmp_object.ne.bind _) (wpAny_pure (by exact fin))))
theorem entryN {Q : Fin → Shared → Prop} (hu : A.units < cLine) (X : K.In s.heap) (I : PySem.W.InstAt s.heap x ox C od) (hm : PySem.W.mroIn K C (.type "object") = some true) (hs : PySem.W.findIn K (.ref C) "__eq__" = some (some (.builtin "object.__eq__")))
    (hq : Q (.done (.ret .notImplemented)) s) : wpAny (model prog w) A (Builtin.«object.__ne__» ⟨[.ref x, .str z t], []⟩) Q E s := by
  unfold Builtin.«object.__ne__»
  repeat (first | with_reducible refine wpAny_cRoomFor hu ?_ | with_reducible refine HN.ifBound_objEq X I hs (callE X I hm ?_) | wp_step)
  exact hq
theorem callN {Q : Value → Shared → Prop} (hu : A.units + 1 < cLine) (X : K.In s.heap) (I : PySem.W.InstAt s.heap x ox C od) (hm : PySem.W.mroIn K C (.type "object") = some true) (hs : PySem.W.findIn K (.ref C) "__eq__" = some (some (.builtin "object.__eq__"))) (hq : Q .notImplemented s) :
    wpAny (model prog w) A (call (.builtin "object.__ne__") [.ref x, .str z t]) Q E s :=
  wpAny_call (codeAny_call_builtin F.cmp_object.ne.plain F.cmpEntry_ne (PySem.W.check_slot F.cmpKind_ne F.cmpSplit_ne (I.type.andThen (PySem.W.looks_mroIn X hm)) (F.cmpArgs_ne _ _) (entryN (A := A.in1) hu X I hm hs hq)))
theorem subS : PySem.W.subIn K (.type "str") (.ref C) = some false := by
  have e : fastBuiltinMro "str" = some [.type "str", .type "object"] := by decide +kernel
  show (fastBuiltinMro "str").map (·.contains (.ref C)) = some false
  rw [e]
  first
    | rfl
    | simp
theorem strNe {Q : Fin → Shared → Prop} {dx : Addr} (I : s.heap.get? x = some (PySem.W.instObj C dx)) (hq : Q (.done (.ret .notImplemented)) s) : wpAny (model prog w) A (Builtin.«str.__ne__» ⟨[.str z t, .ref x], []⟩) Q E s := by
  obtain ⟨hp, g, d, tk, os⟩ := s
  wp_walk
  exact hq
theorem rcNe {dx : Addr} {Q : Value → Shared → Prop} (hu : A.units + 1 < cLine) (X : K.In s.heap) (I : PySem.W.InstAt s.heap x (PySem.W.instObj C dx) C od) (hm : PySem.W.mroIn K C (.type "object") = some true) (he : PySem.W.findIn K (.ref C) "__eq__" = some (some (.builtin "object.__eq__")))
    (hn : PySem.W.findIn K (.ref C) "__ne__" = some (some (.builtin "object.__ne__"))) (h : Q (.bool true) s) : wpAny (model prog w) A (richCompare .NotEq (.ref x) (.str z t)) Q E s := by
  have hu0 : A.units < cLine := Nat.lt_of_succ_lt hu
  have one : wpAny (model prog w) A (tryCompare (.ref x) "__ne__" (.str z t)) (fun r s' => r = none ∧ s' = s) E s := by
    unfold tryCompare
    exact wpAny_bind (ifBoundN X I hn (callN hu X I hm he (wpAny_pure ⟨rfl, rfl⟩)))
  have hT : s.TypeIs (.str z t) "str" := typeIs_str s z t
  have two : wpAny (model prog w) A (tryCompare (.str z t) "__ne__" (.ref x)) (fun r s' => r = none ∧ s' = s) E s :=
    wpAny_tryCompare_declines hT F.slot_str_ne_refl (wpAny_call (codeAny_call_builtin F.slot_str_ne_refl.plain F.entry_str_ne (F.slot_str_ne_refl.check _ _ _ _ _ _ _ _ hT (F.args_str_ne_2 _ _) (strNe I.at_ ⟨rfl, rfl, rfl⟩))))
  simp only [richCompare, cmpInfo_NotEq, oneThing_ref]
  refine wpAny_holding (wpAny_bind (wpAny_cRoomFor hu0 ?_))
  refine wpAny_bind (I.type.here ?_)
  refine wpAny_bind (wpAny_typeOf hT ?_)
  split
  · refine wpAny_bind ((PySem.W.looks_subIn X subS).here ?_)
    simp only [Bool.false_eq_true, if_false, Bool.not_false, if_true]
    refine wpAny_bind (m := tryCompare (.ref x) _ (.str z t)) (wpAny_mono one (fun r s1 q => ?_) fun _ _ e => e)
    obtain ⟨q1, q2⟩ := q
    subst q1 q2
    refine wpAny_bind (m := tryCompare (.str z t) _ (.ref x)) (wpAny_mono two (fun r s2 q => ?_) fun _ _ e => e)
    obtain ⟨q1, q2⟩ := q
    subst q1 q2
    exact wpAny_bind (wpAny_rule (wpAny_bind (wpAny_of_eq (rfl : isSame (.ref x) (.str z t) = pure false) (wpAny_pure h))))
  · rename_i q
    exact absurd (by simp) q
end
end NoS
namespace L2
open PySem PySem.Spec PyProof.Rows
/-- the class C has no == of its own -/
structure NoEq (K : PySem.W.Frag) (C : Addr) : Prop where
  mro : PySem.W.mroIn K C (.type "object") = some true
  eq : PySem.W.findIn K (.ref C) "__eq__" = some (some (.builtin "object.__eq__"))
  ne : PySem.W.findIn K (.ref C) "__ne__" = some (some (.builtin "object.__ne__"))
/-- x != 't', x a text or an instance -/
def rNeO (K : PySem.W.Frag) : R2 := fun x y H Q => ∃ z, y = .str z ∧ ((∃ a, x = .str a ∧ Q (.bl (!decide (V.str a = V.str z))) H) ∨ ∃ a C dx fs, x = .ref a ∧ H a = some (.ins C dx fs) ∧ NoEq K C ∧ Q (.bl true) H)
theorem op_neO {X : Cx} (hu : X.A.units + 64 < cLine) : OpR X (compareOp .NotEq) (rNeO X.K) := by
  intro pins s σ H x y v u Q I rx ry h
  obtain ⟨z, rfl, h⟩ := h
  rcases h with ⟨a, rfl, q⟩ | ⟨a, C, dx, fs, rfl, ha, N, q⟩
  · exact op_ne pins s σ H _ _ v u Q I rx ry ⟨rfl, q⟩
  · cases rx
    obtain ⟨t, rfl⟩ := ry
    obtain ⟨mA, O, _⟩ := ins_get I.hok ha
    obtain ⟨od, J, _⟩ := O.look
    exact NoS.rcNe (by omega) I.kIn J N.mro N.eq N.ne ⟨.bl true, H, I, rfl, q⟩
theorem w_neOs {K : PySem.W.Frag} {a b : Str} {H : Hp} {Q : VK} (q : Q (.bl (!decide (V.str a = V.str b))) H) : rNeO K (.str a) (.str b) H Q := ⟨b, rfl, .inl ⟨a, rfl, q⟩⟩
theorem w_neOi {K : PySem.W.Frag} {a C dx : Addr} {fs : List (Str × V)} {b : Str} {H : Hp} {Q : VK} (h : H a = some (.ins C dx fs)) (n : NoEq K C) (q : Q (.bl true) H) : rNeO K (.ref a) (.str b) H Q := ⟨b, rfl, .inr ⟨a, C, dx, fs, rfl, h, n, q⟩⟩
end L2
end

section
-- part K05M
set_option Elab.async false
set_option linter.all false
set_option maxRecDepth 100000
set_option maxHeartbeats 2000000
/-! K05M: rows as bytes; core Lean -/
namespace M5
open PySem PySem.Spec PyProof.Rows L2 Fw
abbrev HI : Int := 9223372036854775807
inductive RV where
  | non
  | txt (l : List Nat)
  | num (n : Int)
deriving DecidableEq
def alphabet : List Nat := [10, 32, 33, 34, 35, 36, 38, 39, 40, 41, 42, 43, 44, 45, 46, 47, 48, 49, 50, 51, 52, 53, 54, 55, 56, 57, 58, 59, 60, 61, 62, 63, 64, 65, 66, 67, 68, 69, 70, 71, 72, 73, 74, 75, 76, 77, 78, 79, 80, 81, 82, 83, 84, 85, 86, 87, 88, 89, 90, 91, 92, 93, 94, 95, 96, 97, 98, 99, 100, 101, 102, 103, 104, 105, 106, 107, 108, 109, 110, 111, 112, 113, 114, 115, 116, 117, 118, 119, 120, 121, 122, 123, 124, 125, 126]
def sgn (c : Nat) : Nat := alphabet.findIdx (· == c)
theorem al_len : alphabet.length = 95 := by decide +kernel
theorem sgn_ok {c : Nat} (h : c ∈ alphabet) : sgn c < 95 ∧ alphabet[sgn c]? = some c := by
  have h2 : alphabet.all (fun c => decide (sgn c < 95 ∧ alphabet[sgn c]? = some c)) = true := by decide +kernel
  exact of_decide_eq_true (List.all_eq_true.mp h2 c h)
theorem sgn_at {i : Nat} (h : i < 95) : ∃ c ∈ alphabet, alphabet[i]? = some c ∧ sgn c = i := by
  have h2 : ∀ i < 95, (match alphabet[i]? with | some c => decide (c ∈ alphabet ∧ sgn c = i) | none => false) = true := by decide +kernel
  have h3 := h2 i h
  cases e : alphabet[i]? with
  | none => rw [e] at h3; cases h3
  | some c => rw [e] at h3; exact ⟨c, (of_decide_eq_true h3).1, rfl, (of_decide_eq_true h3).2⟩
theorem sgn_lt {c d : Nat} (hc : c ∈ alphabet) (hd : d ∈ alphabet) : sgn c < sgn d ↔ c < d := by
  have h2 : alphabet.all (fun c => alphabet.all fun d => decide (sgn c < sgn d ↔ c < d)) = true := by decide +kernel
  exact of_decide_eq_true (List.all_eq_true.mp (List.all_eq_true.mp h2 c hc) d hd)
theorem sgn_inj {c d : Nat} (hc : c ∈ alphabet) (hd : d ∈ alphabet) (h : sgn c = sgn d) : c = d := by
  have h1 := sgn_lt hc hd
  have h2 := sgn_lt hd hc
  omega
/-! bytes -/
def Byt (d : List Int) : Prop := ∀ b ∈ d, 0 ≤ b ∧ b < 256
def fixedL (n : Int) : Nat → List Int
  | 0 => []
  | k + 1 => fixedL (n / 256) k ++ [n % 256]
def fromL (d : List Int) : Int := d.foldl (fun a b => a * 256 + b) 0
theorem fromL_snoc (d : List Int) (b : Int) : fromL (d ++ [b]) = fromL d * 256 + b := by simp [fromL]
theorem fixed_len (n : Int) (k : Nat) : (fixedL n k).length = k := by
  induction k generalizing n with
  | zero => rfl
  | succ k ih => rw [fixedL, List.length_append, ih]; rfl
theorem fixed_byt (n : Int) (k : Nat) : Byt (fixedL n k) := by
  induction k generalizing n with
  | zero => intro b hb; cases hb
  | succ k ih =>
    intro b hb
    rcases List.mem_append.mp hb with hb | hb
    · exact ih _ b hb
    · rw [List.mem_singleton.mp hb]; omega
theorem from_fixed (k : Nat) : ∀ n : Int, 0 ≤ n → n < 256 ^ k → fromL (fixedL n k) = n := by
  induction k with
  | zero => intro n h0 h1; simp at h1; have : n = 0 := by omega
            subst this; rfl
  | succ k ih =>
    intro n h0 h1
    rw [fixedL, fromL_snoc, ih (n / 256) (by omega) (by rw [Int.pow_succ] at h1; omega)]
    omega
theorem fixed_from : ∀ d : List Int, Byt d → fixedL (fromL d) d.length = d := by
  intro d
  rw [← List.reverse_reverse d]
  generalize d.reverse = e
  induction e with
  | nil => intro _; rfl
  | cons b e ih =>
    intro h
    rw [List.reverse_cons] at h ⊢
    have hb := h b (by simp)
    have h2 : Byt e.reverse := fun c hc => h c (List.mem_append_left _ hc)
    rw [fromL_snoc, List.length_append, List.length_singleton, fixedL]
    have e1 : (fromL e.reverse * 256 + b) / 256 = fromL e.reverse := by omega
    have e2 : (fromL e.reverse * 256 + b) % 256 = b := by omega
    rw [e1, e2, ih h2]
theorem from_bound : ∀ d : List Int, Byt d → 0 ≤ fromL d ∧ fromL d < 256 ^ d.length := by
  intro d
  rw [← List.reverse_reverse d]
  generalize d.reverse = e
  induction e with
  | nil => intro _; exact ⟨by decide, by decide⟩
  | cons b e ih =>
    intro h
    rw [List.reverse_cons] at h ⊢
    have hb := h b (by simp)
    have h2 : Byt e.reverse := fun c hc => h c (List.mem_append_left _ hc)
    obtain ⟨i1, i2⟩ := ih h2
    rw [fromL_snoc, List.length_append, List.length_singleton, Int.pow_succ]
    omega
/-! two lists that part at a place -/
def Div (a b : List Int) (lt : Bool) : Prop := ∃ p x y a' b', a = p ++ x :: a' ∧ b = p ++ y :: b' ∧ x ≠ y ∧ lt = decide (x < y)
theorem Div.app {a b : List Int} {lt : Bool} (h : Div a b lt) (u v : List Int) : Div (a ++ u) (b ++ v) lt := by
  obtain ⟨p, x, y, a', b', rfl, rfl, n, l⟩ := h
  exact ⟨p, x, y, a' ++ u, b' ++ v, by simp, by simp, n, l⟩
theorem Div.pre {a b : List Int} {lt : Bool} (h : Div a b lt) (u : List Int) : Div (u ++ a) (u ++ b) lt := by
  obtain ⟨p, x, y, a', b', rfl, rfl, n, l⟩ := h
  exact ⟨u ++ p, x, y, a', b', by simp, by simp, n, l⟩
theorem Div.ne {a b : List Int} {lt : Bool} (h : Div a b lt) : a ≠ b := by
  obtain ⟨p, x, y, a', b', rfl, rfl, n, l⟩ := h
  intro e
  exact n (List.cons.inj (List.append_cancel_left e)).1
theorem Div.nopre {a b : List Int} {lt : Bool} (h : Div a b lt) : b.take a.length ≠ a := by
  obtain ⟨p, x, y, a', b', rfl, rfl, n, l⟩ := h
  intro e
  rw [List.take_append, List.take_of_length_le (by simp)] at e
  have e2 := List.append_cancel_left e
  have : (p ++ x :: a').length - p.length = a'.length + 1 := by simp
  rw [this, List.take_succ_cons] at e2
  exact n (List.cons.inj e2).1.symm
theorem lex_app (p a b : List Int) : HT.lexLt (p ++ a) (p ++ b) = HT.lexLt a b := by
  induction p with
  | nil => rfl
  | cons x p ih =>
    rw [List.cons_append, List.cons_append]
    simp [HT.lexLt, ih]
theorem Div.lex {a b : List Int} {lt : Bool} (h : Div a b lt) : HT.lexLt a b = lt := by
  obtain ⟨p, x, y, a', b', rfl, rfl, n, l⟩ := h
  rw [lex_app, l]
  simp [HT.lexLt, n]
theorem lex_same (a : List Int) : HT.lexLt a a = false := by
  induction a with
  | nil => rfl
  | cons x a ih => simp [HT.lexLt, ih]
theorem fixed_div (k : Nat) : ∀ n m : Int, 0 ≤ n → n < 256 ^ k → 0 ≤ m → m < 256 ^ k → n ≠ m → Div (fixedL n k) (fixedL m k) (decide (n < m)) := by
  induction k with
  | zero => intro n m h0 h1 h2 h3 hn; simp at h1 h3; omega
  | succ k ih =>
    intro n m h0 h1 h2 h3 hn
    rw [Int.pow_succ] at h1 h3
    rw [fixedL, fixedL]
    by_cases c : n / 256 = m / 256
    · refine ⟨fixedL (n / 256) k, n % 256, m % 256, [], [], rfl, by rw [c], by omega, ?_⟩
      rw [decide_eq_decide]
      omega
    · have := ih (n / 256) (m / 256) (by omega) (by omega) (by omega) (by omega) c
      have e : decide (n < m) = decide (n / 256 < m / 256) := by rw [decide_eq_decide]; omega
      rw [e]
      exact this.app _ _
/-! keys -/
def okV : RV → Prop
  | .non => True
  | .txt l => ∀ c ∈ l, c ∈ alphabet
  | .num n => -HI ≤ n ∧ n ≤ HI
def sg (l : List Nat) : List Int := l.map fun c => ((sgn c + 2 : Nat) : Int)
def keyV : RV → List Int
  | .non => [1]
  | .txt l => 3 :: (sg l ++ [1])
  | .num n => 2 :: fixedL (n + HI) 8
def keyR (r : List RV) : List Int := r.flatMap keyV
/-- as ranks compare -/
def vlt : RV → RV → Bool
  | .non, .non => false
  | .non, _ => true
  | .num _, .non => false
  | .num n, .num m => decide (n < m)
  | .num _, .txt _ => true
  | .txt _, .non => false
  | .txt _, .num _ => false
  | .txt l, .txt m => decide (l < m)
theorem sg_div : ∀ l m : List Nat, (∀ c ∈ l, c ∈ alphabet) → (∀ c ∈ m, c ∈ alphabet) → l ≠ m → Div (sg l ++ [1]) (sg m ++ [1]) (decide (l < m))
  | [], [], _, _, h => absurd rfl h
  | [], d :: m, _, _, _ => ⟨[], 1, ((sgn d + 2 : Nat) : Int), [], sg m ++ [1], rfl, rfl, by omega, by
      have e1 : decide ((1 : Int) < ((sgn d + 2 : Nat) : Int)) = true := decide_eq_true (by omega)
      have e2 : decide (([] : List Nat) < d :: m) = true := by simp
      rw [e1, e2]⟩
  | c :: l, [], _, _, _ => ⟨[], ((sgn c + 2 : Nat) : Int), 1, sg l ++ [1], [], rfl, rfl, by omega, by
      have e1 : decide (((sgn c + 2 : Nat) : Int) < 1) = false := decide_eq_false (by omega)
      have e2 : decide (c :: l < ([] : List Nat)) = false := by simp
      rw [e1, e2]⟩
  | c :: l, d :: m, hl, hm, h => by
    have hc := hl c List.mem_cons_self
    have hd := hm d List.mem_cons_self
    by_cases e : c = d
    · subst e
      have ih := sg_div l m (fun x hx => hl x (List.mem_cons_of_mem _ hx)) (fun x hx => hm x (List.mem_cons_of_mem _ hx)) (fun q => h (by rw [q]))
      have e2 : decide (c :: l < c :: m) = decide (l < m) := by
        rw [decide_eq_decide, List.cons_lt_cons_iff]
        constructor
        · rintro (z | z)
          · omega
          · exact z.2
        · exact fun z => .inr ⟨rfl, z⟩
      rw [e2]
      exact ih.pre [((sgn c + 2 : Nat) : Int)]
    · refine ⟨[], ((sgn c + 2 : Nat) : Int), ((sgn d + 2 : Nat) : Int), sg l ++ [1], sg m ++ [1], rfl, rfl, fun q => e (sgn_inj hc hd (by omega)), ?_⟩
      rw [decide_eq_decide, List.cons_lt_cons_iff]
      have := sgn_lt hc hd
      constructor
      · rintro (z | z)
        · have := this.mpr z; omega
        · exact absurd z.1 e
      · intro z
        exact .inl (this.mp (by omega))
theorem key_div : ∀ v w : RV, okV v → okV w → v ≠ w → Div (keyV v) (keyV w) (vlt v w)
  | .non, .non, _, _, h => absurd rfl h
  | .non, .txt l, _, _, _ => ⟨[], 1, 3, [], _, rfl, rfl, by decide, rfl⟩
  | .non, .num n, _, _, _ => ⟨[], 1, 2, [], _, rfl, rfl, by decide, rfl⟩
  | .txt l, .non, _, _, _ => ⟨[], 3, 1, _, [], rfl, rfl, by decide, rfl⟩
  | .num n, .non, _, _, _ => ⟨[], 2, 1, _, [], rfl, rfl, by decide, rfl⟩
  | .txt l, .num n, _, _, _ => ⟨[], 3, 2, _, _, rfl, rfl, by decide, rfl⟩
  | .num n, .txt l, _, _, _ => ⟨[], 2, 3, _, _, rfl, rfl, by decide, rfl⟩
  | .txt l, .txt m, hl, hm, h => (sg_div l m hl hm (fun e => h (by rw [e]))).pre [3]
  | .num n, .num m, hn, hm, h => by
    have hn' : -HI ≤ n ∧ n ≤ HI := hn
    have hm' : -HI ≤ m ∧ m ≤ HI := hm
    have hne : n + HI ≠ m + HI := fun e => h (by rw [show n = m by omega])
    have := fixed_div 8 (n + HI) (m + HI) (by omega) (Int.lt_of_le_of_lt (by omega : n + HI ≤ 2 * HI) (by decide)) (by omega) (Int.lt_of_le_of_lt (by omega : m + HI ≤ 2 * HI) (by decide)) hne
    have e : decide (n + HI < m + HI) = decide (n < m) := by rw [decide_eq_decide]; omega
    rw [e] at this
    exact this.pre [2]
/-- rows of as many values -/
def rlt : List RV → List RV → Bool
  | v :: r, w :: s => if v = w then rlt r s else vlt v w
  | [], _ :: _ => true
  | _, [] => false
theorem row_div : ∀ r s : List RV, r.length = s.length → (∀ v ∈ r, okV v) → (∀ v ∈ s, okV v) → r ≠ s → Div (keyR r) (keyR s) (rlt r s)
  | [], [], _, _, _, h => absurd rfl h
  | v :: r, w :: s, hl, hr, hs, h => by
    show Div (keyV v ++ keyR r) (keyV w ++ keyR s) _
    by_cases e : v = w
    · subst e
      rw [rlt, if_pos rfl]
      exact (row_div r s (by simpa using hl) (fun x hx => hr x (List.mem_cons_of_mem _ hx)) (fun x hx => hs x (List.mem_cons_of_mem _ hx)) (fun q => h (by rw [q]))).pre _
    · rw [rlt, if_neg e]
      exact (key_div v w (hr v List.mem_cons_self) (hs w List.mem_cons_self) e).app _ _
theorem rlt_same (r : List RV) : rlt r r = false := by
  induction r with
  | nil => rfl
  | cons v r ih => rw [rlt, if_pos rfl, ih]
theorem row_lex {r s : List RV} (hl : r.length = s.length) (hr : ∀ v ∈ r, okV v) (hs : ∀ v ∈ s, okV v) : HT.lexLt (keyR r) (keyR s) = rlt r s := by
  by_cases e : r = s
  · subst e
    rw [lex_same, rlt_same]
  · exact (row_div r s hl hr hs e).lex
end M5
end

section
-- part K05N
set_option Elab.async false
set_option linter.all false
set_option maxRecDepth 100000
set_option maxHeartbeats 2000000
/-! K05N: reading back; core Lean -/
namespace M5
open PySem PySem.Spec PyProof.Rows L2 Fw
/-- one sign's number read; none: no such sign -/
def chr (b : Int) : Option Nat := if 0 ≤ b ∧ b < 95 then alphabet[b.toNat]? else none
theorem chr_sgn {c : Nat} (h : c ∈ alphabet) : chr (sgn c : Int) = some c := by
  have h2 := sgn_ok h
  rw [chr, if_pos (by omega)]
  exact h2.2
theorem chr_ok {b : Int} {c : Nat} (h : chr b = some c) : c ∈ alphabet ∧ (sgn c : Int) = b := by
  rw [chr] at h
  split at h
  · rename_i h1
    obtain ⟨d, hd, e, s⟩ := sgn_at (i := b.toNat) (by omega)
    rw [e] at h
    cases h
    exact ⟨hd, by omega⟩
  · cases h
theorem chr_none {b : Int} (h : chr b = none) : ¬ (0 ≤ b ∧ b < 95) := fun h1 => by
  rw [chr, if_pos h1] at h
  obtain ⟨d, hd, e, s⟩ := sgn_at (i := b.toNat) (by omega)
  rw [e] at h
  cases h
/-- a text's signs up to the byte 1, and how many bytes it takes with it -/
def tfk : List Int → Option (List Nat × Nat)
  | [] => none
  | b :: r => if b = 1 then some ([], 1) else match chr (b - 2) with
    | none => none
    | some c => (tfk r).map fun q => (c :: q.1, q.2 + 1)
/-- a value from a key's bytes, and how many it takes -/
def vfk : List Int → Option (RV × Nat)
  | [] => none
  | b :: r =>
    if b = 1 then some (.non, 1)
    else if b = 2 then (if r.length < 8 then none else if HI < fromL (r.take 8) - HI then none else some (.num (fromL (r.take 8) - HI), 9))
    else if b = 3 then (tfk r).map fun q => (.txt q.1, q.2 + 1)
    else none
theorem tfk_len : ∀ {d : List Int} {l : List Nat} {k : Nat}, tfk d = some (l, k) → 0 < k ∧ k ≤ d.length
  | [], l, k, h => by cases h
  | b :: r, l, k, h => by
    rw [tfk] at h
    split at h
    · cases h; simp
    · split at h
      · cases h
      · obtain ⟨⟨l', k'⟩, h1, h2⟩ := Option.map_eq_some_iff.mp h
        cases h2
        have := tfk_len h1
        simp only [List.length_cons]
        omega
theorem vfk_len {d : List Int} {v : RV} {k : Nat} (h : vfk d = some (v, k)) : 0 < k ∧ k ≤ d.length := by
  cases d with
  | nil => cases h
  | cons b r =>
    rw [vfk] at h
    split at h
    · cases h; simp
    · split at h
      · split at h
        · cases h
        · split at h
          · cases h
          · cases h; simp only [List.length_cons]; omega
      · split at h
        · obtain ⟨⟨l', k'⟩, h1, h2⟩ := Option.map_eq_some_iff.mp h
          cases h2
          have := tfk_len h1
          simp only [List.length_cons]
          omega
        · cases h
theorem tfk_sg : ∀ (l : List Nat) (r : List Int), (∀ c ∈ l, c ∈ alphabet) → tfk (sg l ++ 1 :: r) = some (l, l.length + 1)
  | [], r, _ => by
    show tfk (1 :: r) = _
    rw [tfk, if_pos rfl]
    rfl
  | c :: l, r, h => by
    have ih := tfk_sg l r fun x hx => h x (List.mem_cons_of_mem _ hx)
    show tfk (((sgn c + 2 : Nat) : Int) :: (sg l ++ 1 :: r)) = _
    have e : ((sgn c + 2 : Nat) : Int) - 2 = (sgn c : Int) := by omega
    rw [tfk, if_neg (by omega), e, chr_sgn (h c List.mem_cons_self), ih]
    rfl
theorem vfk_key (v : RV) (r : List Int) (h : okV v) : vfk (keyV v ++ r) = some (v, (keyV v).length) := by
  cases v with
  | non =>
    show vfk (1 :: r) = _
    rw [vfk, if_pos rfl]
    rfl
  | txt l =>
    show vfk (3 :: (sg l ++ [1] ++ r)) = _
    rw [vfk, if_neg (by decide), if_neg (by decide), if_pos rfl, List.append_assoc]
    show Option.map _ (tfk (sg l ++ 1 :: r)) = _
    rw [tfk_sg l r h]
    show some (RV.txt l, l.length + 1 + 1) = some (RV.txt l, (3 :: (sg l ++ [1])).length)
    simp [sg]
  | num n =>
    have hn : -HI ≤ n ∧ n ≤ HI := h
    have e8 : ((fixedL (n + HI) 8) ++ r).take 8 = fixedL (n + HI) 8 := by
      rw [List.take_append, List.take_of_length_le (by rw [fixed_len]; exact Nat.le_refl _), fixed_len]
      simp
    have ef := from_fixed 8 (n + HI) (by omega) (Int.lt_of_le_of_lt (by omega : n + HI ≤ 2 * HI) (by decide))
    show vfk (2 :: (fixedL (n + HI) 8 ++ r)) = _
    rw [vfk, if_neg (by decide), if_pos rfl, if_neg (by rw [List.length_append, fixed_len]; omega), e8, ef, if_neg (by omega)]
    have e9 : n + HI - HI = n := by omega
    rw [e9]
    show some (RV.num n, 9) = some (RV.num n, (2 :: fixedL (n + HI) 8).length)
    rw [List.length_cons, fixed_len]
theorem tfk_back : ∀ {d : List Int} {l : List Nat} {k : Nat}, tfk d = some (l, k) → (∀ c ∈ l, c ∈ alphabet) ∧ sg l ++ [1] = d.take k ∧ l.length ≤ k
  | [], l, k, h => by cases h
  | b :: r, l, k, h => by
    rw [tfk] at h
    split at h
    · rename_i e
      cases h
      subst e
      exact ⟨fun c hc => absurd hc List.not_mem_nil, rfl, Nat.zero_le _⟩
    · split at h
      · cases h
      · rename_i c hc
        obtain ⟨⟨l', k'⟩, h1, h2⟩ := Option.map_eq_some_iff.mp h
        cases h2
        obtain ⟨i1, i2, i3⟩ := tfk_back h1
        obtain ⟨c1, c2⟩ := chr_ok hc
        refine ⟨fun x hx => ?_, ?_, ?_⟩
        · rcases List.mem_cons.mp hx with rfl | hx
          · exact c1
          · exact i1 x hx
        · rw [List.take_succ_cons, ← i2]
          show ((sgn c + 2 : Nat) : Int) :: (sg l' ++ [1]) = _
          rw [show ((sgn c + 2 : Nat) : Int) = b by omega]
        · show l'.length + 1 ≤ k' + 1
          omega
theorem vfk_back {d : List Int} {v : RV} {k : Nat} (hb : Byt d) (h : vfk d = some (v, k)) : okV v ∧ keyV v = d.take k := by
  cases d with
  | nil => cases h
  | cons b r =>
    rw [vfk] at h
    split at h
    · rename_i e
      cases h
      subst e
      exact ⟨trivial, rfl⟩
    · split at h
      · rename_i e
        subst e
        split at h
        · cases h
        · rename_i hl
          split at h
          · cases h
          · rename_i hh
            cases h
            have h8 : (r.take 8).length = 8 := by rw [List.length_take]; omega
            have hb8 : Byt (r.take 8) := fun c hc => hb c (List.mem_cons_of_mem _ (List.mem_of_mem_take hc))
            have bd := from_bound _ hb8
            have ff := fixed_from _ hb8
            rw [h8] at ff
            refine ⟨⟨by omega, by omega⟩, ?_⟩
            show 2 :: fixedL (fromL (r.take 8) - HI + HI) 8 = _
            rw [show fromL (r.take 8) - HI + HI = fromL (r.take 8) by omega, ff]
            rfl
      · split at h
        · rename_i e
          subst e
          obtain ⟨⟨l', k'⟩, h1, h2⟩ := Option.map_eq_some_iff.mp h
          cases h2
          obtain ⟨i1, i2, _⟩ := tfk_back h1
          exact ⟨i1, by rw [List.take_succ_cons, ← i2]; rfl⟩
        · cases h
/-- all values of a key; the fuel: more than its bytes -/
def vsk : Nat → List Int → Option (List RV)
  | 0, _ => none
  | f + 1, d => if d = [] then some [] else match vfk d with
    | none => none
    | some (v, k) => (vsk f (d.drop k)).map (v :: ·)
theorem vsk_key : ∀ (r : List RV) (f : Nat), (∀ v ∈ r, okV v) → r.length < f → vsk f (keyR r) = some r
  | [], f + 1, _, _ => by rw [vsk]; rfl
  | v :: r, f + 1, h, hf => by
    have hv := vfk_key v (keyR r) (h v List.mem_cons_self)
    have ne : keyR (v :: r) ≠ [] := by cases v <;> simp [keyR, keyV]
    have e : keyR (v :: r) = keyV v ++ keyR r := rfl
    rw [vsk, if_neg ne, e, hv]
    show Option.map _ (vsk f ((keyV v ++ keyR r).drop (keyV v).length)) = _
    rw [List.drop_append, List.drop_of_length_le (Nat.le_refl _), Nat.sub_self, List.drop_zero, List.nil_append, vsk_key r f (fun x hx => h x (List.mem_cons_of_mem _ hx)) (by simpa using hf)]
    rfl
theorem byt_drop {d : List Int} (h : Byt d) (k : Nat) : Byt (d.drop k) := fun b hb => h b (List.mem_of_mem_drop hb)
theorem vsk_back : ∀ {f : Nat} {d : List Int} {r : List RV}, Byt d → vsk f d = some r → (∀ v ∈ r, okV v) ∧ keyR r = d ∧ r.length ≤ d.length
  | 0, d, r, _, h => by cases h
  | f + 1, d, r, hb, h => by
    rw [vsk] at h
    split at h
    · rename_i e
      cases h
      subst e
      exact ⟨fun v hv => absurd hv List.not_mem_nil, rfl, Nat.le_refl _⟩
    · split at h
      · cases h
      · rename_i v k hv
        obtain ⟨r', h1, h2⟩ := Option.map_eq_some_iff.mp h
        subst h2
        obtain ⟨i1, i2, i3⟩ := vsk_back (byt_drop hb k) h1
        obtain ⟨o1, o2⟩ := vfk_back hb hv
        have kl := vfk_len hv
        refine ⟨fun x hx => ?_, ?_, ?_⟩
        · rcases List.mem_cons.mp hx with rfl | hx
          · exact o1
          · exact i1 x hx
        · show keyV v ++ keyR r' = d
          rw [o2, i2, List.take_append_drop]
        · rw [List.length_drop] at i3
          rw [List.length_cons]
          omega
/-! natural numbers -/
def nat7 (n : Nat) : List Int := if n < 128 then [(n : Int)] else ((n % 128 + 128 : Nat) : Int) :: nat7 (n / 128)
termination_by n
theorem nat7_lt {n : Nat} (h : n < 128) : nat7 n = [(n : Int)] := by rw [nat7, if_pos h]
theorem nat7_ge {n : Nat} (h : ¬ n < 128) : nat7 n = ((n % 128 + 128 : Nat) : Int) :: nat7 (n / 128) := by rw [nat7, if_neg h]
/-- a number read: the flag: nothing is read yet -/
def nf : Bool → List Int → Option (Nat × Nat)
  | _, [] => none
  | f, b :: r => if b < 128 then (if b = 0 ∧ f = false then none else some ((b % 128).toNat, 1)) else (nf false r).map fun q => ((b % 128).toNat + 128 * q.1, q.2 + 1)
theorem nf_len : ∀ {f : Bool} {d : List Int} {m k : Nat}, nf f d = some (m, k) → 0 < k ∧ k ≤ d.length
  | f, [], m, k, h => by cases f <;> cases h
  | f, b :: r, m, k, h => by
    rw [nf] at h
    split at h
    · split at h
      · cases h
      · cases h; simp
    · obtain ⟨⟨m', k'⟩, h1, h2⟩ := Option.map_eq_some_iff.mp h
      cases h2
      have := nf_len h1
      simp only [List.length_cons]
      omega
theorem nf_nat7 (n : Nat) : ∀ (f : Bool) (r : List Int), (f = true ∨ n ≠ 0) → nf f (nat7 n ++ r) = some (n, (nat7 n).length) := by
  induction n using Nat.strongRecOn with
  | _ n ih =>
    intro f r h
    by_cases c : n < 128
    · rw [nat7_lt c]
      show nf f ((n : Int) :: r) = _
      have c2 : ¬ ((n : Int) = 0 ∧ f = false) := fun q => by
        rcases h with h | h
        · rw [h] at q; cases q.2
        · omega
      rw [nf, if_pos (by omega), if_neg c2]
      show some (((n : Int) % 128).toNat, 1) = some (n, 1)
      rw [show ((n : Int) % 128).toNat = n by omega]
    · rw [nat7_ge c]
      show nf f (((n % 128 + 128 : Nat) : Int) :: (nat7 (n / 128) ++ r)) = _
      rw [nf, if_neg (by omega), ih (n / 128) (by omega) false r (.inr (by omega))]
      show some ((((n % 128 + 128 : Nat) : Int) % 128).toNat + 128 * (n / 128), (nat7 (n / 128)).length + 1) = some (n, (nat7 (n / 128)).length + 1)
      rw [show (((n % 128 + 128 : Nat) : Int) % 128).toNat + 128 * (n / 128) = n by omega]
theorem nf_back : ∀ {f : Bool} {d : List Int} {m k : Nat}, Byt d → nf f d = some (m, k) → nat7 m = d.take k ∧ (f = true ∨ m ≠ 0)
  | f, [], m, k, _, h => by cases f <;> cases h
  | f, b :: r, m, k, hb, h => by
    have b1 := hb b List.mem_cons_self
    rw [nf] at h
    split at h
    · rename_i c
      split at h
      · cases h
      · rename_i c2
        cases h
        refine ⟨?_, ?_⟩
        · rw [nat7_lt (by omega)]
          show [(((b % 128).toNat : Nat) : Int)] = [b]
          rw [show (((b % 128).toNat : Nat) : Int) = b by omega]
        · cases f with
          | true => exact .inl rfl
          | false => exact .inr fun e => c2 ⟨by omega, rfl⟩
    · rename_i c
      obtain ⟨⟨m', k'⟩, h1, h2⟩ := Option.map_eq_some_iff.mp h
      cases h2
      obtain ⟨i1, i2⟩ := nf_back (fun x hx => hb x (List.mem_cons_of_mem _ hx)) h1
      have hm : m' ≠ 0 := by
        rcases i2 with i2 | i2
        · cases i2
        · exact i2
      refine ⟨?_, .inr (by omega)⟩
      rw [List.take_succ_cons, ← i1, nat7_ge (by omega)]
      rw [show (((((b % 128).toNat + 128 * m') % 128 + 128 : Nat)) : Int) = b by omega, show ((b % 128).toNat + 128 * m') / 128 = m' by omega]
theorem nat7_byt (n : Nat) : Byt (nat7 n) := by
  induction n using Nat.strongRecOn with
  | _ n ih =>
    by_cases c : n < 128
    · rw [nat7_lt c]
      intro b hb
      rw [List.mem_singleton.mp hb]
      omega
    · rw [nat7_ge c]
      intro b hb
      rcases List.mem_cons.mp hb with rfl | hb
      · omega
      · exact ih (n / 128) (by omega) b hb
theorem nat7_len (k : Nat) : ∀ n : Nat, n < 128 ^ (k + 1) → (nat7 n).length ≤ k + 1 := by
  induction k with
  | zero => intro n h; rw [nat7_lt (by simpa using h)]; exact Nat.le_refl _
  | succ k ih =>
    intro n h
    by_cases c : n < 128
    · rw [nat7_lt c]; simp
    · rw [nat7_ge c, List.length_cons]
      have := ih (n / 128) (by rw [Nat.pow_succ] at h; omega)
      omega
end M5
end

section
-- part K05R
set_option Elab.async false
set_option linter.all false
set_option maxRecDepth 100000
set_option maxHeartbeats 2000000
/-! K05R: records; core Lean -/
namespace M5
open PySem PySem.Spec PyProof.Rows L2 Fw
def zz (n : Int) : Nat := if 0 ≤ n then (2 * n).toNat else (-2 * n - 1).toNat
def uz (m : Nat) : Int := if m % 2 = 0 then (m / 2 : Nat) else -((m + 1) / 2 : Nat)
theorem uz_zz (n : Int) : uz (zz n) = n := by
  unfold uz zz
  split <;> split <;> omega
theorem zz_uz (m : Nat) : zz (uz m) = m := by
  unfold uz zz
  split <;> split <;> omega
def sgR (l : List Nat) : List Int := l.map fun c => ((sgn c : Nat) : Int)
def recV : RV → List Int
  | .non => [1]
  | .txt l => 3 :: (nat7 l.length ++ sgR l)
  | .num n => 2 :: nat7 (zz n)
def recR (r : List RV) : List Int := nat7 r.length ++ r.flatMap recV
def sgs : List Int → Option (List Nat)
  | [] => some []
  | b :: r => match chr b with
    | none => none
    | some c => (sgs r).map (c :: ·)
theorem sgs_sg : ∀ l : List Nat, (∀ c ∈ l, c ∈ alphabet) → sgs (sgR l) = some l
  | [], _ => rfl
  | c :: l, h => by
    show sgs (((sgn c : Nat) : Int) :: sgR l) = _
    rw [sgs, chr_sgn (h c List.mem_cons_self), sgs_sg l fun x hx => h x (List.mem_cons_of_mem _ hx)]
    rfl
theorem sgs_back : ∀ {d : List Int} {l : List Nat}, sgs d = some l → (∀ c ∈ l, c ∈ alphabet) ∧ sgR l = d
  | [], l, h => by cases h; exact ⟨fun c hc => absurd hc List.not_mem_nil, rfl⟩
  | b :: r, l, h => by
    rw [sgs] at h
    split at h
    · cases h
    · rename_i c hc
      obtain ⟨l', h1, h2⟩ := Option.map_eq_some_iff.mp h
      subst h2
      obtain ⟨i1, i2⟩ := sgs_back h1
      obtain ⟨c1, c2⟩ := chr_ok hc
      refine ⟨fun x hx => ?_, ?_⟩
      · rcases List.mem_cons.mp hx with rfl | hx
        · exact c1
        · exact i1 x hx
      · show (sgn c : Int) :: sgR l' = _
        rw [c2, i2]
/-- a value from a record's bytes, and how many it takes -/
def vfr : List Int → Option (RV × Nat)
  | [] => none
  | b :: r => if b = 1 then some (.non, 1) else match nf true r with
    | none => none
    | some (m, k) =>
      if b = 2 then (if -HI ≤ uz m ∧ uz m ≤ HI then some (.num (uz m), k + 1) else none)
      else if b ≠ 3 ∨ (r.drop k).length < m then none
      else (sgs ((r.drop k).take m)).map fun l => (.txt l, k + 1 + m)
theorem vfr_len {d : List Int} {v : RV} {k : Nat} (h : vfr d = some (v, k)) : 0 < k ∧ k ≤ d.length := by
  cases d with
  | nil => cases h
  | cons b r =>
    rw [vfr] at h
    split at h
    · cases h; simp
    · split at h
      · cases h
      · rename_i m k' hn
        have := nf_len hn
        split at h
        · split at h
          · cases h; simp only [List.length_cons]; omega
          · cases h
        · split at h
          · cases h
          · rename_i c
            obtain ⟨l, h1, h2⟩ := Option.map_eq_some_iff.mp h
            cases h2
            rw [List.length_drop] at c
            simp only [List.length_cons]
            omega
theorem vfr_rec (v : RV) (r : List Int) (h : okV v) : vfr (recV v ++ r) = some (v, (recV v).length) := by
  cases v with
  | non =>
    show vfr (1 :: r) = _
    rw [vfr, if_pos rfl]
    rfl
  | num n =>
    have hn : -HI ≤ n ∧ n ≤ HI := h
    show vfr (2 :: (nat7 (zz n) ++ r)) = _
    rw [vfr, if_neg (by decide), nf_nat7 _ true r (.inl rfl)]
    dsimp only
    rw [if_pos rfl, uz_zz, if_pos hn]
    rfl
  | txt l =>
    have e1 : (nat7 l.length ++ sgR l ++ r).drop (nat7 l.length).length = sgR l ++ r := by
      rw [List.append_assoc, List.drop_append, List.drop_of_length_le (Nat.le_refl _), Nat.sub_self, List.drop_zero, List.nil_append]
    have el : (sgR l).length = l.length := by simp [sgR]
    have e2 : (sgR l ++ r).take l.length = sgR l := by rw [← el]; simp
    show vfr (3 :: (nat7 l.length ++ sgR l ++ r)) = _
    rw [vfr, if_neg (by decide), List.append_assoc, nf_nat7 _ true _ (.inl rfl), ← List.append_assoc]
    dsimp only
    rw [if_neg (by decide), e1, if_neg (by rw [List.length_append, el]; intro q; rcases q with q | q; exact q rfl; omega), e2, sgs_sg l h]
    show some (RV.txt l, (nat7 l.length).length + 1 + l.length) = some (RV.txt l, (3 :: (nat7 l.length ++ sgR l)).length)
    rw [List.length_cons, List.length_append, el, show (nat7 l.length).length + 1 + l.length = (nat7 l.length).length + l.length + 1 by omega]
theorem vfr_back {d : List Int} {v : RV} {k : Nat} (hb : Byt d) (h : vfr d = some (v, k)) : okV v ∧ recV v = d.take k := by
  cases d with
  | nil => cases h
  | cons b r =>
    have hbr : Byt r := fun x hx => hb x (List.mem_cons_of_mem _ hx)
    rw [vfr] at h
    split at h
    · rename_i e
      cases h
      subst e
      exact ⟨trivial, rfl⟩
    · split at h
      · cases h
      · rename_i m k' hn
        obtain ⟨n1, _⟩ := nf_back hbr hn
        have nl := nf_len hn
        split at h
        · rename_i e
          subst e
          split at h
          · rename_i c
            cases h
            refine ⟨c, ?_⟩
            show 2 :: nat7 (zz (uz m)) = _
            rw [zz_uz, n1, List.take_succ_cons]
          · cases h
        · split at h
          · cases h
          · rename_i c
            obtain ⟨l, h1, h2⟩ := Option.map_eq_some_iff.mp h
            cases h2
            obtain ⟨i1, i2⟩ := sgs_back h1
            have b3 : b = 3 := by
              by_cases q : b = 3
              · exact q
              · exact absurd (.inl q) c
            subst b3
            have el : l.length = m := by
              have e3 : (sgR l).length = l.length := by simp [sgR]
              rw [← e3, i2, List.length_take]
              rw [List.length_drop] at c
              rw [List.length_drop]
              omega
            refine ⟨i1, ?_⟩
            show 3 :: (nat7 l.length ++ sgR l) = _
            rw [el, n1, i2, show k' + 1 + m = (k' + m) + 1 by omega, List.take_succ_cons, List.take_add]
/-- so many values of a record, and the bytes they take -/
def vsr : Nat → List Int → Option (List RV × Nat)
  | 0, _ => some ([], 0)
  | n + 1, d => match vfr d with
    | none => none
    | some (v, k) => (vsr n (d.drop k)).map fun q => (v :: q.1, k + q.2)
theorem vsr_rec : ∀ (r : List RV) (t : List Int), (∀ v ∈ r, okV v) → vsr r.length (r.flatMap recV ++ t) = some (r, (r.flatMap recV).length)
  | [], t, _ => rfl
  | v :: r, t, h => by
    have e : (v :: r).flatMap recV ++ t = recV v ++ (r.flatMap recV ++ t) := by simp
    rw [e, List.length_cons, vsr, vfr_rec v _ (h v List.mem_cons_self)]
    dsimp only
    rw [List.drop_append, List.drop_of_length_le (Nat.le_refl _), Nat.sub_self, List.drop_zero, List.nil_append, vsr_rec r t fun x hx => h x (List.mem_cons_of_mem _ hx)]
    show some (v :: r, (recV v).length + (r.flatMap recV).length) = some (v :: r, ((v :: r).flatMap recV).length)
    simp
theorem vsr_back : ∀ {n : Nat} {d : List Int} {r : List RV} {k : Nat}, Byt d → vsr n d = some (r, k) → (∀ v ∈ r, okV v) ∧ r.flatMap recV = d.take k ∧ r.length = n ∧ n ≤ k ∧ k ≤ d.length
  | 0, d, r, k, _, h => by cases h; exact ⟨fun v hv => absurd hv List.not_mem_nil, by simp, rfl, Nat.le_refl _, Nat.zero_le _⟩
  | n + 1, d, r, k, hb, h => by
    rw [vsr] at h
    split at h
    · cases h
    · rename_i v k1 hv
      obtain ⟨⟨r', k2⟩, h1, h2⟩ := Option.map_eq_some_iff.mp h
      cases h2
      obtain ⟨i1, i2, i3, i4, i5⟩ := vsr_back (byt_drop hb k1) h1
      obtain ⟨o1, o2⟩ := vfr_back hb hv
      have kl := vfr_len hv
      rw [List.length_drop] at i5
      refine ⟨fun x hx => ?_, ?_, by rw [List.length_cons, i3], by omega, by omega⟩
      · rcases List.mem_cons.mp hx with rfl | hx
        · exact o1
        · exact i1 x hx
      · show recV v ++ r'.flatMap recV = _
        rw [o2, i2, ← List.take_add]
/-- a row from a record -/
def rowOf (d : List Int) : Option (List RV) := match nf true d with
  | none => none
  | some (m, k) => match vsr m (d.drop k) with
    | none => none
    | some (r, j) => if k + j = d.length then some r else none
theorem rowOf_rec {r : List RV} (h : ∀ v ∈ r, okV v) : rowOf (recR r) = some r := by
  have e := vsr_rec r [] h
  rw [List.append_nil] at e
  rw [rowOf, recR, nf_nat7 _ true _ (.inl rfl)]
  dsimp only
  rw [List.drop_append, List.drop_of_length_le (Nat.le_refl _), Nat.sub_self, List.drop_zero, List.nil_append, e]
  dsimp only
  rw [if_pos (by rw [List.length_append])]
theorem rowOf_back {d : List Int} {r : List RV} (hb : Byt d) (h : rowOf d = some r) : (∀ v ∈ r, okV v) ∧ recR r = d ∧ r.length ≤ d.length := by
  rw [rowOf] at h
  split at h
  · cases h
  · rename_i m k hn
    split at h
    · cases h
    · rename_i r' j hv
      split at h
      · rename_i e
        cases h
        obtain ⟨n1, _⟩ := nf_back hb hn
        obtain ⟨i1, i2, i3, i4, i5⟩ := vsr_back (byt_drop hb k) hv
        refine ⟨i1, ?_, by omega⟩
        rw [List.length_drop] at i5
        have e3 : (d.drop k).take j = d.drop k := List.take_of_length_le (by rw [List.length_drop]; omega)
        rw [recR, i3, n1, i2, e3, List.take_append_drop]
      · cases h
theorem sgR_byt {l : List Nat} (h : ∀ c ∈ l, c ∈ alphabet) : Byt (sgR l) := by
  intro b hb
  obtain ⟨c, hc, rfl⟩ := List.mem_map.mp hb
  have := (sgn_ok (h c hc)).1
  omega
theorem recV_byt {v : RV} (h : okV v) : Byt (recV v) := by
  cases v with
  | non => intro b hb; rw [List.mem_singleton.mp hb]; decide
  | num n =>
    intro b hb
    rcases List.mem_cons.mp hb with rfl | hb
    · decide
    · exact nat7_byt _ b hb
  | txt l =>
    intro b hb
    rcases List.mem_cons.mp hb with rfl | hb
    · decide
    · rcases List.mem_append.mp hb with hb | hb
      · exact nat7_byt _ b hb
      · exact sgR_byt h b hb
theorem recR_byt {r : List RV} (h : ∀ v ∈ r, okV v) : Byt (recR r) := by
  intro b hb
  rcases List.mem_append.mp hb with hb | hb
  · exact nat7_byt _ b hb
  · obtain ⟨v, hv, hb⟩ := List.mem_flatMap.mp hb
    exact recV_byt (h v hv) b hb
/-! the least key above a prefix -/
def upLen (d : List Int) : Nat := (d.reverse.dropWhile (· == 255)).length
theorem upLen_le (d : List Int) : upLen d ≤ d.length := by
  unfold upLen
  have := List.dropWhile_sublist (p := (· == (255 : Int))) (l := d.reverse)
  have := this.length_le
  simpa using this
theorem upLen_snoc (d : List Int) (b : Int) : upLen (d ++ [b]) = if b = 255 then upLen d else d.length + 1 := by
  unfold upLen
  rw [List.reverse_append, List.reverse_singleton, List.singleton_append, List.dropWhile_cons]
  by_cases h : b = 255
  · simp [h]
  · simp [h]
theorem upLen_pos {d : List Int} {b : Int} (h : b ∈ d) (hb : b ≠ 255) : 0 < upLen d := by
  rw [← List.reverse_reverse d] at h ⊢
  generalize d.reverse = e at *
  induction e with
  | nil => cases h
  | cons c e ih =>
    rw [List.reverse_cons] at h ⊢
    rw [upLen_snoc]
    split
    · rename_i q
      refine ih ?_
      rcases List.mem_append.mp h with h | h
      · exact h
      · rw [List.mem_singleton.mp h] at hb
        exact absurd q hb
    · omega
def upper (d : List Int) : Option (List Int) := if upLen d = 0 then none else some (d.take (upLen d - 1) ++ [d.getD (upLen d - 1) 0 + 1])
theorem upper_ok {d : List Int} (h : 0 < upLen d) (q : List Int) : ∃ u, upper d = some u ∧ HT.lexLt (d ++ q) u = true ∧ u.length = upLen d ∧ u.take (upLen d - 1) = d.take (upLen d - 1) := by
  have hl := upLen_le d
  refine ⟨d.take (upLen d - 1) ++ [d.getD (upLen d - 1) 0 + 1], by rw [upper, if_neg (by omega)], ?_, ?_, ?_⟩
  · have hlt : upLen d - 1 < d.length := by omega
    have e : d = d.take (upLen d - 1) ++ d[upLen d - 1] :: d.drop (upLen d - 1 + 1) := by
      rw [← List.drop_eq_getElem_cons hlt, List.take_append_drop]
    have e2 : d.getD (upLen d - 1) 0 = d[upLen d - 1] := by simp [List.getD, List.getElem?_eq_getElem hlt]
    have dv : Div (d ++ q) (d.take (upLen d - 1) ++ [d.getD (upLen d - 1) 0 + 1]) true :=
      ⟨d.take (upLen d - 1), d[upLen d - 1], d.getD (upLen d - 1) 0 + 1, d.drop (upLen d - 1 + 1) ++ q, [], by
        have e4 : d ++ q = (d.take (upLen d - 1) ++ d[upLen d - 1] :: d.drop (upLen d - 1 + 1)) ++ q := by rw [← e]
        rw [e4, List.append_assoc, List.cons_append], rfl, by rw [e2]; omega, by rw [e2]; exact (decide_eq_true (by omega)).symm⟩
    exact dv.lex
  · rw [List.length_append, List.length_take, List.length_singleton]
    omega
  · rw [List.take_append, List.take_take, Nat.min_self, List.length_take, show upLen d - 1 - min (upLen d - 1) d.length = 0 by omega, List.take_zero, List.append_nil]
end M5
end

section
-- part K10M
set_option Elab.async false
set_option linter.all false
set_option maxRecDepth 100000
set_option maxHeartbeats 2000000
/-! K10M: frames, records and groups of a log; core Lean -/
namespace M10
open M5
abbrev Img := Nat × List Int
abbrev Grp := Nat × List Img
def ckStep (s : Int × Int) (b : Int) : Int × Int := ((s.1 + b) % 65521, (s.2 + (s.1 + b) % 65521) % 65521)
def ck (d : List Int) : Int × Int := d.foldl ckStep (1, 0)
def sum4 (p : List Int) : List Int := fixedL (65536 * (ck p).2 + (ck p).1) 4
def frameL (p : List Int) : List Int := fixedL (p.length : Int) 4 ++ (p ++ sum4 p)
theorem frame_len (p : List Int) : (frameL p).length = p.length + 8 := by
  simp only [frameL, sum4, List.length_append, fixed_len]
  omega
theorem drop_lt {d : List Int} {n : Nat} (h : 4 ≤ d.length) : (d.drop (n + 8)).length < d.length := by
  rw [List.length_drop]
  omega
/-- the bytes of a log's records -/
def frs (d : List Int) : List (List Int) :=
  if h : 4 ≤ d.length then
    if d.length < (fromL (d.take 4)).toNat + 8 ∨ (d.drop ((fromL (d.take 4)).toNat + 4)).take 4 ≠ sum4 ((d.drop 4).take (fromL (d.take 4)).toNat) then []
    else (d.drop 4).take (fromL (d.take 4)).toNat :: frs (d.drop ((fromL (d.take 4)).toNat + 8))
  else []
termination_by d.length
decreasing_by exact drop_lt h
inductive Rc where
  | img (n : Nat) (b : List Int)
  | fin (n : Nat)
def recO : List Int → Option Rc
  | [] => none
  | b :: r => if b = 1 ∨ b = 2 then (match nf true r with
    | none => none
    | some (m, k) => if b = 1 then some (.img m (r.drop k)) else if k = r.length then some (.fin m) else none) else none
def grs : List (List Int) → List Img → List Grp
  | [], _ => []
  | p :: ps, im => match recO p with
    | none => []
    | some (.img n b) => grs ps (im ++ [(n, b)])
    | some (.fin n) => (n, im) :: grs ps []
def imgP (i : Img) : List Int := 1 :: (nat7 i.1 ++ i.2)
def endP (n : Nat) : List Int := 2 :: nat7 n
def grpB (g : Grp) : List Int := g.2.flatMap (fun i => frameL (imgP i)) ++ frameL (endP g.1)
def logB (gs : List Grp) : List Int := gs.flatMap grpB
def Fits (p : List Int) : Prop := p.length < 256 ^ 4
theorem frs_frame {p : List Int} (h : Fits p) (r : List Int) : frs (frameL p ++ r) = p :: frs r := by
  have e4 : (frameL p ++ r).take 4 = fixedL (p.length : Int) 4 := by
    rw [frameL, List.append_assoc, List.take_append_of_le_length (by rw [fixed_len]; exact Nat.le_refl _), List.take_of_length_le (by rw [fixed_len]; exact Nat.le_refl _)]
  have hp : ((p.length : Nat) : Int) < 256 ^ 4 := by
    have h : p.length < 256 ^ 4 := h
    have e : (256 : Nat) ^ 4 = 4294967296 := by decide
    have e2 : (256 : Int) ^ 4 = 4294967296 := by decide
    omega
  have en : (fromL ((frameL p ++ r).take 4)).toNat = p.length := by
    rw [e4, from_fixed 4 _ (by omega) hp]
    rfl
  have hl := frame_len p
  have d4 : (frameL p ++ r).drop 4 = p ++ (sum4 p ++ r) := by
    rw [frameL, List.append_assoc, List.drop_append_of_le_length (by rw [fixed_len]; exact Nat.le_refl _), List.drop_of_length_le (by rw [fixed_len]; exact Nat.le_refl _)]
    simp
  have dp : ((frameL p ++ r).drop 4).take p.length = p := by rw [d4]; simp
  have ds : ((frameL p ++ r).drop (p.length + 4)).take 4 = sum4 p := by
    rw [show p.length + 4 = 4 + p.length by omega, ← List.drop_drop, d4]
    have l4 : (sum4 p).length = 4 := fixed_len _ _
    simp [l4]
  have dr : (frameL p ++ r).drop (p.length + 8) = r := by
    rw [← hl]; simp
  rw [frs, en, dp, ds, dr, dif_pos (by rw [List.length_append]; omega), if_neg]
  rintro (z | z)
  · rw [List.length_append] at z; omega
  · exact z rfl
theorem frs_short {d : List Int} (h : d.length < 4) : frs d = [] := by rw [frs, dif_neg (by omega)]
/-- a record that is cut -/
theorem frs_cut {p : List Int} (h : Fits p) (r : List Int) {k : Nat} (hk : k < p.length + 8) : frs ((frameL p ++ r).take k) = [] := by
  by_cases c : 4 ≤ k
  · have hl := frame_len p
    have e4 : ((frameL p ++ r).take k).take 4 = fixedL (p.length : Int) 4 := by
      rw [List.take_take, Nat.min_eq_left c, frameL, List.append_assoc, List.take_append_of_le_length (by rw [fixed_len]; exact Nat.le_refl _), List.take_of_length_le (by rw [fixed_len]; exact Nat.le_refl _)]
    have hp : ((p.length : Nat) : Int) < 256 ^ 4 := by
      have h : p.length < 256 ^ 4 := h
      have e : (256 : Nat) ^ 4 = 4294967296 := by decide
      have e2 : (256 : Int) ^ 4 = 4294967296 := by decide
      omega
    have en : (fromL (((frameL p ++ r).take k).take 4)).toNat = p.length := by
      rw [e4, from_fixed 4 _ (by omega) hp]
      rfl
    rw [frs, en]
    split
    · rw [if_pos (.inl (by rw [List.length_take]; omega))]
    · rfl
  · exact frs_short (by rw [List.length_take]; omega)
def okI (i : Img) : Prop := Fits (imgP i)
def okG (g : Grp) : Prop := (∀ i ∈ g.2, okI i) ∧ Fits (endP g.1)
def recsG (g : Grp) : List (List Int) := g.2.map imgP ++ [endP g.1]
theorem rec_img (i : Img) : recO (imgP i) = some (.img i.1 i.2) := by
  simp [recO, imgP, nf_nat7 i.1 true i.2 (.inl rfl)]
theorem rec_end (n : Nat) : recO (endP n) = some (.fin n) := by
  have := nf_nat7 n true [] (.inl rfl)
  rw [List.append_nil] at this
  simp [recO, endP, this]
theorem grs_imgs : ∀ (is : List Img) (ps : List (List Int)) (im : List Img), grs (is.map imgP ++ ps) im = grs ps (im ++ is)
  | [], ps, im => by simp
  | i :: is, ps, im => by
    rw [List.map_cons, List.cons_append, grs, rec_img]
    show grs (is.map imgP ++ ps) (im ++ [(i.1, i.2)]) = _
    rw [grs_imgs is ps]
    simp
theorem grs_group (g : Grp) (ps : List (List Int)) : grs (recsG g ++ ps) [] = g :: grs ps [] := by
  rw [recsG, List.append_assoc, grs_imgs, List.nil_append, List.singleton_append, grs, rec_end]
/-- the whole log -/
theorem frs_imgs : ∀ (is : List Img) (r : List Int), (∀ i ∈ is, okI i) → frs (is.flatMap (fun i => frameL (imgP i)) ++ r) = is.map imgP ++ frs r
  | [], r, _ => rfl
  | i :: is, r, h => by
    rw [List.flatMap_cons, List.append_assoc, frs_frame (h i List.mem_cons_self), frs_imgs is r fun j hj => h j (List.mem_cons_of_mem _ hj)]
    rfl
theorem frs_group {g : Grp} (h : okG g) (r : List Int) : frs (grpB g ++ r) = recsG g ++ frs r := by
  rw [grpB, List.append_assoc, frs_imgs _ _ h.1, frs_frame h.2, recsG]
  simp
theorem frs_log : ∀ {gs : List Grp} (r : List Int), (∀ g ∈ gs, okG g) → frs (logB gs ++ r) = gs.flatMap recsG ++ frs r
  | [], r, _ => rfl
  | g :: gs, r, h => by
    show frs (grpB g ++ logB gs ++ r) = _
    rw [List.append_assoc, frs_group (h g List.mem_cons_self), frs_log r fun j hj => h j (List.mem_cons_of_mem _ hj), List.flatMap_cons, List.append_assoc]
theorem grs_log : ∀ (gs : List Grp) (ps : List (List Int)), grs (gs.flatMap recsG ++ ps) [] = gs ++ grs ps []
  | [], ps => rfl
  | g :: gs, ps => by
    rw [List.flatMap_cons, List.append_assoc, grs_group, grs_log gs ps]
    rfl
theorem read_log {gs : List Grp} (h : ∀ g ∈ gs, okG g) : grs (frs (logB gs)) [] = gs := by
  have := frs_log (gs := gs) [] h
  rw [List.append_nil, frs_short (d := []) (by decide), List.append_nil] at this
  have g2 := grs_log gs []
  rw [List.append_nil] at g2
  rw [this, g2]
  exact List.append_nil gs
/-- a log that is cut -/
theorem grs_imgs_cut : ∀ (is : List Img) (n : Nat) (r : List Int) (im : List Img) (k : Nat), (∀ i ∈ is, okI i) → Fits (endP n) → k < (is.flatMap (fun i => frameL (imgP i)) ++ frameL (endP n)).length →
    grs (frs ((is.flatMap (fun i => frameL (imgP i)) ++ frameL (endP n) ++ r).take k)) im = []
  | [], n, r, im, k, _, hn, hk => by
    rw [List.flatMap_nil, List.nil_append] at hk ⊢
    rw [frs_cut hn r (by rw [← frame_len]; exact hk)]
    rfl
  | i :: is, n, r, im, k, h, hn, hk => by
    have hi := h i List.mem_cons_self
    rw [List.flatMap_cons, List.append_assoc, List.append_assoc] at *
    by_cases c : k < (imgP i).length + 8
    · rw [frs_cut hi _ c]
      rfl
    · have hl := frame_len (imgP i)
      obtain ⟨j, rfl⟩ : ∃ j, k = (frameL (imgP i)).length + j := ⟨k - (frameL (imgP i)).length, by omega⟩
      rw [List.take_length_add_append, frs_frame hi, grs, rec_img]
      show grs _ (im ++ [(i.1, i.2)]) = []
      rw [← List.append_assoc]
      refine grs_imgs_cut is n r _ j (fun x hx => h x (List.mem_cons_of_mem _ hx)) hn ?_
      rw [List.length_append] at hk
      omega
def cutG : List Grp → Nat → List Grp
  | [], _ => []
  | g :: gs, c => if (grpB g).length ≤ c then g :: cutG gs (c - (grpB g).length) else []
theorem read_cut : ∀ {gs : List Grp} (c : Nat), (∀ g ∈ gs, okG g) → grs (frs ((logB gs).take c)) [] = cutG gs c
  | [], c, _ => by
    rw [show (logB []).take c = [] by simp [logB], frs_short (by decide)]
    rfl
  | g :: gs, c, h => by
    have hg := h g List.mem_cons_self
    show grs (frs ((grpB g ++ logB gs).take c)) [] = _
    rw [cutG]
    split
    · rename_i hc
      obtain ⟨j, rfl⟩ : ∃ j, c = (grpB g).length + j := ⟨c - (grpB g).length, by omega⟩
      rw [List.take_length_add_append, frs_group hg, grs_group, read_cut j fun x hx => h x (List.mem_cons_of_mem _ hx)]
      rw [show (grpB g).length + j - (grpB g).length = j by omega]
    · rename_i hc
      exact grs_imgs_cut g.2 g.1 _ [] c hg.1 hg.2 (by show c < (grpB g).length; omega)
/-- as the law reads -/
def lrd (d : List Int) (im : List Img) : List Grp :=
  if h : 8 ≤ d.length then
    if d.length < (fromL (d.take 4)).toNat + 8 ∨ sum4 ((d.drop 4).take (fromL (d.take 4)).toNat) ≠ (d.drop ((fromL (d.take 4)).toNat + 4)).take 4 then []
    else match recO ((d.drop 4).take (fromL (d.take 4)).toNat) with
      | none => []
      | some (.img n b) => lrd (d.drop ((fromL (d.take 4)).toNat + 8)) (im ++ [(n, b)])
      | some (.fin n) => (n, im) :: lrd (d.drop ((fromL (d.take 4)).toNat + 8)) []
  else []
termination_by d.length
decreasing_by all_goals exact drop_lt (by omega)
theorem lrd_eq (d : List Int) (im : List Img) : lrd d im = grs (frs d) im := by
  generalize hn : d.length = n
  induction n using Nat.strongRecOn generalizing d im with
  | _ n ih =>
    rw [lrd, frs]
    by_cases c8 : 8 ≤ d.length
    · rw [dif_pos c8, dif_pos (by omega : 4 ≤ d.length)]
      by_cases c : d.length < (fromL (d.take 4)).toNat + 8 ∨ (d.drop ((fromL (d.take 4)).toNat + 4)).take 4 ≠ sum4 ((d.drop 4).take (fromL (d.take 4)).toNat)
      · rw [if_pos c, if_pos (c.imp id fun z => Ne.symm z)]
        rfl
      · rw [if_neg c, if_neg (fun z => c (z.imp id fun z => Ne.symm z)), grs]
        have hlt := drop_lt (d := d) (n := (fromL (d.take 4)).toNat) (by omega)
        cases recO ((d.drop 4).take (fromL (d.take 4)).toNat) with
        | none => rfl
        | some r =>
          cases r with
          | img n b => exact ih _ (by omega) _ _ rfl
          | fin n =>
            show (n, im) :: _ = (n, im) :: _
            rw [ih _ (by omega) _ _ rfl]
    · rw [dif_neg c8]
      split
      · rw [if_pos (.inl (by omega))]
        rfl
      · rfl
end M10
end

section
-- part Gk
set_option Elab.async false
set_option linter.all false
set_option maxRecDepth 100000
set_option maxHeartbeats 2000000
/-! Gk: what the laws share: ints as data, slices, heaps -/
namespace Gk
open PySem PySem.Spec PyProof.Rows L2 Fw M5 M10 LamX
section
variable {P : Program} {w : World} {K : PySem.W.Frag} {mg : Str → Option Value} {base : Heap} {X : Cx} {σ : L2.St} {H : Hp} {Q : VK} {a b : Addr} {d e : List Int} {te : TE} {vs : List Nat} {tt : TT} {g : TG} {ta : TA}
def Cin (mg : Str → Option Value) (x : Str) (n : Int) : Prop := ∃ u, mg x = some u ∧ RelV (.int n) u
structure Ex (K : PySem.W.Frag) (mg : Str → Option Value) (x : Str) (C : Addr) : Prop where
  ox : PySem.W.excIn K C [.type "ValueError", .type "Exception", .type "BaseException", .type "object"] "ValueError.__new__" = true
  og : mg x = some (.ref C)
  ok : PySem.W.keepIn K (.ref C) = true
  ob : PySem.W.subIn K (.ref C) (.type "BaseException") = some true
  ot : PySem.W.typeIn K (.ref C) = some (.type "type")
theorem same_upd {H H' : Hp} {L : Addr} {o : HO} (s : Same H H') (hL : H L = none) : Same H (upd H' L o) := fun b u e => by rw [upd_ne (ne_of_none e hL)]; exact s _ _ e
/-- a new tuple of ints -/
def GivesT (H : Hp) (Q : VK) (d : List Int) : Prop := ∀ (p : Addr) (H' : Hp), Same H H' → H p = none → H' p = some (.tup (d.map V.int)) → Q (.ref p) H'
def spFixed : Sp := fun vs H Q _ => ∃ (n : Int) (k : Nat), vs = [.int n, .int (k : Int)] ∧ k ≤ 64 ∧ GivesT H Q (fixedL n k)
def spNumF (K : PySem.W.Frag) : Sp := fun vs H Q _ => ∃ (a : Addr) (d : List Int), vs = [.ref a] ∧ SqT K H a (d.map V.int) ∧ Q (.int (fromL d)) H
theorem fromL_take {d : List Int} {i : Nat} {b : Int} (h : d[i]? = some b) : fromL (d.take (i + 1)) = fromL (d.take i) * 256 + b := by
  rw [List.take_add_one, h]
  exact fromL_snoc _ _
theorem ints_get {d : List Int} {i : Nat} {x : V} (h : (d.map V.int)[i]? = some x) : ∃ b, d[i]? = some b ∧ x = .int b := by
  rw [List.getElem?_map] at h
  cases e : d[i]? with
  | none => rw [e] at h; cases h
  | some b => rw [e] at h; exact ⟨b, rfl, (Option.some.inj h).symm⟩
/-- a new pair (value, place) -/
def Pair (H : Hp) (Q : VK) (v : V) (e : Nat) : Prop := ∀ (q : Addr) (H' : Hp), Same H H' → H q = none → H' q = some (.tup [v, .int (e : Int)]) → Q (.ref q) H'
def Fails (H : Hp) (E : XK) (C : Addr) : Prop := ∀ H', Same H H' → E (.ref C) none H'
theorem int_get {d : List Int} {i : Nat} {b : Int} (h : d[i]? = some b) : atI (d.map V.int) (i : Int) = some (.int b) := atI_nat (by rw [List.getElem?_map, h]; rfl)
theorem w_ixT {K : PySem.W.Frag} {a : Addr} {d : List Int} {i : Nat} {b : Int} {H : Hp} {Q : VK} (hS : SqT K H a (d.map V.int)) (h : d[i]? = some b) (q : Q (.int b) H) : rIxT K (.ref a) (.int (i : Int)) H Q := ⟨a, _, _, _, rfl, rfl, hS, int_get h, q⟩
theorem w_lenT {K : PySem.W.Frag} {a : Addr} {d : List Int} {H : Hp} {R : V → Hp → Prop} (hS : SqT K H a (d.map V.int)) (q : R (.int (d.length : Int)) H) : ∃ p xs, [V.ref a] = [.ref p] ∧ (SqL K H p xs ∨ SqT K H p xs) ∧ R (.int (xs.length : Int)) H :=
  ⟨a, d.map V.int, rfl, .inr hS, by rw [List.length_map]; exact q⟩
def spNat : Sp := fun vs H Q _ => ∃ n : Nat, vs = [.int (n : Int)] ∧ n < 128 ^ 200 ∧ GivesT H Q (nat7 n)
theorem ck_gen : ∀ (d : List Int) (a b : Int), d.foldl ckStep (a % 65521, b % 65521) = ((a + d.sum) % 65521, (b + d.length * a + accI 0 d) % 65521)
  | [], a, b => by simp [accI]
  | x :: r, a, b => by
    have e : ckStep (a % 65521, b % 65521) x = ((a + x) % 65521, (b + (a + x)) % 65521) := by
      unfold ckStep
      congr 1 <;> omega
    rw [List.foldl_cons, e, ck_gen r (a + x) (b + (a + x)), List.sum_cons]
    have e2 : accI 0 (x :: r) = x + (r.length * x + accI 0 r) := by
      show 0 + x + accI (0 + x) r = _
      rw [accI_add (0 + x) r, Int.zero_add]
    rw [e2, List.length_cons, Int.natCast_add, Int.add_mul, Int.mul_add, Int.natCast_one, Int.one_mul]
    congr 1 <;> congr 1 <;> omega
theorem ck_sums (d : List Int) : ck d = ((1 + d.sum) % 65521, ((d.length : Int) + accI 0 d) % 65521) := by
  have := ck_gen d 1 0
  rw [Int.mul_one, Int.zero_add] at this
  exact this
theorem sqT_same {H H' : Hp} {a : Addr} {xs : List V} (h : SqT K H a xs) (s : Same H H') : SqT K H' a xs := by
  rcases h with (h | ⟨o, h⟩) | h
  · exact .inl (.inl (s _ _ h))
  · exact .inl (.inr ⟨o, s _ _ h⟩)
  · exact .inr h
theorem sqL_same {H H' : Hp} {a : Addr} {xs : List V} (h : SqL K H a xs) (s : Same H H') : SqL K H' a xs := by
  rcases h with (h | ⟨o, h⟩) | h
  · exact .inl (.inl (s _ _ h))
  · exact .inl (.inr ⟨o, s _ _ h⟩)
  · exact .inr h
theorem w_gtupS {n : Nat} {t : TGs} {xs : List V} {Q : L2.St → Hp → Prop} (h : SqT K H a xs) (hn : xs.length = n) (q : t xs σ H Q) : gTup K n t (.ref a) σ H Q := ⟨a, xs, rfl, h, hn, q⟩
theorem sqT_ex {H H' : Hp} {a : Addr} {xs : List V} (h : SqT K H a xs) (s : ExtN H H') : SqT K H' a xs := by
  rcases h with (h | ⟨o, h⟩) | h
  · exact .inl (.inl (s _ _ h (fun ps e => by cases e)))
  · exact .inl (.inr ⟨o, s _ _ h (fun ps e => by cases e)⟩)
  · exact .inr h
theorem sqL_ex {H H' : Hp} {a : Addr} {xs : List V} (h : SqL K H a xs) (s : ExtN H H') : SqL K H' a xs := by
  rcases h with (h | ⟨o, h⟩) | h
  · exact .inl (.inl (s _ _ h (fun ps e => by cases e)))
  · exact .inl (.inr ⟨o, s _ _ h (fun ps e => by cases e)⟩)
  · exact .inr h
theorem lenR {xs : List Int} {f : Int → V} : (xs.map f).length = xs.length := List.length_map ..
theorem ints_shaped (ns : List Int) : SeqAt.shaped (.tuple (ns.map PyData.int)) = true := by
  have h1 : PyData.canLayAll0 (ns.map PyData.int) = true := by
    induction ns with
    | nil => rfl
    | cons n r ih => rw [List.map_cons, PyData.canLayAll0, ih]; rfl
  have h2 : PyData.depthAll (ns.map PyData.int) ≤ 1 := by
    induction ns with
    | nil => simp [PyData.depthAll]
    | cons n r ih =>
      have h3 := ih (by rw [List.map_cons, PyData.canLayAll0, Bool.and_eq_true] at h1; exact h1.2)
      simp only [List.map_cons, PyData.depthAll, PyData.depth]
      omega
  unfold SeqAt.shaped
  rw [Bool.and_eq_true]
  refine ⟨h1, decide_eq_true ?_⟩
  simp only [PyData.depth]
  omega
theorem ints_eqv : ∀ ns ms : List Int, PyData.eqvAll (ns.map PyData.int) (ms.map PyData.int) = decide (ns = ms)
  | [], [] => rfl
  | n :: r, [] => by simp [PyData.eqvAll]
  | [], m :: t => by simp [PyData.eqvAll]
  | n :: r, m :: t => by
    rw [List.map_cons, List.map_cons, PyData.eqvAll, ints_eqv r t, PyData.eqv]
    by_cases c : n = m <;> by_cases c2 : r = t <;> simp [c, c2]
theorem w_neInts (ha : SqT K H a (d.map V.int)) (hb : SqT K H b (e.map V.int)) (q : Q (.bl (!decide (d = e))) H) : rNeD K (.ref a) (.ref b) H Q :=
  ⟨_, _, .tup ha (dp_ints d), .tup hb (dp_ints e), ints_shaped d, ints_shaped e, by
    show Q (.bl (!PyData.eqvAll (d.map PyData.int) (e.map PyData.int))) H
    rw [ints_eqv]
    exact q⟩
theorem cut_mid (xs : List V) {i j : Nat} : cutV xs (some (i : Int)) (some (j : Int)) = (xs.drop i).take (j - i) := by
  unfold cutV
  rw [HT.sIx_nat, HT.sIx_nat]
  by_cases h : i ≤ xs.length
  · rw [Nat.min_eq_left h]
    by_cases h2 : j ≤ xs.length
    · rw [Nat.min_eq_left h2]
    · rw [Nat.min_eq_right (by omega), List.take_of_length_le (by rw [List.length_drop]; omega), List.take_of_length_le (by rw [List.length_drop]; omega)]
  · rw [Nat.min_eq_right (by omega : xs.length ≤ i), List.drop_eq_nil_of_le (Nat.le_refl _), List.drop_eq_nil_of_le (by omega), List.take_nil, List.take_nil]
theorem w_slMid {i j : Nat} (e : SqT K H a (d.map V.int)) (q : ∀ p H', Same H H' → SqT K H' p (((d.drop i).take (j - i)).map V.int) → Q (.ref p) H') : rSlA K (.ref a) (some (i : Int)) (some (j : Int)) H Q := by
  refine ⟨a, _, rfl, e, fun hw => ?_, fun _ p hp => ?_⟩
  · rw [HT.sIx_nat, HT.sIx_nat, List.length_map] at hw
    have : (d.drop i).take (j - i) = d := by
      by_cases c : d.length = 0
      · rw [List.eq_nil_of_length_eq_zero c]; simp
      · obtain rfl : i = 0 := by omega
        rw [List.drop_zero, List.take_of_length_le (by omega)]
    refine q a H (Same.refl H) ?_
    rw [this]
    exact e
  · refine q p _ (same_new hp _) (SqT.of ?_)
    rw [upd_same, cut_mid, List.map_take, List.map_drop]
def Tups (H : Hp) : List Addr → List (List Int) → Prop := Paired fun z p => H z = some (.tup (p.map V.int))
def TupsK (K : PySem.W.Frag) (H : Hp) : List Addr → List (List Int) → Prop := Paired fun z p => SqT K H z (p.map V.int)
theorem TupsK.sm {H H' : Hp} (s : Same H H') : ∀ {zs : List Addr} {ps : List (List Int)}, TupsK K H zs ps → TupsK K H' zs ps
  | _, _, .nil => .nil
  | _, _, .cons h r => .cons (sqT_same h s) (TupsK.sm s r)
/-- the object L alone is another list -/
theorem sqT_wr {H : Hp} {L a : Addr} {xs ys : List V} {o : HO} (h : SqT K H a xs) (hL : H L = some (.lst ys)) : SqT K (upd H L o) a xs := by
  rcases h with (h | ⟨u, h⟩) | h
  · exact .inl (.inl (by rw [upd_ne (fun z => by rw [z, hL] at h; cases h)]; exact h))
  · exact .inl (.inr ⟨u, by rw [upd_ne (fun z => by rw [z, hL] at h; cases h)]; exact h⟩)
  · exact .inr h
theorem TupsK.wr {H : Hp} {L : Addr} {ys : List V} {o : HO} (hL : H L = some (.lst ys)) : ∀ {zs : List Addr} {ps : List (List Int)}, TupsK K H zs ps → TupsK K (upd H L o) zs ps
  | _, _, .nil => .nil
  | _, _, .cons h r => .cons (sqT_wr h hL) (TupsK.wr hL r)
theorem map_get {α : Type} {f : α → V} {l : List α} {i : Nat} {x : V} (h : (l.map f)[i]? = some x) : ∃ b, l[i]? = some b ∧ x = f b := by
  rw [List.getElem?_map] at h
  cases e : l[i]? with
  | none => rw [e] at h; cases h
  | some b => rw [e] at h; exact ⟨b, rfl, (Option.some.inj h).symm⟩
theorem cut_drop {xs : List V} {n : Nat} : cutV xs (some (n : Int)) none = xs.drop n := by
  unfold cutV
  rw [HT.sIx_nat, HT.sIx_none]
  by_cases h : n ≤ xs.length
  · rw [Nat.min_eq_left h, List.take_of_length_le (by rw [List.length_drop]; omega)]
  · rw [Nat.min_eq_right (by omega), List.drop_eq_nil_of_le (Nat.le_refl _), List.drop_eq_nil_of_le (by omega)]
    exact List.take_nil
theorem w_slFrom {a : Addr} {d : List Int} {n : Nat} {H : Hp} {Q : VK} (e : SqT K H a (d.map V.int)) (q : ∀ p H', Same H H' → SqT K H' p ((d.drop n).map V.int) → Q (.ref p) H') : rSlA K (.ref a) (some (n : Int)) none H Q := by
  refine ⟨a, _, rfl, e, fun hw => ?_, fun _ p hp => ?_⟩
  · rw [HT.sIx_nat, List.length_map] at hw
    refine q a H (Same.refl H) ?_
    have : d.drop n = d := by
      by_cases c : d.length = 0
      · rw [List.eq_nil_of_length_eq_zero c]; simp
      · obtain rfl : n = 0 := by omega
        rfl
    rw [this]
    exact e
  · refine q p _ (same_new hp _) (SqT.of ?_)
    rw [upd_same, cut_drop, List.map_drop]
theorem tup_wr {H : Hp} {L a : Addr} {xs ys : List V} {o : HO} (h : H a = some (.tup xs)) (hL : H L = some (.lst ys)) : (upd H L o) a = some (.tup xs) := by
  rw [upd_ne (fun z => by rw [z, hL] at h; cases h)]
  exact h
theorem sum_eq (f s : Int) (hf : 0 ≤ f ∧ f < 65521) (hs : 0 ≤ s ∧ s < 65521) : fixedL (65536 * s + f) 4 = [(s * 65536 + f) / 16777216 % 256, (s * 65536 + f) / 65536 % 256, (s * 65536 + f) / 256 % 256, (s * 65536 + f) % 256] := by
  simp only [fixedL, List.nil_append, List.cons_append]
  congr 1
  · omega
  congr 1
  · omega
  congr 1
  · omega
  congr 1
  omega
theorem ck_take {d : List Int} {i : Nat} {b : Int} (h : d[i]? = some b) : ck (d.take (i + 1)) = ckStep (ck (d.take i)) b := by
  rw [List.take_add_one, h]
  simp [ck]
theorem ck_b (d : List Int) : (0 ≤ (ck d).1 ∧ (ck d).1 < 65521) ∧ 0 ≤ (ck d).2 ∧ (ck d).2 < 65521 := by
  rw [← List.reverse_reverse d]
  generalize d.reverse = e
  induction e with
  | nil => exact ⟨⟨by decide, by decide⟩, by decide, by decide⟩
  | cons b e ih =>
    rw [List.reverse_cons]
    have : ck (e.reverse ++ [b]) = ckStep (ck e.reverse) b := by simp [ck]
    rw [this]
    simp only [ckStep]
    omega
theorem len4 (n : Nat) (h : n ≤ 900) : fixedL (n : Int) 4 = [(n : Int) / 16777216, (n : Int) / 65536 % 256, (n : Int) / 256 % 256, (n : Int) % 256] := by
  simp only [fixedL, List.nil_append, List.cons_append]
  have h1 : (n : Int) / 256 / 256 / 256 % 256 = (n : Int) / 16777216 := by omega
  have h2 : (n : Int) / 256 / 256 % 256 = (n : Int) / 65536 % 256 := by omega
  rw [h1, h2]
theorem w_catInts {a b : Addr} {d e : List Int} {H : Hp} {Q : VK} (ha : SqT K H a (d.map V.int)) (hb : SqT K H b (e.map V.int)) (hl : d.length + e.length ≤ 2000) (q : ∀ p H', Same H H' → SqT K H' p ((d ++ e).map V.int) → Q (.ref p) H') : rCatA K (.ref a) (.ref b) H Q := by
  refine ⟨a, b, _, _, rfl, rfl, ha, hb, ?_, fun z => ?_, fun _ z => ?_, fun _ _ p hp => ?_⟩
  · rw [List.length_map, List.length_map]
    exact Nat.le_trans hl (by decide)
  · have := List.map_eq_nil_iff.mp z
    subst this
    exact q b H (Same.refl H) hb
  · have := List.map_eq_nil_iff.mp z
    subst this
    rw [List.append_nil] at q
    exact q a H (Same.refl H) ha
  · exact q p _ (same_new hp _) (SqT.of (by rw [upd_same, List.map_append]))
/-- a tuple of ints, new or not -/
def GivesS (K : PySem.W.Frag) (H : Hp) (Q : VK) (d : List Int) : Prop := ∀ p H', Same H H' → SqT K H' p (d.map V.int) → Q (.ref p) H'
def spSum (K : PySem.W.Frag) : Sp := fun vs H Q _ => ∃ (a : Addr) (d : List Int), vs = [.ref a] ∧ SqT K H a (d.map V.int) ∧ GivesT H Q (sum4 d)
theorem w_break {D : Ends} {σ : L2.St} {H : Hp} (h : D.bk σ H) : tBreak D σ H := h
theorem sums_eq (f s : Int) (hf : 0 ≤ f ∧ f < 65521) (hs : 0 ≤ s ∧ s < 65521) : fixedL (65536 * s + f) 4 = [s / 256, s % 256, f / 256, f % 256] := by
  simp only [fixedL, List.nil_append, List.cons_append]
  have h1 : (65536 * s + f) / 256 / 256 / 256 % 256 = s / 256 := by omega
  have h2 : (65536 * s + f) / 256 / 256 % 256 = s % 256 := by omega
  have h3 : (65536 * s + f) / 256 % 256 = f / 256 := by omega
  have h4 : (65536 * s + f) % 256 = f % 256 := by omega
  rw [h1, h2, h3, h4]
theorem w_par3 {i j l : Nat} {ta : TA} {D : Ends} {σ : L2.St} {H : Hp} (h : ta σ H fun vs H1 => ∃ u v w, vs = [u, v, w] ∧ D.nx (((σ.set i (some u)).set j (some v)).set l (some w)) H1) : tPar3 i j l ta D σ H := h
theorem w_ixZ {a : Addr} {d : List Int} {i : Nat} {b z : Int} {H : Hp} {Q : VK} (hS : SqT K H a (d.map V.int)) (hz : z = (i : Int)) (h : d[i]? = some b) (q : Q (.int b) H) : rIxT K (.ref a) (.int z) H Q := by
  subst hz
  exact w_ixT hS h q
theorem w_slZ {a : Addr} {d : List Int} {i j : Nat} {x y : Int} {H : Hp} {Q : VK} (e : SqT K H a (d.map V.int)) (hx : x = (i : Int)) (hy : y = (j : Int)) (q : ∀ p H', Same H H' → SqT K H' p (((d.drop i).take (j - i)).map V.int) → Q (.ref p) H') : rSlA K (.ref a) (some x) (some y) H Q := by
  subst hx hy
  exact w_slMid e q
theorem w_eqInts {a b : Addr} {d e : List Int} {H : Hp} {Q : VK} (ha : SqT K H a (d.map V.int)) (hb : SqT K H b (e.map V.int)) (q : Q (.bl (decide (d = e))) H) : rEqD K (.ref a) (.ref b) H Q :=
  ⟨_, _, .tup ha (dp_ints d), .tup hb (dp_ints e), ints_shaped d, ints_shaped e, by
    show Q (.bl (PyData.eqvAll (d.map PyData.int) (e.map PyData.int))) H
    rw [ints_eqv]
    exact q⟩
theorem w_catL {a b : Addr} {xs ys : List V} {H : Hp} {Q : VK} (ha : H a = some (.lst xs)) (hb : H b = some (.lst ys)) (hl : xs.length + ys.length ≤ 2000) (q : ∀ p, H p = none → Q (.ref p) (upd H p (.lst (xs ++ ys)))) : rCat (.ref a) (.ref b) H Q :=
  ⟨a, b, xs, ys, rfl, rfl, ha, hb, Nat.le_trans hl (by decide), q⟩
theorem in12 (b : Int) : inV (.int b) [.int 1, .int 2] = decide (b = 1 ∨ b = 2) := by
  by_cases c3 : b = 1
  · subst c3; rfl
  · by_cases c4 : b = 2
    · subst c4; rfl
    · rw [decide_eq_false (by omega)]
      show ((1 == b) || ((2 == b) || false)) = false
      rw [beq_eq_false_iff_ne.mpr (fun z => c3 z.symm), beq_eq_false_iff_ne.mpr (fun z => c4 z.symm)]
      rfl
/-- all objects but lists are kept -/
def Tk (H H' : Hp) : Prop := ∀ b u, H b = some u → (∀ zs, u ≠ .lst zs) → H' b = some u
theorem Tk.of {H H' : Hp} (s : Same H H') : Tk H H' := fun b u e _ => s b u e
theorem Tk.kp {d : Addr} {H H' : Hp} (k : Kp d H H') (h : Dice H d) : Tk H H' := fun b u e n => k b u (fun z => by
  obtain ⟨x, y, z', q⟩ := h
  rw [z, q] at e
  cases e
  exact n _ rfl) e
theorem Tk.wr {L : Addr} {H : Hp} {zs : List V} {o : HO} (h : H L = some (.lst zs)) : Tk H (upd H L o) := fun b u e n => by
  rw [upd_ne (fun z => by rw [z, h] at e; cases e; exact n _ rfl)]
  exact e
theorem Tk.trans {H H1 H2 : Hp} (a : Tk H H1) (b : Tk H1 H2) : Tk H H2 := fun c u e n => b c u (a c u e n) n
theorem sqT_tk {K : PySem.W.Frag} {H H' : Hp} {a : Addr} {xs : List V} (h : SqT K H a xs) (s : Tk H H') : SqT K H' a xs := by
  rcases h with (h | ⟨o, h⟩) | h
  · exact .inl (.inl (s _ _ h (fun zs e => by cases e)))
  · exact .inl (.inr ⟨o, s _ _ h (fun zs e => by cases e)⟩)
  · exact .inr h
theorem tup_tk {H H' : Hp} {a : Addr} {xs : List V} (h : H a = some (.tup xs)) (s : Tk H H') : H' a = some (.tup xs) := s _ _ h (fun zs e => by cases e)
theorem Kp.wr {d L : Addr} {H0 Hc : Hp} {o : HO} (k : Kp d H0 Hc) (h : H0 L = none) : Kp d H0 (upd Hc L o) := fun b u n e => by
  rw [upd_ne (ne_of_none e h)]
  exact k b u n e
theorem Dice.wr {d L : Addr} {Hc : Hp} {o : HO} (k : Dice Hc d) (h : L ≠ d) : Dice (upd Hc L o) d := by
  obtain ⟨a, b, c, e⟩ := k
  exact ⟨a, b, c, by rw [upd_ne h.symm]; exact e⟩
theorem Dice.sm {H H' : Hp} {d : Addr} (h : Dice H d) (s : Same H H') : Dice H' d := by
  obtain ⟨a, b, c, e⟩ := h
  exact ⟨a, b, c, s _ _ e⟩
theorem all_lay {ds : List PyData} (h : ∀ d ∈ ds, d.canLay0 = true) : PyData.canLayAll0 ds = true := by
  induction ds with
  | nil => rfl
  | cons d r ih => rw [PyData.canLayAll0, h d List.mem_cons_self, ih fun x hx => h x (List.mem_cons_of_mem _ hx)]; rfl
theorem all_depth {ds : List PyData} {k : Nat} (h : ∀ d ∈ ds, d.depth ≤ k) : PyData.depthAll ds ≤ k := by
  induction ds with
  | nil => simp [PyData.depthAll]
  | cons d r ih =>
    have h1 := h d List.mem_cons_self
    have h2 := ih fun x hx => h x (List.mem_cons_of_mem _ hx)
    rw [PyData.depthAll]
    omega
theorem all_eqv {ds : List PyData} (h : ∀ d ∈ ds, PyData.eqv d d = true) : PyData.eqvAll ds ds = true := by
  induction ds with
  | nil => rfl
  | cons d r ih => rw [PyData.eqvAll, h d List.mem_cons_self, ih fun x hx => h x (List.mem_cons_of_mem _ hx)]; rfl
/-- what may be compared with itself -/
def Fine (k : Nat) (d : PyData) : Prop := d.canLay0 = true ∧ d.depth ≤ k ∧ PyData.eqv d d = true
theorem Fine.int (n : Int) : Fine 0 (.int n) := ⟨rfl, by simp [PyData.depth], by simp [PyData.eqv]⟩
theorem Fine.le {j k : Nat} {d : PyData} (h : Fine j d) (hk : j ≤ k) : Fine k d := ⟨h.1, Nat.le_trans h.2.1 hk, h.2.2⟩
theorem Fine.tup {k : Nat} {ds : List PyData} (h : ∀ d ∈ ds, Fine k d) : Fine (k + 1) (.tuple ds) := by
  refine ⟨all_lay fun d hd => (h d hd).1, ?_, all_eqv fun d hd => (h d hd).2.2⟩
  have := all_depth fun d hd => (h d hd).2.1
  rw [PyData.depth]
  omega
theorem Fine.lst {k : Nat} {ds : List PyData} (h : ∀ d ∈ ds, Fine k d) : Fine (k + 1) (.list ds) := by
  refine ⟨all_lay fun d hd => (h d hd).1, ?_, all_eqv fun d hd => (h d hd).2.2⟩
  have := all_depth fun d hd => (h d hd).2.1
  rw [PyData.depth]
  omega
theorem Fine.shaped {k : Nat} {d : PyData} (h : Fine k d) (hk : k ≤ 64) : SeqAt.shaped d = true := by
  unfold SeqAt.shaped
  rw [Bool.and_eq_true]
  exact ⟨h.1, decide_eq_true (Nat.le_trans h.2.1 hk)⟩
theorem fine_ints (ns : List Int) : Fine 1 (.tuple (ns.map PyData.int)) := Fine.tup fun d hd => by
  obtain ⟨n, _, rfl⟩ := List.mem_map.mp hd
  exact Fine.int n
theorem byt_app {a b : List Int} (ha : Byt a) (hb : Byt b) : Byt (a ++ b) := fun x hx => (List.mem_append.mp hx).elim (ha x) (hb x)
theorem byt_take {a : List Int} (h : Byt a) (k : Nat) : Byt (a.take k) := fun b hb => h b (List.mem_of_mem_take hb)
theorem byt_cons {x : Int} {a : List Int} (hx : 0 ≤ x ∧ x < 256) (ha : Byt a) : Byt (x :: a) := fun b hb => by
  rcases List.mem_cons.mp hb with rfl | hb
  · exact hx
  · exact ha b hb
theorem flat_byt {α : Type} {f : α → List Int} : ∀ {l : List α}, (∀ x ∈ l, Byt (f x)) → Byt (l.flatMap f)
  | [], _ => fun b hb => by cases hb
  | x :: r, h => by
    rw [List.flatMap_cons]
    exact byt_app (h x List.mem_cons_self) (flat_byt fun y hy => h y (List.mem_cons_of_mem _ hy))
theorem w_iEnum {R : It → Hp → Prop} (h : ta σ H fun vs H1 => ∃ a xs, vs = [.ref a] ∧ SqL K H1 a xs ∧ R (Ite K a) H1) : iEnum K ta σ H R := h
/-- a comprehension over enumerate of a list -/
theorem w_lcEn {p : Addr} {xs : List V} {R : Addr → Hp → Prop} (hS : SqL K H p xs) (h : ∀ D, H D = none → ∃ Pv : Nat → Hp → Prop, Pv 0 (upd H D (.lst [])) ∧ (∀ i H2, i ≤ xs.length → Pv i H2 → SqL K H2 p xs) ∧
      (∀ (i : Nat) x T H2, xs[i]? = some x → Pv i H2 → H2 T = none → g (.ref T) (wipe σ vs) (upd H2 T (.tup [.int (i : Nat), x])) fun σ2 H2 => wipe σ2 vs = wipe σ vs ∧ tt σ2 H2 fun b H3 =>
        if b = true then te σ2 H3 fun y H4 => ∃ acc, H4 D = some (.lst acc) ∧ acc.length < sizeLine ∧ Pv (i + 1) (upd H4 D (.lst (acc ++ [y]))) else Pv (i + 1) H3) ∧ (∀ H2, Pv xs.length H2 → R D H2)) :
    ∃ a ys, [V.ref p] = [V.ref a] ∧ SqL K H a ys ∧ ∀ D, H D = none → ∃ W : Nat → Nat → Hp → Prop, (∃ m, W 0 m (upd H D (.lst []))) ∧ ∀ i m H, W i m H →
      ((Ite K a).stop i H ∧ R D H) ∨ ((Ite K a).go i H ∧ ∃ Nx : Hp → Prop, (∀ H', Nx H' → ∃ m', m' < m ∧ W (i + 1) m' H') ∧ ∀ x H', (Ite K a).yld i H x H' → g x (wipe σ vs) H' fun σ2 H2 => wipe σ2 vs = wipe σ vs ∧ tt σ2 H2 fun b H3 =>
        if b = true then te σ2 H3 fun y H4 => ∃ acc, H4 D = some (.lst acc) ∧ acc.length < sizeLine ∧ Nx (upd H4 D (.lst (acc ++ [y]))) else Nx H3) := by
  refine ⟨p, xs, rfl, hS, fun D hD => ?_⟩
  obtain ⟨Pv, h0, hl, hs, hd⟩ := h D hD
  refine ⟨fun i m H => m + i = xs.length ∧ Pv i H, ⟨xs.length, rfl, h0⟩, ?_⟩
  rintro i m H2 ⟨hm, p2⟩
  have q := hl i H2 (by omega) p2
  by_cases h1 : i < xs.length
  · refine .inr ⟨⟨xs, xs[i], q, List.getElem?_eq_getElem h1⟩, Pv (i + 1), fun H' p' => ⟨m - 1, by omega, by omega, p'⟩, ?_⟩
    rintro v H' ⟨T, x, rfl, hT, rfl, hx⟩
    exact hs i x T H2 (hx xs q) p2 hT
  · obtain rfl : i = xs.length := by omega
    exact .inl ⟨⟨xs, q, Nat.le_refl _⟩, hd H2 p2⟩
theorem cut_to10 (xs : List V) (n : Nat) : cutV xs none (some (n : Int)) = xs.take n := by
  unfold cutV
  rw [HT.sIx_nat, HT.sIx_none, List.drop_zero, Nat.sub_zero]
  by_cases h : n ≤ xs.length
  · rw [Nat.min_eq_left h]
  · rw [Nat.min_eq_right (by omega), List.take_length, List.take_of_length_le (by omega)]
theorem w_slTo {a : Addr} {d : List Int} {n : Nat} {H : Hp} {Q : VK} (e : SqT K H a (d.map V.int)) (q : ∀ p H', Same H H' → SqT K H' p ((d.take n).map V.int) → Q (.ref p) H') : rSlA K (.ref a) none (some (n : Int)) H Q := by
  refine ⟨a, _, rfl, e, fun hw => ?_, fun _ p hp => ?_⟩
  · rw [HT.sIx_nat, List.length_map] at hw
    have : d.take n = d := List.take_of_length_le (by omega)
    refine q a H (Same.refl H) ?_
    rw [this]
    exact e
  · refine q p _ (same_new hp _) (SqT.of ?_)
    rw [upd_same, cut_to10, List.map_take]
theorem Fine.str {x : Str} (h : PyData.strOk x = true) : Fine 0 (.str x) := ⟨by rw [PyData.canLay0]; exact h, by simp [PyData.depth], by simp [PyData.eqv]⟩
/-- two tuples of the same data -/
theorem w_neSame {a b : Addr} {xs ys : List V} {ds : List PyData} {k : Nat} (ha : SqT K H a xs) (hb : SqT K H b ys) (h1 : DpAll K H xs ds) (h2 : DpAll K H ys ds) (f : Fine k (.tuple ds)) (hk : k ≤ 64) (q : Q (.bl false) H) : rNeD K (.ref a) (.ref b) H Q :=
  ⟨_, _, .tup ha h1, .tup hb h2, f.shaped hk, f.shaped hk, by
    rw [f.2.2]
    exact q⟩
theorem w_eqSame {a b : Addr} {xs ys : List V} {ds : List PyData} {k : Nat} (ha : SqT K H a xs) (hb : SqT K H b ys) (h1 : DpAll K H xs ds) (h2 : DpAll K H ys ds) (f : Fine k (.tuple ds)) (hk : k ≤ 64) (q : Q (.bl true) H) : rEqD K (.ref a) (.ref b) H Q :=
  ⟨_, _, .tup ha h1, .tup hb h2, f.shaped hk, f.shaped hk, by
    rw [f.2.2]
    exact q⟩
theorem fine_pair {x : Str} {n : Int} (h : PyData.strOk x = true) : Fine 1 (.tuple [.str x, .int n]) := Fine.tup fun d hd => by
  rcases List.mem_cons.mp hd with rfl | hd
  · exact Fine.str h
  · rw [List.mem_singleton.mp hd]; exact Fine.int n
theorem passLam {A : Around} {outer : List Env} {s : Shared} {H : Hp} {E : XK} {scope : Scope} {f c' : Addr} : Passes (L2.CX (lamCx X A outer s H E scope f c').prog (lamCx X A outer s H E scope f c').w) (lamCx X A outer s H E scope f c') E := passes_call (takes_of rfl rfl rfl rfl) fun _ _ _ _ h => h
theorem op_neDK (K0 : PySem.W.Frag) (hK : X.K = K0) (hu : X.A.units + 64 < cLine) : OpR X (compareOp .NotEq) (rNeD K0) := by
  subst hK
  exact op_neD hu
theorem op_eqDK (K0 : PySem.W.Frag) (hK : X.K = K0) (hu : X.A.units + 64 < cLine) : OpR X (compareOp .Eq) (rEqD K0) := by
  subst hK
  exact op_eqD hu
theorem tabs_kp {T : List (Addr × Str)} {H H' : Hp} {d : Addr} (t : Tabs T H) (k : Kp d H H') (hd : Dice H d) : Tabs T H' := fun p hp => by
  obtain ⟨ps, h1, h2, h3⟩ := t p hp
  obtain ⟨x, y, z, e⟩ := hd
  refine ⟨ps, k _ _ (fun n => by rw [n, e] at h1; cases h1) h1, h2, fun pos cv hc => ?_⟩
  obtain ⟨c, e1, e2⟩ := h3 pos cv hc
  refine ⟨c, e1, k _ _ (fun n => ?_) e2⟩
  rw [n, e] at e2
  unfold CodeO at e2
  cases e2
theorem ne_dice {H : Hp} {L d : Addr} (h : H L = none) (k : Dice H d) : L ≠ d := fun z => by
  obtain ⟨a, b, c, e⟩ := k
  rw [z, e] at h
  cases h
theorem free_kp {d p : Addr} {H0 Hc : Hp} (k : Kp d H0 Hc) (hd : Dice Hc d) (hp : Hc p = none) : H0 p = none := (newl (o := .lst []) k hd hp rfl).2.2.2.2.1
theorem w_ifRest {c : TT} {a b : TS} {D : Ends} {σ : L2.St} {H : Hp} (I : L2.St → Hp → Prop) (h1 : ∀ N : L2.St → Hp → Prop, (∀ σ' H', I σ' H' → N σ' H') → tIfS c a b { D with nx := N } σ H) (h2 : ∀ σ' H', I σ' H' → D.nx σ' H') : tIfS c a b D σ H := h1 D.nx h2
theorem lst_kp {H H' : Hp} {L d : Addr} {o : HO} (k : Kp d H H') (h : H L = some o) (n : L ≠ d) : H' L = some o := k _ _ n h
theorem ext_lst {H H' : Hp} {L : Addr} {xs : List V} (x : ExtN H H') (h : H L = some (.lst xs)) : H' L = some (.lst xs) := x _ _ h fun q z => by cases z
theorem ext_tup {H H' : Hp} {L : Addr} {xs : List V} (x : ExtN H H') (h : H L = some (.tup xs)) : H' L = some (.tup xs) := x _ _ h fun q z => by cases z
theorem Tups.sm {H H' : Hp} (s : Same H H') : ∀ {zs : List Addr} {ps : List (List Int)}, Tups H zs ps → Tups H' zs ps
  | _, _, .nil => .nil
  | _, _, .cons h r => .cons (s _ _ h) (Tups.sm s r)
theorem Tups.ex {H H' : Hp} (s : ExtN H H') : ∀ {zs : List Addr} {ps : List (List Int)}, Tups H zs ps → Tups H' zs ps
  | _, _, .nil => .nil
  | _, _, .cons h r => .cons (ext_tup s h) (Tups.ex s r)
theorem w_lamT {cLF : Addr} {ret : Str} {tl : XK → Hp → VK → Prop} {H : Hp} {Q : VK} (h : tl (fun cls _ H' => ∃ b, PySem.W.exmOne K cls (.ref cLF) = some b ∧ (b = true → Q (.str ret) H') ∧ (b = false → False)) H Q) : TTold K cLF ret tl H Q := h
theorem sIx_neg {n k : Nat} {z : Int} (hz : z = -(k : Int)) (h0 : 0 < k) (h : k ≤ n) (d0 : Nat) : HT.sIx n d0 (some z) = n - k := by
  show (if z < 0 then (z + (n : Int)).toNat else min z.toNat n) = n - k
  rw [if_pos (by omega)]
  omega
theorem w_slToN {n : Nat} {z : Int} (hz : z = -(n : Int)) (h0 : 0 < n) (hn : n ≤ d.length) (e : SqT K H a (d.map V.int)) (q : ∀ p H', Same H H' → SqT K H' p ((d.take (d.length - n)).map V.int) → Q (.ref p) H') : rSlA K (.ref a) none (some z) H Q := by
  have hl : n ≤ (d.map V.int).length := by rw [List.length_map]; exact hn
  refine ⟨a, _, rfl, e, fun hw => ?_, fun _ p hp => ?_⟩
  · rw [sIx_neg hz h0 hl, List.length_map] at hw
    omega
  · refine q p _ (same_new hp _) (SqT.of ?_)
    rw [upd_same]
    unfold cutV
    rw [sIx_neg hz h0 hl, HT.sIx_none, List.drop_zero, Nat.sub_zero, List.map_take, List.length_map]
theorem w_slFromN {n : Nat} {z : Int} (hz : z = -(n : Int)) (h0 : 0 < n) (hn : n ≤ d.length) (e : SqT K H a (d.map V.int)) (q : ∀ p H', Same H H' → SqT K H' p ((d.drop (d.length - n)).map V.int) → Q (.ref p) H') : rSlA K (.ref a) (some z) none H Q := by
  have hl : n ≤ (d.map V.int).length := by rw [List.length_map]; exact hn
  refine ⟨a, _, rfl, e, fun hw => ?_, fun _ p hp => ?_⟩
  · rw [sIx_neg hz h0 hl, List.length_map] at hw
    have : d.drop (d.length - n) = d := by rw [show d.length - n = 0 by omega]; rfl
    refine q a H (Same.refl H) ?_
    rw [this]
    exact e
  · refine q p _ (same_new hp _) (SqT.of ?_)
    rw [upd_same]
    unfold cutV
    rw [sIx_neg hz h0 hl, HT.sIx_none, List.map_drop, List.length_map, List.take_of_length_le (by rw [List.length_drop, List.length_map]; omega)]
theorem tup_once (l : Addr) (items : Array Value) (n : Nat) (dd : Option Addr) (sl : Array (Option Value)) (u : Tok) :
    Meets (Builtin.«tuple.__mul__» ⟨[.ref l, .int 1 u], []⟩) (fun _ R s => s.heap.get? l = some { cls := .type "tuple", dict := dd, data := .seq items n, slots := sl } ∧ R (.ok (.ret (.ref l))) s) :=
  .of_wp fun prog w A R s h => by
    obtain ⟨hp, g, d, tk, os⟩ := s
    obtain ⟨hl, h⟩ := h
    have f1 := AutoSeq1.idx_int
    wp_walk using wpAny_loadPart' hl
    exact ⟨_, rfl, h⟩
theorem rep_one {α : Type} (x : α) (n : Nat) : (List.replicate n [x]).flatten = List.replicate n x := by
  induction n with
  | zero => rfl
  | succ n ih => rw [List.replicate_succ, List.flatten_cons, ih, List.replicate_succ]; rfl
/-- t * k, for k from 1 on: once is t itself -/
def rRepA (K : PySem.W.Frag) : R2 := fun x y H Q => ∃ l k xs, x = .ref l ∧ y = .int k ∧ SqT K H l xs ∧ xs ≠ [] ∧ 1 ≤ k ∧ k ≤ 1000 ∧ xs.length ≤ 1000 ∧ (k = 1 → Q (.ref l) H) ∧ (2 ≤ k → ∀ p, H p = none → Q (.ref p) (upd H p (.tup (List.replicate k.toNat xs).flatten)))
theorem op_repA : OpR X (binaryOp .Mult) (rRepA X.K) := by
  intro pins s σ H x y v u Q I rx ry h
  obtain ⟨l, k, xs, rfl, rfl, hT, hne, h1, h2, hz, q1, q2⟩ := h
  by_cases c : 2 ≤ k
  · exact op_repT pins s σ H _ _ v u Q I rx ry ⟨l, k, xs, rfl, rfl, hT, hne, c, h2, hz, q2 c⟩
  obtain rfl : k = 1 := by omega
  cases rx
  obtain ⟨t, rfl⟩ := ry
  obtain ⟨its, r, ⟨⟨cls, dd, data, sl⟩, ho, hc, n, hd⟩, hs⟩ := I.tuple hT
  simp only at hc hd
  subst hc hd
  refine wpAny_binaryOp_repeat_ref (T := "tuple") (U := "int") (by decide) ⟨_, ho, rfl⟩ (fun s' => typeIs_int s' 1 t) noFill_tuple_mul F.fills_int_mul F.slot_int_rmul repeat_tuple F.slot_int_index.lookup
    (call_meets F.slot_int_rmul (typeIs_int s 1 t) F.entry_int_rmul (F.args_int_rmul_2 _ _) (int_rmul_tuple 1 t l its.toArray n dd sl)
      ⟨ho, rfl, ⟨_, ho, rfl⟩, call_meets F.slot_tuple_mul ⟨_, ho, rfl⟩ F.entry_tuple_mul (F.args_tuple_mul_2 _ _) (tup_once l its.toArray n dd sl t) ⟨ho, ?_⟩⟩)
  exact ⟨.ref l, H, I, rfl, q1 rfl⟩
theorem op_repAK (K : PySem.W.Frag) (h : X.K = K) : OpR X (binaryOp .Mult) (rRepA K) := by subst h; exact op_repA
theorem w_repInts {z k : Int} (ha : SqT K H a [.int z]) (h1 : 1 ≤ k) (h2 : k ≤ 1000) (q : ∀ p H', Same H H' → SqT K H' p ((List.replicate k.toNat z).map V.int) → Q (.ref p) H') : rRepA K (.ref a) (.int k) H Q := by
  refine ⟨a, k, _, rfl, rfl, ha, List.cons_ne_nil _ _, h1, h2, (by show 1 ≤ 1000; decide), fun z => ?_, fun _ p hp => ?_⟩
  · subst z
    exact q a H (fun _ _ h => h) ha
  · refine q p _ (same_new hp _) (SqT.of ?_)
    rw [upd_same, rep_one, List.map_replicate]
theorem w_rU {f : Int → V} {i : Int} (q : Q (f i) H) : rU f (.int i) H Q := ⟨i, rfl, q⟩
theorem w_slToZ {n : Nat} {z : Int} (hz : z = (n : Int)) (e : SqT K H a (d.map V.int)) (q : ∀ p H', Same H H' → SqT K H' p ((d.take n).map V.int) → Q (.ref p) H') : rSlA K (.ref a) none (some z) H Q := by
  subst hz
  exact w_slTo e q
theorem w_slFromZ {n : Nat} {z : Int} (hz : z = (n : Int)) (e : SqT K H a (d.map V.int)) (q : ∀ p H', Same H H' → SqT K H' p ((d.drop n).map V.int) → Q (.ref p) H') : rSlA K (.ref a) (some z) none H Q := by
  subst hz
  exact w_slFrom e q
def spCk2 (K : PySem.W.Frag) : Sp := fun vs H Q _ => ∃ (a : Addr) (d : List Int), vs = [.ref a] ∧ (SqL K H a (d.map V.int) ∨ SqT K H a (d.map V.int)) ∧ GivesT H Q (sum4 d)
end
end Gk
end

section
-- part K08M
set_option Elab.async false
set_option linter.all false
set_option maxRecDepth 100000
set_option maxHeartbeats 2000000
/-! K08M: pages as bytes; core Lean -/
namespace M8
open PySem PySem.Spec PyProof.Rows L2 Fw M5 M10 Gk
abbrev Cel := List Int × List Int
def cellB (c : Cel) : List Int := fixedL (c.1.length : Int) 2 ++ (fixedL (c.2.length : Int) 2 ++ (c.1 ++ c.2))
theorem cellB_len (c : Cel) : (cellB c).length = 4 + c.1.length + c.2.length := by
  simp only [cellB, List.length_append, fixed_len]
  omega
def cellsB (cs : List Cel) : List Int := cs.flatMap cellB
def sizeL (cs : List Cel) : Nat := 11 + (cs.map fun c => 4 + c.1.length + c.2.length).sum
theorem cellsB_len : ∀ cs : List Cel, (cellsB cs).length + 11 = sizeL cs
  | [] => rfl
  | c :: r => by
    have := cellsB_len r
    have e : cellsB (c :: r) = cellB c ++ cellsB r := List.flatMap_cons
    rw [e, List.length_append, cellB_len]
    unfold sizeL at this ⊢
    rw [List.map_cons, List.sum_cons]
    omega
def headB (k l : Int) (cs : List Cel) : List Int := k :: (fixedL l 4 ++ fixedL (cs.length : Int) 2)
def bodyB (k l : Int) (cs : List Cel) (n : Nat) : List Int := headB k l cs ++ (cellsB cs ++ List.replicate (n - sizeL cs) 0)
def pageB (k l : Int) (cs : List Cel) (n : Nat) : List Int := bodyB k l cs n ++ sum4 (bodyB k l cs n)
theorem head_len (k l : Int) (cs : List Cel) : (headB k l cs).length = 7 := by
  simp only [headB, List.length_cons, List.length_append, fixed_len]
theorem body_len {k l : Int} {cs : List Cel} {n : Nat} (h : sizeL cs ≤ n) : (bodyB k l cs n).length + 4 = n := by
  have := cellsB_len cs
  simp only [bodyB, List.length_append, head_len, List.length_replicate]
  omega
theorem sum4_len (d : List Int) : (sum4 d).length = 4 := fixed_len _ _
theorem page_len {k l : Int} {cs : List Cel} {n : Nat} (h : sizeL cs ≤ n) : (pageB k l cs n).length = n := by
  have := body_len (k := k) (l := l) h
  rw [pageB, List.length_append, sum4_len]
  omega
def cellO (d : List Int) (p e : Nat) : Option (Cel × Nat) :=
  if e < p + 4 then none
  else if e < p + 4 + (fromL ((d.drop p).take 2)).toNat + (fromL ((d.drop (p + 2)).take 2)).toNat then none
  else some (((d.drop (p + 4)).take (fromL ((d.drop p).take 2)).toNat, (d.drop (p + 4 + (fromL ((d.drop p).take 2)).toNat)).take (fromL ((d.drop (p + 2)).take 2)).toNat),
    p + 4 + (fromL ((d.drop p).take 2)).toNat + (fromL ((d.drop (p + 2)).take 2)).toNat)
def cellsO (d : List Int) (e : Nat) : Nat → Nat → Option (List Cel × Nat)
  | 0, p => some ([], p)
  | n + 1, p => match cellO d p e with
    | none => none
    | some (c, p') => match cellsO d e n p' with
      | none => none
      | some (cs, p'') => some (c :: cs, p'')
/-- a page from its bytes -/
def pageO (d : List Int) : Option (Int × Int × List Cel) :=
  if d.length < 11 ∨ sum4 (d.take (d.length - 4)) ≠ d.drop (d.length - 4) then none
  else match cellsO d (d.length - 4) (fromL ((d.drop 5).take 2)).toNat 7 with
    | none => none
    | some (cs, p) => if (d.getD 0 0 = 1 ∨ d.getD 0 0 = 2 ∨ d.getD 0 0 = 3 ∨ d.getD 0 0 = 4) ∧ ((d.drop p).take (d.length - 4 - p)).any (· != 0) = false then some (d.getD 0 0, fromL ((d.drop 1).take 4), cs) else none
def okC (c : Cel) : Prop := c.1.length < 65536 ∧ c.2.length < 65536
theorem from2 {n : Nat} (h : n < 65536) : (fromL (fixedL (n : Int) 2)).toNat = n := by
  rw [from_fixed 2 _ (by omega) (by have : (256 : Int) ^ 2 = 65536 := by decide
                                    omega)]
  rfl
theorem take_pre {a b : List Int} {k : Nat} (h : a.length = k) : (a ++ b).take k = a := by subst h; simp
theorem drop_pre {a b : List Int} {k : Nat} (h : a.length = k) : (a ++ b).drop k = b := by subst h; simp
theorem cell_at {d r : List Int} {c : Cel} {p e : Nat} (h : d.drop p = cellB c ++ r) (he : p + (cellB c).length ≤ e) (hc : okC c) : cellO d p e = some (c, p + (cellB c).length) ∧ d.drop (p + (cellB c).length) = r := by
  obtain ⟨k, v⟩ := c
  have hl := cellB_len (k, v)
  have f2 : ∀ n : Nat, (fixedL (n : Int) 2).length = 2 := fun n => fixed_len _ _
  have h0 : d.drop p = fixedL (k.length : Int) 2 ++ (fixedL (v.length : Int) 2 ++ (k ++ (v ++ r))) := by rw [h]; simp [cellB]
  have h2 : d.drop (p + 2) = fixedL (v.length : Int) 2 ++ (k ++ (v ++ r)) := by rw [← List.drop_drop, h0, drop_pre (f2 _)]
  have h4 : d.drop (p + 4) = k ++ (v ++ r) := by rw [show p + 4 = p + 2 + 2 by omega, ← List.drop_drop, h2, drop_pre (f2 _)]
  have hk : d.drop (p + 4 + k.length) = v ++ r := by rw [← List.drop_drop, h4, drop_pre rfl]
  have a1 : (fromL ((d.drop p).take 2)).toNat = k.length := by rw [h0, take_pre (f2 _)]; exact from2 hc.1
  have a2 : (fromL ((d.drop (p + 2)).take 2)).toNat = v.length := by rw [h2, take_pre (f2 _)]; exact from2 hc.2
  simp only at hl
  refine ⟨?_, ?_⟩
  · unfold cellO
    rw [a1, a2, if_neg (by omega), if_neg (by omega), h4, hk, take_pre rfl, take_pre rfl, hl]
    congr 2
    omega
  · rw [hl, show p + (4 + k.length + v.length) = p + 4 + k.length + v.length by omega, ← List.drop_drop, hk, drop_pre rfl]
theorem cells_at {d : List Int} {e : Nat} : ∀ (cs : List Cel) (p : Nat) (r : List Int), d.drop p = cellsB cs ++ r → p + (cellsB cs).length ≤ e → (∀ c ∈ cs, okC c) → cellsO d e cs.length p = some (cs, p + (cellsB cs).length) ∧ d.drop (p + (cellsB cs).length) = r
  | [], p, r, h, _, _ => ⟨rfl, h⟩
  | c :: cs, p, r, h, he, hc => by
    have e0 : cellsB (c :: cs) = cellB c ++ cellsB cs := List.flatMap_cons
    rw [e0] at h he ⊢
    rw [List.append_assoc] at h
    rw [List.length_append] at he ⊢
    obtain ⟨x1, x2⟩ := cell_at (e := e) h (by omega) (hc c List.mem_cons_self)
    obtain ⟨y1, y2⟩ := cells_at (e := e) cs (p + (cellB c).length) r x2 (by omega) fun z hz => hc z (List.mem_cons_of_mem _ hz)
    refine ⟨?_, by rw [← Nat.add_assoc]; exact y2⟩
    rw [List.length_cons, cellsO, x1]
    show (match cellsO d e cs.length (p + (cellB c).length) with | none => none | some (cs, p'') => some (c :: cs, p'')) = _
    rw [y1, Nat.add_assoc]
theorem page_take {k l : Int} {cs : List Cel} {n : Nat} (h : sizeL cs ≤ n) : (pageB k l cs n).take (n - 4) = bodyB k l cs n ∧ (pageB k l cs n).drop (n - 4) = sum4 (bodyB k l cs n) := by
  have := body_len (k := k) (l := l) h
  exact ⟨take_pre (by omega), drop_pre (by omega)⟩
theorem pageO_page {k l : Int} {cs : List Cel} {n : Nat} (h : sizeL cs ≤ n) (hk : 1 ≤ k ∧ k ≤ 4) (hl : 0 ≤ l ∧ l < 256 ^ 4) (hn : cs.length < 65536) (hc : ∀ c ∈ cs, okC c) : pageO (pageB k l cs n) = some (k, l, cs) := by
  have hlen := page_len (k := k) (l := l) h
  have hcl := cellsB_len cs
  obtain ⟨t1, t2⟩ := page_take (k := k) (l := l) h
  have hb : pageB k l cs n = k :: (fixedL l 4 ++ (fixedL (cs.length : Int) 2 ++ (cellsB cs ++ (List.replicate (n - sizeL cs) 0 ++ sum4 (bodyB k l cs n))))) := by
    simp [pageB, bodyB, headB]
  have f4 : (fixedL l 4).length = 4 := fixed_len _ _
  have f2 : (fixedL (cs.length : Int) 2).length = 2 := fixed_len _ _
  have d1 : (pageB k l cs n).drop 1 = fixedL l 4 ++ (fixedL (cs.length : Int) 2 ++ (cellsB cs ++ (List.replicate (n - sizeL cs) 0 ++ sum4 (bodyB k l cs n)))) := by rw [hb]; rfl
  have d5 : (pageB k l cs n).drop 5 = fixedL (cs.length : Int) 2 ++ (cellsB cs ++ (List.replicate (n - sizeL cs) 0 ++ sum4 (bodyB k l cs n))) := by
    rw [show 5 = 1 + 4 from rfl, ← List.drop_drop, d1, drop_pre f4]
  have d7 : (pageB k l cs n).drop 7 = cellsB cs ++ (List.replicate (n - sizeL cs) 0 ++ sum4 (bodyB k l cs n)) := by
    rw [show 7 = 5 + 2 from rfl, ← List.drop_drop, d5, drop_pre f2]
  obtain ⟨x1, x2⟩ := cells_at (e := n - 4) cs 7 _ d7 (by omega) hc
  have g0 : (pageB k l cs n).getD 0 0 = k := by rw [hb]; rfl
  have hz : (List.replicate (n - sizeL cs) (0 : Int)).any (· != 0) = false := by
    rw [List.any_eq_false]
    intro x hx
    rw [(List.mem_replicate.mp hx).2]
    decide
  unfold pageO
  rw [hlen, t1, t2, if_neg (by rintro (z | z); · omega
                               · exact z rfl), d5, take_pre f2, from2 hn, x1]
  show (if _ then _ else _) = _
  rw [x2, take_pre (by rw [List.length_replicate]; omega), hz, g0, if_pos ⟨by omega, rfl⟩, d1, take_pre f4, from_fixed 4 l hl.1 hl.2]
/-! one byte changed -/
theorem sum_mid (u v : List Int) (x : Int) : (u ++ x :: v).sum = u.sum + v.sum + x := by
  rw [List.sum_append, List.sum_cons]
  omega
theorem sum4_ne {u v : List Int} {x y : Int} (hx : 0 ≤ x ∧ x < 256) (hy : 0 ≤ y ∧ y < 256) (h : x ≠ y) : sum4 (u ++ x :: v) ≠ sum4 (u ++ y :: v) := by
  intro e
  have b1 := ck_b (u ++ x :: v)
  have b2 := ck_b (u ++ y :: v)
  have p4 : (256 : Int) ^ 4 = 4294967296 := by decide
  have e2 := congrArg fromL e
  unfold sum4 at e2
  rw [from_fixed 4 _ (by omega) (by omega), from_fixed 4 _ (by omega) (by omega)] at e2
  have e3 : (ck (u ++ x :: v)).1 = (ck (u ++ y :: v)).1 := by omega
  rw [ck_sums, ck_sums, sum_mid, sum_mid] at e3
  simp only at e3
  omega
/-- a page's bytes with one of them changed -/
theorem pageO_bent {d u v : List Int} {x y : Int} (hd : d = u ++ x :: v) (h11 : 11 ≤ d.length) (hb : sum4 (d.take (d.length - 4)) = d.drop (d.length - 4)) (hx : 0 ≤ x ∧ x < 256) (hy : 0 ≤ y ∧ y < 256) (h : x ≠ y) : pageO (u ++ y :: v) = none := by
  have hl : (u ++ y :: v).length = d.length := by rw [hd]; simp
  unfold pageO
  rw [hl]
  refine if_pos (Or.inr ?_)
  obtain ⟨m, hm⟩ : ∃ m, m = d.length - 4 := ⟨_, rfl⟩
  rw [← hm] at hb ⊢
  have hdl : d.length = u.length + (v.length + 1) := by rw [hd]; simp
  by_cases c : u.length < m
  · -- in the body
    obtain ⟨j, hj⟩ : ∃ j, m = u.length + (j + 1) := ⟨m - u.length - 1, by omega⟩
    have ht : ∀ z : Int, (u ++ z :: v).take m = u ++ z :: v.take j := fun z => by
      rw [hj, List.take_length_add_append, List.take_succ_cons]
    have hdr : ∀ z : Int, (u ++ z :: v).drop m = v.drop j := fun z => by
      rw [hj, List.drop_length_add_append, List.drop_succ_cons]
    rw [ht, hdr]
    rw [hd, ht, hdr] at hb
    rw [← hb]
    exact fun e => sum4_ne hy hx (Ne.symm h) e
  · -- in the sum
    obtain ⟨j, hj⟩ : ∃ j, u.length = m + j := ⟨u.length - m, by omega⟩
    have ht : ∀ z : Int, (u ++ z :: v).take m = u.take m := fun z => List.take_append_of_le_length (by omega)
    have hdr : ∀ z : Int, (u ++ z :: v).drop m = u.drop m ++ z :: v := fun z => List.drop_append_of_le_length (by omega)
    rw [ht, hdr]
    rw [hd, ht, hdr] at hb
    rw [hb]
    intro e
    exact h (List.cons.inj (List.append_cancel_left e)).1
theorem pageO_sum {d : List Int} {r : Int × Int × List Cel} (h : pageO d = some r) : sum4 (d.take (d.length - 4)) = d.drop (d.length - 4) := by
  unfold pageO at h
  split at h
  · cases h
  · rename_i z
    exact Decidable.not_not.mp fun e => z (.inr e)
end M8
end

section
-- part Fll
set_option Elab.async false
set_option linter.all false
set_option maxRecDepth 100000
set_option maxHeartbeats 2000000
/-! Fll: lambdas as values: made, held in a list, handed to a def that calls them -/
namespace LmV
open PySem PySem.Spec PyProof.Rows L2 LamX
structure LamK where
  params : Arguments
  body : Expr
  scope : Scope
  q : Str
  cl : List (Str × Addr)
  c : Addr
/-- at f: such a lambda -/
def LamO (f : Addr) (m : LamK) : HO := .ext fun h => ∃ pm ctv : Value, h.get? f = some (PySem.W.kla_obj "<lambda>" m.q m.params m.body m.scope m.cl pm m.c ctv)
theorem lamO_ne {f : Addr} {m : LamK} (ps : Array Value) : LamO f m ≠ .tbl ps := fun z => by
  unfold LamO at z
  cases z
section
variable {X : Cx} {pins : List (Addr × Obj)} {σ : L2.St} {H : Hp} {s : Shared}
theorem inv_lam {m : LamK} {t' : Nat} {pm ctv : Value} (I : Inv X pins σ H s) : Inv X pins σ (upd H s.heap.objs.size (LamO s.heap.objs.size m)) { s with heap := s.heap.push (PySem.W.kla_obj "<lambda>" m.q m.params m.body m.scope m.cl pm m.c ctv), toks := t' } := by
  refine I.laid (a := s.heap.objs.size) (fun b u e => Heap.get?_push_of_some _ e) (Nat.le_refl _) ?_
  have e : (s.heap.push (PySem.W.kla_obj "<lambda>" m.q m.params m.body m.scope m.cl pm m.c ctv)).get? s.heap.objs.size = some (PySem.W.kla_obj "<lambda>" m.q m.params m.body m.scope m.cl pm m.c ctv) := Heap.get?_push_size _ rfl
  exact ⟨⟨pm, ctv, e⟩, ⟨_, e⟩, fun h1 h2 ⟨p, t, z⟩ st => ⟨p, t, st _ z⟩⟩
/-- the lambda is made, and known from now on -/
theorem lam_make3 {T : List (Addr × Str)} {c P : Addr} {params : Arguments} {body : Expr} {scope : Scope} {pos : Pos} {E : Value → Shared → Prop} {Q : Value → Shared → Prop} (I : Inv X pins σ H s) (TB : TabB X.base X.mg c P) (hcode : X.env.code = .ref c)
    (hm : (P, X.env.qual ++ "<lambda>") ∈ T) (hu : ∀ p ∈ T, p.1 = P → p.2 = X.env.qual ++ "<lambda>") (hT : Tabs T H) (hdef : defaultsOf params X.env = ([], [])) (hfree : ∀ y ∈ scope.names, y.2 = .free → ∃ c, X.env.cells.lookup y.1 = some c)
    (h : ∀ (f c' : Addr) (H1 : Hp) (z : Shared), Inv X pins σ H1 z → ExtN H H1 → Tabs T H1 → H f = none → H1 f = some (LamO f ⟨params, body, scope, X.env.qual ++ "<lambda>", cloFrom X.env.cells scope.names [], c'⟩) → H1 c' = some (CodeO c' (X.env.qual ++ "<lambda>")) → Q (.ref f) z) :
    wpAny (model X.prog X.w) X.A (eval (.Lambda params body scope pos) X.env) Q E s := by
  obtain ⟨ps, hP, htr, hnm⟩ := hT _ hm
  refine PySem.W.kla_eval hdef ?_
  have hPs : s.heap.get? P = some { cls := .none, data := .fields ps } := I.hok P _ hP
  have bP : s.heap.BuiltinsAt X.mg P := TB.bm.keeps I.bk
  cases hc : codeAmong pos ps.toList with
  | none =>
    refine PySem.W.kla_makeFunction (mg := X.mg) (c := c) (P := P) (ps := ps) (closure_ok hfree) I.ok.glob (I.mod.glob.keeps I.bk) hcode (TB.code.keeps I.bk) hPs htr hc TB.gP bP fun c' ctv h' tk hx hge hlt hrec htb => ?_
    obtain ⟨c2, oc, vs, t, e2, hoc, hd, hv⟩ := hrec
    cases e2
    have nC : H c' = none := I.hok.fresh hge
    have I1 := inv_table (t' := tk) (more := #[rawInt pos.line, rawInt pos.col, .ref c']) (h' := h') I hP (fun b o hb e => hx b o hb e) htb hge ⟨oc, vs, t, hoc, hd, hv⟩
    have hE : ExtN H (upd (upd H P (.tbl (ps ++ #[rawInt pos.line, rawInt pos.col, .ref c']))) c' (CodeO c' (X.env.qual ++ "<lambda>"))) := fun b u e n => by
      rw [upd_ne (ne_of_none e nC), upd_ne (fun z => n ps (Option.some.inj (e.symm.trans (by rw [z]; exact hP))))]
      exact e
    have eL : (ps ++ #[rawInt pos.line, rawInt pos.col, .ref c']).toList = ps.toList ++ [rawInt pos.line, rawInt pos.col, .ref c'] := by simp
    have T1 : Tabs T (upd (upd H P (.tbl (ps ++ #[rawInt pos.line, rawInt pos.col, .ref c']))) c' (CodeO c' (X.env.qual ++ "<lambda>"))) := fun p hp => by
      by_cases hb : p.1 = P
      · rw [hu p hp hb, hb]
        refine ⟨_, by rw [upd_ne (ne_of_none hP nC), upd_same], by rw [eL]; exact PySem.TriplesOk_snoc _ _ _ _ htr, fun p' cv hcv => ?_⟩
        rw [eL] at hcv
        rcases among_app _ htr hcv with z | z
        · obtain ⟨c0, e1, e2⟩ := hnm p' cv z
          exact ⟨c0, e1, hE _ _ e2 codeO_ne⟩
        · exact ⟨c', z, upd_same⟩
      · obtain ⟨ps', a1, a2, a3⟩ := hT p hp
        refine ⟨ps', by rw [upd_ne (ne_of_none a1 nC), upd_ne hb]; exact a1, a2, fun p' cv hcv => ?_⟩
        obtain ⟨c0, e1, e2⟩ := a3 p' cv hcv
        exact ⟨c0, e1, hE _ _ e2 codeO_ne⟩
    have eC : upd (upd H P (.tbl (ps ++ #[rawInt pos.line, rawInt pos.col, .ref c']))) c' (CodeO c' (X.env.qual ++ "<lambda>")) c' = some (CodeO c' (X.env.qual ++ "<lambda>")) := upd_same
    generalize upd (upd H P (.tbl (ps ++ #[rawInt pos.line, rawInt pos.col, .ref c']))) c' (CodeO c' (X.env.qual ++ "<lambda>")) = HA at I1 hE T1 eC
    have nF : HA h'.objs.size = none := I1.hok.fresh (Nat.le_refl _)
    have I2 := inv_lam (m := ⟨params, body, scope, X.env.qual ++ "<lambda>", cloFrom X.env.cells scope.names [], c'⟩) (t' := tk) (pm := (X.mg "__name__").getD .none) (ctv := ctv) I1
    exact h h'.objs.size c' _ _ I2 (fun b o e n => (upd_ne (ne_of_none (hE b o e n) nF)).trans (hE b o e n)) (T1.ext fun b o e => (upd_ne (ne_of_none e nF)).trans e) (I.hok.fresh (Nat.le_trans hge (Nat.le_of_lt hlt))) upd_same ((upd_ne (ne_of_none eC nF)).trans eC)
  | some cv =>
    obtain ⟨c', e, hco⟩ := hnm pos cv hc
    subst e
    refine PySem.W.kla_makeFunctionHit (mg := X.mg) (c := c) (P := P) (ps := ps) (closure_ok hfree) I.ok.glob (I.mod.glob.keeps I.bk) hcode (TB.code.keeps I.bk) hPs htr hc bP fun ctv h' tk hx hsz => ?_
    have I1 : Inv X pins σ H { s with heap := h', toks := tk } := I.kept hx
    have nF : H h'.objs.size = none := I1.hok.fresh (Nat.le_refl _)
    have I2 := inv_lam (m := ⟨params, body, scope, X.env.qual ++ "<lambda>", cloFrom X.env.cells scope.names [], c'⟩) (t' := tk) (pm := (X.mg "__name__").getD .none) (ctv := ctv) I1
    exact h h'.objs.size c' _ _ I2 (fun b o e n => (upd_ne (ne_of_none e nF)).trans e) (hT.ext fun b o e => (upd_ne (ne_of_none e nF)).trans e) nF upd_same ((upd_ne (ne_of_none hco nF)).trans hco)
end
/-- what the lambda's body does -/
structure LamR (X : Cx) (params : Arguments) (body : Expr) (scope : Scope) (t : XK → TE) (k : Nat) : Prop where
  names : LamS X.env.scope scope
  bind : ∀ (q : Str) (cl : List (Str × Addr)) (pm cv ctv : Value), bindArgs (PySem.W.kla_fn "<lambda>" q params body scope cl pm cv ctv) ⟨[], []⟩ = pure []
  does : ∀ (A : Around) (outer : List Env) (s : Shared) (H : Hp) (E : XK) (f c' : Addr), Room k (A.deeper (lamEnv X scope s.heap.objs.size f c')) → PE (lamCx X A outer s H E scope f c') body (t E)
/-- at f: a lambda of the running def that does t -/
def LamV (X : Cx) (k : Nat) (H : Hp) (f : Addr) (t : XK → TE) : Prop := ∃ params body scope c', LamR X params body scope t k ∧
  H f = some (LamO f ⟨params, body, scope, X.env.qual ++ "<lambda>", cloFrom X.env.cells scope.names [], c'⟩) ∧ H c' = some (CodeO c' (X.env.qual ++ "<lambda>"))
theorem LamV.at_ {X : Cx} {k : Nat} {H H' : Hp} {f : Addr} {t : XK → TE} (v : LamV X k H f t) (e : ∀ b o, H b = some o → (∀ ps, o ≠ .tbl ps) → (∀ xs, o ≠ .lst xs) → (∀ xs, o ≠ .dK xs) → (∀ C dx fs, o ≠ .ins C dx fs) → H' b = some o) : LamV X k H' f t := by
  obtain ⟨params, body, scope, c', h1, h2, h3⟩ := v
  exact ⟨params, body, scope, c', h1, e _ _ h2 lamO_ne (fun _ z => by unfold LamO at z; cases z) (fun _ z => by unfold LamO at z; cases z) (fun _ _ _ z => by unfold LamO at z; cases z),
    e _ _ h3 codeO_ne (fun _ z => by unfold CodeO at z; cases z) (fun _ z => by unfold CodeO at z; cases z) (fun _ _ _ z => by unfold CodeO at z; cases z)⟩
theorem LamV.ex {X : Cx} {k : Nat} {H H' : Hp} {f : Addr} {t : XK → TE} (v : LamV X k H f t) (e : ExtN H H') : LamV X k H' f t := v.at_ fun b o h n _ _ _ => e b o h n
def tLamV (X : Cx) (k : Nat) (T : List (Addr × Str)) (t : XK → TE) : TE := fun σ H Q => Tabs T H ∧ ∀ (f : Addr) (H1 : Hp), ExtN H H1 → Tabs T H1 → H f = none → LamV X k H1 f t → Q (.ref f) H1
section
variable {X : Cx}
/-- lambda: body -/
theorem pe_lamV {T : List (Addr × Str)} {c P : Addr} {k : Nat} {params : Arguments} {body : Expr} {scope : Scope} {t : XK → TE} {lpos : Pos} (TB : TabB X.base X.mg c P) (hcode : X.env.code = .ref c) (hm : (P, X.env.qual ++ "<lambda>") ∈ T) (hu : ∀ p ∈ T, p.1 = P → p.2 = X.env.qual ++ "<lambda>")
    (sc : Scope) (hsc : X.env.scope = sc) (L : lamSB sc scope = true) (hdef : defaultsOf params X.env = ([], [])) (hbind : ∀ (q : Str) (cl : List (Str × Addr)) (pm cv ctv : Value), bindArgs (PySem.W.kla_fn "<lambda>" q params body scope cl pm cv ctv) ⟨[], []⟩ = pure [])
    (hbody : ∀ (A : Around) (outer : List Env) (s : Shared) (H : Hp) (E : XK) (f c' : Addr), Room k (A.deeper (lamEnv X scope s.heap.objs.size f c')) → PE (lamCx X A outer s H E scope f c') body (t E)) :
    PE X (.Lambda params body scope lpos) (tLamV X k T t) := by
  refine ⟨fun pins s σ H Q I h => ?_⟩
  obtain ⟨hT, h⟩ := h
  have LS : LamS X.env.scope scope := hsc ▸ lamS_by L
  refine lam_make3 I TB hcode hm hu hT hdef (LS.has I.ok) fun f c' H1 z I1 eN T1 nf hf hc => ?_
  exact ⟨.ref f, H1, I1, rfl, h f H1 eN T1 nf ⟨params, body, scope, c', ⟨LS, hbind, hbody⟩, hf, hc⟩⟩
section
variable {pins : List (Addr × Obj)} {σ : L2.St} {H : Hp} {s : Shared}
/-- x(), in the def that got such a lambda -/
theorem pe_act3 {CXg : CXT} {Eg : XK} {Ng : List Str} {qg : Str} {sg : Scope} {g f c' : Addr} {cdg : Value} {params : Arguments} {body : Expr} {scope : Scope} {k i : Nat} {a : Str} {pn : List (Addr × Obj)} {xe : Value → Shared → Prop} {W : WX} {E : XK} {t : XK → TE} {p1 p2 : Pos}
    (I : Inv X pins σ H s) (R : LamR X params body scope t k)
    (tk : Takes ((cxOf CXg X.prog X.w X.K X.mg X.base Ng qg sg g cdg X.A X.stack s H Eg).tr pn xe) W) (hW : ∀ cls d σ' H', E cls d H' → W cls d σ' H') (hr : Room (k + 1) (X.A.deeper (envOfC qg sg s.heap.objs.size g cdg)))
    (hN : Ng[i]? = some a) (hv : Vis sg a) (hd : (a == ("__debug__" : Str)) = false := by decide) (hcd : (a == ("__classdict__" : Str)) = false := by decide) :
    PE ((cxOf CXg X.prog X.w X.K X.mg X.base Ng qg sg g cdg X.A X.stack s H Eg).tr pn xe) (.Call (.Name a p1) [] [] p2)
      (fun σZ HZ Q => σZ[i]? = some (some (.ref f)) ∧ HZ c' = some (CodeO c' (X.env.qual ++ "<lambda>")) ∧ HZ f = some (LamO f ⟨params, body, scope, X.env.qual ++ "<lambda>", cloFrom X.env.cells scope.names [], c'⟩) ∧ t E σ HZ Q) := by
  refine ⟨fun pinsZ sZ σZ HZ Q IZ h => ?_⟩
  obtain ⟨hs, hc, hf, ht⟩ := h
  refine wpAny_Call_Name_kw (thn ((pe_var (pos := p1) (i := i) hN hv hd hcd).run pinsZ sZ σZ HZ (fun v H1 => v = .ref f ∧ H1 = HZ) IZ ⟨.ref f, hs, rfl, rfl⟩) fun u s1 ⟨v, H1, I1, r1, ev, eH⟩ => ?_)
  subst ev
  rw [eH] at I1
  obtain rfl : u = Value.ref f := r1
  obtain ⟨⟨pm, ctv, of1⟩, _, _⟩ := I1.hok f _ hf
  refine PySem.W.callWith_F0 ⟨_, _, _, _, of1⟩ ?_
  have un : Un (frs X.stack) [] H HZ s.heap s1.heap := I1.base
  obtain ⟨⟨oc, vs, tt, hoc, hdc, hvc⟩, _, _⟩ := I1.hok c' _ hc
  have rc : codeAny (model X.prog X.w) (X.A.deeper (envOfC qg sg s.heap.objs.size g cdg)) (.call (.ref f) ⟨[], []⟩) (CR (L2.CX X.prog X.w) (envOfC qg sg s.heap.objs.size g cdg :: X.stack) X.prog X.w HZ s1 Q E) s1 := by
    refine PySem.W.kla_callFunE hr.depth of1 rfl R.names.co R.names.gen rfl ⟨c', oc, vs, tt, rfl, hoc, hdc, hvc⟩ ?_
    rw [R.bind]
    refine wpAny_pure (wpAny_newFunctionEnv (fun y hy => (R.names.own y hy).2) (fun y hy => absurd hy (by simp)) (fun h₁ hns hsb => ⟨I1.nolimit.fresh _ hsb, ?_⟩) R.names.kind)
    show codeAny _ _ (.expr body (lamEnv X scope s1.heap.objs.size f c')) _ _
    have kp : ∀ b o, s1.heap.get? b = some o → h₁.get? b = some o := fun b o e => hsb.extBut b o (Nat.ne_of_lt (Heap.lt_size e)) (Heap.get?_push_of_some _ e)
    have J : Inv (lamCx X (X.A.deeper (envOfC qg sg s.heap.objs.size g cdg)) (envOfC qg sg s.heap.objs.size g cdg :: X.stack) s1 HZ E scope f c') [] σ HZ { s1 with heap := h₁, toks := s1.toks + ([] : List (Str × Value)).length } := lam_start2 I R.names I1.env0 hr.hd un hns kp
    refine PySem.W.kla_codeExpr (wpAny_mono ((R.does _ _ s1 HZ E f c' (hr.deeper _)).run [] _ _ HZ Q J ht) (fun v z ⟨w', H', J', rv, q⟩ => ⟨w', H', J'.os, J'.bare, J'.base, J'.hok, rv, q⟩) fun e z hq => hq)
  have hx : Passes (L2.CX X.prog X.w) ((cxOf CXg X.prog X.w X.K X.mg X.base Ng qg sg g cdg X.A X.stack s H Eg).tr pn xe) E := passes_call tk hW
  refine wpAny_call (codeAny_mono rc fun r z hq => ?_)
  cases r with
  | error e => exact hx pinsZ σZ HZ s1 e z I1 hq
  | ok fl =>
    cases fl with
    | ret u => exact I1.after hq
    | next => exact False.elim hq
    | brk => exact False.elim hq
    | cont => exact False.elim hq
end
/-- told(e), e such a lambda -/
def tToldV (X : Cx) (k : Nat) (CS : Addr) (ret : Str) (te : TE) : TE := fun σ H Q => te σ H fun v H1 => ∃ f t, [v] = [V.ref f] ∧ LamV X k H1 f t ∧ TTold X.K CS ret (fun E H' Q' => t E σ H' Q') H1 Q
theorem pe_toldV {x a e e2 ret : Str} {te : TE} {ex : Expr} {g CS : Addr} {k j : Nat} {pg : Arguments} {sg : Scope} {dV kV doc pm cdv ct oc : Value} {an od : Option Addr} {osl : Array (Option Value)} {Ng : List Str} {p pos p1 p2 p3 p4 p5 p6 p7 p8 : Pos}
    (hg : Gl X x) (hm : X.mg x = some (.ref g)) (hk : PySem.W.keepIn X.K (.ref g) = true) (he : PE X ex te)
    (lk : X.K.lookup g = some ⟨oc, od, .func (PySem.W.fnOf x x pg [.Try [.Return (some (.Call (.Name a p1) [] [] p2)) p3] [.ExceptHandler (some (.Name e p4)) none [.Return (some (.Constant (.str ret) j p5)) p6] p7] [] [] p8] sg dV kV doc pm an cdv ct), osl⟩) (hcg : PySem.W.codeIn X.K cdv x = true)
    (hb : L2.Binds X.K (PySem.W.fnOf x x pg [.Try [.Return (some (.Call (.Name a p1) [] [] p2)) p3] [.ExceptHandler (some (.Name e p4)) none [.Return (some (.Constant (.str ret) j p5)) p6] p7] [] [] p8] sg dV kV doc pm an cdv ct) [a] []) (Sg : FnScope Ng [a] sg) (hNg : Ng[0]? = some a) (hva : Vis sg a) (hr : Room (k + 2) X.A)
    (hge : sg.names.lookup e = some .globalImplicit) (hme : X.mg e = some (.ref CS)) (hde : (e == ("__debug__" : Str)) = false) (h0 : ∀ f : Addr, (L2.start Ng [V.ref f])[0]? = some (some (V.ref f)))
    (hdb : (x == ("__debug__" : Str)) = false := by decide) (hd : (a == ("__debug__" : Str)) = false := by decide) (hcd : (a == ("__classdict__" : Str)) = false := by decide)
    (hst : starEach [ex] X.env = (false, eval ex X.env) :: starEach [] X.env := by rfl) (hpl : (backTo pos (starEach [] X.env)).any (·.1) = false := by rfl) :
    PE X (.Call (.Name x p) [ex] [] pos) (tToldV X k CS ret te) := by
  refine ⟨fun pins s σ H Q I h => ?_⟩
  have args : PA X [ex] (tCons te tNil) := pa_cons he pa_nil hst
  refine wpAny_Call_Name_kw (ld_glob I hg hm (PySem.W.callWith_K (h₀ := X.base) I.ok.mod.kin hk (thn (args.run pos pins s σ H (fun vs H1 => ∃ f t, vs = [V.ref f] ∧ LamV X k H1 f t ∧ TTold X.K CS ret (fun E H' Q' => t E σ H' Q') H1 Q) I h) ?_) hst hpl) hdb)
  rintro us z ⟨vs, H1, I1, rv, f, t, rfl, ⟨params, body, scope, c', R, hf, hc⟩, q⟩
  refine ⟨I1.kIn, ?_⟩
  rw [Vals.ref1 rv]
  have rc : codeAny (model X.prog X.w) X.A (.call (.ref g) ⟨[.ref f], []⟩) (CR C8.CX0 X.stack X.prog X.w H1 z Q C8.E0) z := by
    refine run_ofS (N := Ng) (ps := [a]) (us := [.ref f]) (vs := [.ref f]) lk hcg Sg hr I1.env0 (hb z [.ref f] I1.kIn rfl) (.cons rfl .nil) rfl fun hr' => ?_
    have G := told_gives (X := X) (Ng := Ng) (x := x) (a := a) (e := e) (q := X.env.qual ++ "<lambda>") (ret := ret) (sg := sg) (g := g) (CS := CS) (cdg := cdv) (j := j) (p1 := p1) (p2 := p2) (p3 := p3) (p4 := p4) (p5 := p5) (p6 := p6) (p7 := p7) (p8 := p8) hge hme hde h0
    obtain ⟨t', ht', hq'⟩ := G f c' z H1 Q (fun E H' Q' => H' f = some (LamO f ⟨params, body, scope, X.env.qual ++ "<lambda>", cloFrom X.env.cells scope.names [], c'⟩) ∧ t E σ H' Q')
      (fun W pn xe E p1 p2 tk hW => pe_act3 (i := 0) I1 R tk hW hr' hNg hva hd hcd) hc ⟨hf, q⟩
    exact ⟨t', ht'.nox, hq'⟩
  refine wpAny_call (codeAny_mono rc fun r s2 hq => ?_)
  cases r with
  | error e => exact (show False from hq).elim
  | ok fl =>
    cases fl with
    | ret u => exact I1.after hq
    | next => exact False.elim hq
    | brk => exact False.elim hq
    | cont => exact False.elim hq
end
end LmV
end

section
-- part Dq
set_option Elab.async false
set_option linter.all false
set_option maxRecDepth 100000
set_option maxHeartbeats 2000000
/-! Dq: classes with defaults; dicts: copied, compared, walked; heaps of which some objects are foreign -/
namespace Dq
open PySem PySem.Spec PyProof.Rows L2 Fw Gk
/-! ### a class made by its name, defaults behind -/
structure Mcd (P : Program) (w : World) (K : PySem.W.Frag) (mg : Str → Option Value) (base : Heap) (k : Nat) (x : Str) (C : Addr) (sp : Sp) (dvs : List V) : Prop where
  ex : ∃ (f : Addr) (fd : FuncData) (ps : List Str) (ds : List Value), Mk K C f ∧ FnOk P w K mg base (L2.CX P w) k f fd ps sp ∧ mg x = some (.ref C) ∧ Binds K fd ps ds ∧ Vals dvs ds
def tMkD (C : Addr) (sp : Sp) (dvs : List V) (E : XK) (t : TA) : TE := fun σ H Q => t σ H fun vs H1 => ∀ x dx, H1 x = none → H1 dx = none → dx ≠ x → sp (.ref x :: (vs ++ dvs)) (upd (upd H1 dx (.own x)) x (.ins C dx [])) (fun v H2 => v = .non ∧ Q (.ref x) H2) E
section
variable {X : Cx} {k j : Nat} {C : Addr} {x : Str} {sp : Sp} {dvs : List V} {E : XK} {p pos : Pos} {e : Expr} {es : List Expr} {t : TA}
theorem pe_mcd (c : Mcd X.prog X.w X.K X.mg X.base k x C sp dvs) (hr : Room j X.A) (hk : k + 1 ≤ j) (hg : Gl X x) (hx : Passes (L2.CX X.prog X.w) X E) (ha : PA X (e :: es) t)
    (hdb : (x == ("__debug__" : Str)) = false := by decide) (he : starEach (e :: es) X.env = (false, eval e X.env) :: starEach es X.env := by rfl) (hpl : (backTo pos (starEach es X.env)).any (·.1) = false := by rfl) :
    PE X (.Call (.Name x p) (e :: es) [] pos) (tMkD C sp dvs E t) := by
  obtain ⟨f, fd, ps, ds, M, F, hm, b, d⟩ := c.ex
  exact ⟨fun pins s σ H Q I h => (pe_make M F (hr.mono hk) hg hm b d hx ha hdb he hpl).run pins s σ H Q I h⟩
theorem w_mkd {σ : L2.St} {H : Hp} {Q : VK} (h : t σ H fun vs H1 => ∀ x dx, H1 x = none → H1 dx = none → dx ≠ x → sp (.ref x :: (vs ++ dvs)) (upd (upd H1 dx (.own x)) x (.ins C dx [])) (fun v H2 => v = .non ∧ Q (.ref x) H2) E) : tMkD C sp dvs E t σ H Q := h
end
section
variable {P : Program} {w : World} {K : PySem.W.Frag} {mg : Str → Option Value} {base : Heap} {x qual : Str} {st : Stmt} {C : Addr} {dvs : List V}
/-- n values are given (self counted), the defaults behind the first j fill up -/
theorem mcd_mk {N ps : List Str} {k : Nat} {sp : Sp} (n j : Nat) (F : ∃ (f : Addr) (fd : FuncData), FunD K "__init__" qual (defArgs st) (defBody st) (defScope st) dvs [] f fd ∧ Mk K C f) (hm : mg x = some (.ref C)) (S : FnScope N ps (defScope st)) (hd : dvs ≠ []) (hn : n + (dvs.length - j) = ps.length)
    (b : ∀ (T : Addr) (kV doc pm : Value) (an : Option Addr) (cdv ct : Value) (us its : List Value), us.length = n → its.length = dvs.length →
      ∃ k, bindArgs (PySem.W.fnOf "__init__" qual (defArgs st) (defBody st) (defScope st) (.ref T) kV doc pm an cdv ct) ⟨us, []⟩ = seqItems? (.ref T) >>= k ∧ k (some its.toArray) = pure (ps.zip (us ++ its.drop j)))
    (len : ∀ vs H Q E, sp vs H Q E → vs.length = ps.length)
    (hbody : ∀ (f : Addr) (cdv : Value) (A : Around) (outer : List Env) (s : Shared) (H : Hp) (vs : List V) (Q : VK) (E : XK), Room k (A.deeper (envOfC qual (defScope st) s.heap.objs.size f cdv)) → sp vs H Q E →
      ∃ t, PSs (cxOf (L2.CX P w) P w K mg base N qual (defScope st) f cdv A outer s H E) (defBody st) t ∧ t { nx := fun _ H' => Q .non H', rt := Q } (start N vs) H) : Mcd P w K mg base (k + 1) x C sp (dvs.drop j) := by
  obtain ⟨f, fd, F, M⟩ := F
  obtain ⟨ds, h1, h2⟩ := F.binds1 n j hd hn b
  exact ⟨f, fd, ps, ds, M, F.ok S len (hbody f), hm, h2, h1⟩
end
/-! ### dict(d) -/
section
variable {X : Cx}
def rCopy : List V → Hp → VK → Prop := fun xs H Q => ∃ (a : Addr) (kvs : List (Key × V)), xs = [.ref a] ∧ Rd H a (.dK kvs) ∧ ∀ p, H p = none → Q (.ref p) (upd H p (.dK kvs))
theorem call_dictC : CallR X (.type "dict") rCopy := by
  intro pins s σ H xs us Q I r q
  obtain ⟨a, kvs, ex, hq, q⟩ := q
  subst ex
  obtain ⟨u, eu, rx⟩ := vals1 r
  subst eu
  cases rx
  exact d_copyOf I hq fun p s' hp I' => ⟨.ref p, _, I', rfl, q p hp⟩
/-! ### dicts compared whose values are tuples of ints -/
def BlkEq (K : PySem.W.Frag) (H : Hp) (x y : V) : Prop := ∃ (a b : Addr) (d : List Int), x = .ref a ∧ y = .ref b ∧ SqT K H a (d.map V.int) ∧ SqT K H b (d.map V.int)
theorem hits_blk {pins : List (Addr × Obj)} {σ : L2.St} {H : Hp} {s : Shared} (I : Inv X pins σ H s) {A : Around} (hu : A.units + 1 < cLine) {ls : List (Key × V)} {vb : List (Key × Value)} (rb : KV ls vb) {ks : List (Key × V)} {va : List (Key × Value)} (ra : KV ks va) :
    (∀ p ∈ ks, ∃ u, valV ls p.1 = some u ∧ BlkEq X.K H p.2 u) → PySem.W.KeqHits A s vb va true := by
  unfold KV at ra
  induction ra with
  | nil => intro _; exact .nil
  | @cons p q ps qs h t ih =>
    intro hp
    obtain ⟨h1, h2⟩ := h
    obtain ⟨u, e, a, b, d, e1, e2, sa, sb⟩ := hp p List.mem_cons_self
    have rr : RelO (some u) (valueAt vb p.1) := by rw [← e]; exact rb.val p.1
    obtain ⟨y, hy, ry⟩ := rr.some_of
    obtain ⟨key, v⟩ := q
    have h1' : p.1 = key := h1
    rw [h1'] at hy
    show PySem.W.KeqHits A s vb ((key, v) :: qs) (true && true)
    subst e2
    have h2' : RelV p.2 v := h2
    rw [e1] at h2'
    obtain ⟨as, r1⟩ := Dp.reads I _ _ _ (Dp.tup sa (dp_ints d)) h2'
    obtain ⟨bs, r2⟩ := Dp.reads I _ _ _ (Dp.tup sb (dp_ints d)) ry
    have f := fine_ints d
    have dep : (PyData.tuple (d.map PyData.int)).depth ≤ 1 := f.2.1
    have k := SeqAt.eqAt_reads _ _ A s v y as bs r1 r2 f.1 f.1 (by omega)
    rw [f.2.2] at k
    exact .hit hy k (ih fun p' hm => hp p' (List.mem_cons_of_mem _ hm))
def rNeDV (K : PySem.W.Frag) : R2 := fun x y H Q => ∃ a b ks ls, x = .ref a ∧ y = .ref b ∧ H a = some (.dK ks) ∧ H b = some (.dK ls) ∧ ks.length = ls.length ∧ (∀ p ∈ ks, ∃ u, valV ls p.1 = some u ∧ BlkEq K H p.2 u) ∧ Q (.bl false) H
theorem op_ne_dictV (hu : X.A.units + 64 < cLine) : OpR X (compareOp .NotEq) (rNeDV X.K) := by
  intro pins s σ H x y v u Q I rx ry h
  obtain ⟨a, b, ks, ls, rfl, rfl, ea, eb, hlen, hp, q⟩ := h
  obtain rfl : v = Value.ref a := rx
  obtain rfl : u = Value.ref b := ry
  obtain ⟨_, ya, va, ra, da⟩ := (show ObjOk X.prog X.w H s.heap a (.dK ks) from I.hok a _ ea)
  obtain ⟨_, yb, vb, rb, db⟩ := (show ObjOk X.prog X.w H s.heap b (.dK ls) from I.hok b _ eb)
  have hl : va.length = vb.length := by rw [← ra.length, ← rb.length]; exact hlen
  exact PySem.W.keq_ne (knd := mixKind X.prog X.w) (r := true) ya yb da db (by omega) (fun _ => hits_blk I (A := X.A.in1) (by show X.A.units + 1 + 1 < cLine; omega) rb ra hp) (fin_bl I q (by simp [hl]))
end
/-! ### steps of the walk -/
section
variable {X : Cx} {K : PySem.W.Frag} {σ : L2.St} {H : Hp} {Q : VK} {td ty tx tv tk : TE} {tt : TT} {g : TG} {vs : List Nat} {D : Ends}
theorem w_dget (h : td σ H fun x H1 => ty σ H1 fun y H2 => ∃ a v, x = .ref a ∧ DGet H2 a y (some v) ∧ Q v H2) : tDGet td ty σ H Q := h
theorem w_din (h : ty σ H fun y H1 => td σ H1 fun x H2 => ∃ a o, x = .ref a ∧ DGet H2 a y o ∧ Q (.bl o.isSome) H2) : tDIn ty td σ H Q := h
theorem w_dnotin (h : ty σ H fun y H1 => td σ H1 fun x H2 => ∃ a o, x = .ref a ∧ DGet H2 a y o ∧ Q (.bl (!o.isSome)) H2) : tDNotIn ty td σ H Q := h
theorem w_dget2 (h : td σ H fun x H1 => ∃ a, x = .ref a ∧ IsD H1 a ∧ ty σ H1 fun y H2 => tx σ H2 fun z H3 => ∃ o, DGet H3 a y o ∧ Q (o.getD z) H3) : tDGet2 td ty tx σ H Q := h
theorem w_dnew (h : ∀ p, H p = none → Q (.ref p) (upd H p (.dK []))) : tDNewK σ H Q := h
theorem w_fldaug {ta : TE} {rd : V → V → Hp → VK → Prop} {f : Str} (h : ta σ H fun x H1 => ∃ a C dx fs v, x = .ref a ∧ H1 a = some (.ins C dx fs) ∧ Cls K C ∧ NoAttr K C f ∧ fs.lookup f = some v ∧
  tv σ H1 fun y H2 => rd v y H2 fun z H3 => ∃ dx' fs', H3 a = some (.ins C dx' fs') ∧ fs'.length < 1000 ∧ D.nx σ (upd H3 a (.ins C dx' (putF f z fs')))) : sFldAug K ta tv rd f D σ H := h
/-- {k: v for k in d} -/
theorem w_dcK {i : Nat} {d : Addr} {kvs : List (Key × V)} (hv : σ[i]? = some (some (.ref d))) (hd : H d = some (.dK kvs)) (h : ∀ o D, upd H d (.frz o (.dK kvs)) D = none → ∃ Pv : Nat → Hp → Prop, Pv 0 (upd (upd H d (.frz o (.dK kvs))) D (.dK [])) ∧ (∀ i H, i ≤ kvs.length → Pv i H → H d = some (.frz o (.dK kvs))) ∧
      (∀ i k v H, kvs[i]? = some (k, v) → Pv i H → g (kV k) (wipe σ vs) H fun σ2 H2 => wipe σ2 vs = wipe σ vs ∧ tt σ2 H2 fun b H3 =>
        if b = true then tk σ2 H3 fun y H4 => tv σ2 H4 fun z H5 => ∃ kvs k, y = kV k ∧ H5 D = some (.dK kvs) ∧ kvs.length < sizeLine ∧ Pv (i + 1) (upd H5 D (.dK (putK kvs k z))) else Pv (i + 1) H3) ∧
      (∀ H, Pv kvs.length H → Q (.ref D) (upd H d (.dK kvs)))) : tLockE (tDc (iKeys (tVar i)) g tt tk tv vs) σ H Q := by
  refine ⟨d, .dK kvs, hd, trivial, fun o => ?_⟩
  refine ⟨.ref d, hv, d, o, rfl, .inl ⟨kvs, upd_same, fun D hD => ?_⟩⟩
  obtain ⟨Pv, h0, hl, hs, hq⟩ := h o D hD
  refine ⟨fun i m H => m = kvs.length - i ∧ i ≤ kvs.length ∧ Pv i H, ⟨kvs.length, by simp, Nat.zero_le _, h0⟩, ?_⟩
  rintro i m H ⟨rfl, hi, p⟩
  have q := hl i H hi p
  by_cases hlt : i < kvs.length
  · refine .inr ⟨walk_keys.goes i H hlt q, Pv (i + 1), fun H' p' => ⟨kvs.length - (i + 1), by omega, rfl, hlt, p'⟩, fun x H' y => ?_⟩
    obtain ⟨rfl, k, v, e, rfl⟩ := walk_keys.yields i H x H' hlt q y
    exact hs i k v _ e p
  · have e : i = kvs.length := by omega
    subst e
    exact .inl ⟨walk_keys.stops H q, q, hq H p⟩
end
section
variable {K : PySem.W.Frag} {σ : L2.St} {H : Hp}
theorem for_enumL {g : TG} {tb : TS} {D : Ends} {a : Addr} {xs : List V} (Pv : Nat → L2.St → Hp → Prop) (h0 : Pv 0 σ H) (hq : ∀ i σ H, Pv i σ H → SqL K H a xs)
    (hs : ∀ (i : Nat) (x : V) (T : Addr) (σ : L2.St) (H : Hp), xs[i]? = some x → Pv i σ H → H T = none → g (.ref T) σ (upd H T (.tup [.int (i : Nat), x])) fun σ2 H2 => tb { D with nx := Pv (i + 1), ct := Pv (i + 1), bk := D.nx } σ2 H2)
    (hd : ∀ σ H, Pv xs.length σ H → D.nx σ H) :
    ∃ W : Nat → Nat → L2.St → Hp → Prop, (∃ m, W 0 m σ H) ∧ ∀ i m σ H, W i m σ H →
      ((Ite K a).stop i H ∧ D.nx σ H) ∨ ((Ite K a).go i H ∧ ∃ N : L2.St → Hp → Prop, (∀ σ' H', N σ' H' → ∃ m', m' < m ∧ W (i + 1) m' σ' H') ∧ ∀ x H', (Ite K a).yld i H x H' → g x σ H' fun σ2 H2 => tb { D with nx := N, ct := N, bk := D.nx } σ2 H2) :=
  for_it walk_enum Pv h0 (fun i σ H _ p => hq i σ H p) (fun i v σ H H' _ p y => by
    obtain ⟨T, x, y, rfl, hT, rfl, e1, e2⟩ := y
    cases e1
    exact hs i _ T σ H e2 p hT) hd
end
/-! ### foreign objects -/
/-- all but the objects of L are kept -/
def Fr (L : List Addr) (H H' : Hp) : Prop := ∀ b o, b ∉ L → H b = some o → H' b = some o
theorem Fr.refl (L : List Addr) (H : Hp) : Fr L H H := fun _ _ _ h => h
theorem Fr.trans {L : List Addr} {H H1 H2 : Hp} (a : Fr L H H1) (b : Fr L H1 H2) : Fr L H H2 := fun c o n h => b c o n (a c o n h)
theorem Fr.of {L : List Addr} {H H' : Hp} (s : Same H H') : Fr L H H' := fun b o _ e => s b o e
theorem Fr.up {L : List Addr} {H H' : Hp} {a : Addr} {o : HO} (k : Fr L H H') (h : a ∈ L) : Fr L H (upd H' a o) := fun b u n e => by
  rw [upd_ne (fun z : b = a => n (by rw [z]; exact h))]
  exact k b u n e
theorem Fr.new {L : List Addr} {H H' : Hp} {a : Addr} {o : HO} (k : Fr L H H') (h : H a = none) : Fr L H (upd H' a o) := fun b u n e => by
  rw [upd_ne (ne_of_none e h)]
  exact k b u n e
theorem Fr.le {L M : List Addr} {H H' : Hp} (k : Fr L H H') (h : ∀ a ∈ L, a ∈ M) : Fr M H H' := fun b u n e => k b u (fun z => n (h b z)) e
/-- tuples stay -/
def Tu (H H' : Hp) : Prop := ∀ a xs, H a = some (.tup xs) → H' a = some (.tup xs)
end Dq
namespace Dq
open PySem PySem.Spec PyProof.Rows L2 Fw Gk
section
variable {H : Hp} {Q : VK} {v : V}
theorem w_isNb {b : Bool} (hd : decide (v = V.non) = b) (q : Q (.bl b) H) : rIsN v V.non H Q := ⟨rfl, by rw [hd]; exact q⟩
theorem w_notNb {b : Bool} (hd : decide (v = V.non) = b) (q : Q (.bl (!b)) H) : rNotN v V.non H Q := ⟨rfl, by rw [hd]; exact q⟩
theorem w_notN0 (q : Q (.bl false) H) : rNotN .non V.non H Q := w_notNb rfl q
theorem w_isN0 (q : Q (.bl true) H) : rIsN .non V.non H Q := w_isNb rfl q
theorem w_notNR {a : Addr} (q : Q (.bl true) H) : rNotN (.ref a) V.non H Q := w_notNb (b := false) (decide_eq_false (fun z => by cases z)) q
theorem w_isNR {a : Addr} (q : Q (.bl false) H) : rIsN (.ref a) V.non H Q := w_isNb (decide_eq_false (fun z => by cases z)) q
theorem w_notNI {a : Int} (q : Q (.bl true) H) : rNotN (.int a) V.non H Q := w_notNb (b := false) (decide_eq_false (fun z => by cases z)) q
theorem w_isNI {a : Int} (q : Q (.bl false) H) : rIsN (.int a) V.non H Q := w_isNb (decide_eq_false (fun z => by cases z)) q
theorem look1 {f g : Str} {x : V} {r : List (Str × V)} (h : (g == f) = true) : List.lookup g ((f, x) :: r) = some x := by rw [List.lookup_cons, h]
theorem look0 {f g : Str} {x : V} {r : List (Str × V)} (h : (g == f) = false) : List.lookup g ((f, x) :: r) = r.lookup g := by rw [List.lookup_cons, h]
theorem w_aSub {i j : Int} (q : Q (.int (i - j)) H) : rSub (.int i) (.int j) H Q := ⟨i, j, rfl, rfl, q⟩
theorem w_aAdd {i j : Int} (q : Q (.int (i + j)) H) : rAdd (.int i) (.int j) H Q := ⟨i, j, rfl, rfl, q⟩
theorem w_orV {ta tb : TE} {σ : L2.St} (h : ta σ H fun x H1 => ∃ c, x = .bl c ∧ if c = true then Q (.bl true) H1 else tb σ H1 Q) : tOrV ta tb σ H Q := h
theorem w_andV {ta tb : TE} {σ : L2.St} (h : ta σ H fun x H1 => ∃ c, x = .bl c ∧ if c = true then tb σ H1 Q else Q (.bl false) H1) : tAndV ta tb σ H Q := h
theorem w_js {t : TE} {ts : List TE} {acc : Str} {σ : L2.St} {R : Str → Hp → Prop} (h : t σ H fun x H1 => ∃ y : Str, x = .str y ∧ (acc ++ y).length ≤ sizeLine ∧ tJs ts (acc ++ y) σ H1 R) : tJs (t :: ts) acc σ H R := h
theorem w_js0 {acc : Str} {σ : L2.St} {R : Str → Hp → Prop} (q : R acc H) : tJs [] acc σ H R := q
theorem w_fm {te : TE} {σ : L2.St} (h : te σ H fun x H1 => (∃ y : Str, x = .str y ∧ y.length ≤ sizeLine ∧ Q (.str y) H1) ∨ ∃ i : Int, x = .int i ∧ i.natAbs.log2 < 1920 ∧ Q (.str (toString i)) H1) : tFmt te σ H Q := h
theorem fmt_n {n : Nat} (h : n < 10 ^ 7) {acc : Str} (ha : acc.length ≤ 1000) {R : Str → Prop} {B : Prop} (q : ∀ z, R z) : B ∨ ∃ i : Int, V.int (n : Int) = .int i ∧ i.natAbs.log2 < 1920 ∧ ∃ y : Str, V.str (toString i) = .str y ∧ (acc ++ y).length ≤ sizeLine ∧ R (acc ++ y) := by
  refine .inr ⟨(n : Int), rfl, ?_, ⟨_, rfl, ?_, q _⟩⟩
  · by_cases h0 : n = 0
    · subst h0
      decide
    · rw [Int.natAbs_natCast]
      have := (Nat.log2_lt h0 (k := 24)).mpr (Nat.lt_of_lt_of_le h (by decide))
      omega
  · rw [str_len_app]
    exact Nat.le_trans (Nat.add_le_add ha (num_short h)) (by decide)
theorem fmt_j {n : Nat} (h : n < 10 ^ 7) {acc : Str} (ha : acc.length ≤ 1000) {σ : L2.St} {R : Str → Hp → Prop} {B : Prop} (q : ∀ z, R z H) : B ∨ ∃ i : Int, V.int (n : Int) = .int i ∧ i.natAbs.log2 < 1920 ∧ ∃ y : Str, V.str (toString i) = .str y ∧ (acc ++ y).length ≤ sizeLine ∧ tJs [] (acc ++ y) σ H R :=
  fmt_n (R := fun z => tJs [] z σ H R) h ha fun z => q z
theorem w_ifV {tt : TT} {ta tb : TE} {σ : L2.St} {R : VK} (G : V → Hp → Prop) (h1 : ∀ R' : VK, (∀ v H', G v H' → R' v H') → tIf tt ta tb σ H R') (h2 : ∀ v H', G v H' → R v H') : tIf tt ta tb σ H R := h1 R h2
theorem putF_ne {f g : Str} {v x : V} {r : List (Str × V)} (h : (g == f) = false) : putF f v ((g, x) :: r) = (g, x) :: putF f v r := by
  rw [putF, if_neg (fun z => by rw [z] at h; simp at h)]
theorem putF_eq {f : Str} {v x : V} {r : List (Str × V)} : putF f v ((f, x) :: r) = (f, v) :: r := by rw [putF, if_pos rfl]
theorem pc1 {p : Str × V} {r s : List (Str × V)} (h : r = s) : p :: r = p :: s := by rw [h]
end
end Dq
end

section
-- part K11M
set_option Elab.async false
set_option linter.all false
set_option maxRecDepth 100000
set_option maxHeartbeats 2000000
/-! K09M: disks as data; which objects stay -/
namespace M11
open PySem PySem.Spec PyProof.Rows L2 Fw Gk LamX
/-- may be written -/
def Mt : HO → Prop
  | .lst _ => True
  | .dK _ => True
  | .ins _ _ _ => True
  | _ => False
/-- what stays when objects of M are written: everything else, and whatever can't be written -/
def Cs (M : List Addr) (H H' : Hp) : Prop := ∀ b o, H b = some o → (b ∉ M ∨ ¬ Mt o) → H' b = some o
/-- .. but tables -/
def Ch (M : List Addr) (H H' : Hp) : Prop := ∀ b o, H b = some o → (∀ ps, o ≠ .tbl ps) → (b ∉ M ∨ ¬ Mt o) → H' b = some o
theorem Cs.ch {M : List Addr} {H H' : Hp} (s : Cs M H H') : Ch M H H' := fun b o e _ h => s b o e h
theorem Cs.refl (M : List Addr) (H : Hp) : Cs M H H := fun _ _ h _ => h
theorem Cs.trans {M : List Addr} {H H1 H2 : Hp} (a : Cs M H H1) (b : Cs M H1 H2) : Cs M H H2 := fun c o h n => b c o (a c o h n) n
theorem Cs.of {M : List Addr} {H H' : Hp} (s : Same H H') : Cs M H H' := fun b o e _ => s b o e
theorem Cs.le {M N : List Addr} {H H' : Hp} (s : Cs M H H') (h : ∀ a ∈ M, a ∈ N) : Cs N H H' := fun b o e n => s b o e (n.imp (fun n z => n (h b z)) id)
theorem Cs.wr {M : List Addr} {H H' : Hp} {a : Addr} {u o : HO} (s : Cs M H H') (h : a ∈ M) (e : H' a = some u) (m : Mt u) : Cs M H (upd H' a o) := fun b v eb n => by
  have k := s b v eb n
  refine (upd_ne fun z => ?_).trans k
  rw [z] at n k
  rw [e] at k
  cases k
  exact n.elim (fun n => n h) fun n => n m
theorem Cs.new {M : List Addr} {H H' : Hp} {a : Addr} {o : HO} (s : Cs M H H') (e : H' a = none) : Cs M H (upd H' a o) := fun b v eb n => by
  have k := s b v eb n
  exact (upd_ne (ne_of_none k e)).trans k
/-- a new object is written again -/
theorem Cs.own {M : List Addr} {H H' : Hp} {a : Addr} {o : HO} (s : Cs M H H') (e : H a = none) : Cs M H (upd H' a o) := fun b v eb n => (upd_ne (ne_of_none eb e)).trans (s b v eb n)
theorem Ch.refl (M : List Addr) (H : Hp) : Ch M H H := fun _ _ h _ _ => h
theorem Ch.trans {M : List Addr} {H H1 H2 : Hp} (a : Ch M H H1) (b : Ch M H1 H2) : Ch M H H2 := fun c o h t n => b c o (a c o h t n) t n
theorem Ch.of {M : List Addr} {H H' : Hp} (s : Same H H') : Ch M H H' := (Cs.of s).ch
theorem Ch.ex {M : List Addr} {H H' : Hp} (s : ExtN H H') : Ch M H H' := fun b o e t _ => s b o e t
theorem Ch.le {M N : List Addr} {H H' : Hp} (s : Ch M H H') (h : ∀ a ∈ M, a ∈ N) : Ch N H H' := fun b o e t n => s b o e t (n.imp (fun n z => n (h b z)) id)
theorem Cs.free {M : List Addr} {H H' : Hp} {p : Addr} (s : Cs M H H') (h : ∀ a ∈ M, ∃ o, H' a = some o) (e : H' p = none) : H p = none := by
  cases q : H p with
  | none => rfl
  | some o =>
    by_cases n : p ∈ M
    · obtain ⟨u, z⟩ := h p n
      rw [e] at z
      cases z
    · have z := s p o q (.inl n)
      rw [e] at z
      cases z
theorem Cs.kp {d : Addr} {H H' : Hp} (k : Kp d H H') (h : Dice H d) : Cs [d] H H' := fun b o e n => k b o (fun z => by
  obtain ⟨x, y, z', e'⟩ := h
  rw [z, e'] at e
  cases e
  exact n.elim (fun n => n (by rw [z]; exact List.mem_singleton.mpr rfl)) fun n => n trivial) e
theorem Ch.at_ {M : List Addr} {H H' : Hp} {a : Addr} {o : HO} (s : Ch M H H') (e : H a = some o) (t : ∀ ps, o ≠ .tbl ps) (n : a ∉ M) : H' a = some o := s a o e t (.inl n)
theorem Ch.lst {M : List Addr} {H H' : Hp} {a : Addr} {xs : List V} (s : Ch M H H') (e : H a = some (.lst xs)) (n : a ∉ M) : H' a = some (.lst xs) := s.at_ e (fun _ z => by cases z) n
theorem Ch.dk {M : List Addr} {H H' : Hp} {a : Addr} {xs : List (Key × V)} (s : Ch M H H') (e : H a = some (.dK xs)) (n : a ∉ M) : H' a = some (.dK xs) := s.at_ e (fun _ z => by cases z) n
theorem Ch.ins {M : List Addr} {H H' : Hp} {a C dx : Addr} {fs : List (Str × V)} (s : Ch M H H') (e : H a = some (.ins C dx fs)) (n : a ∉ M) : H' a = some (.ins C dx fs) := s.at_ e (fun _ z => by cases z) n
theorem Ch.tup {M : List Addr} {H H' : Hp} {a : Addr} {xs : List V} (s : Ch M H H') (e : H a = some (.tup xs)) : H' a = some (.tup xs) := s a _ e (fun _ z => by cases z) (.inr id)
theorem Ch.sqT {K : PySem.W.Frag} {M : List Addr} {H H' : Hp} {a : Addr} {xs : List V} (s : Ch M H H') (h : SqT K H a xs) : SqT K H' a xs := by
  rcases h with (h | ⟨o, h⟩) | h
  · exact .inl (.inl (s.tup h))
  · exact .inl (.inr ⟨o, s a _ h (fun _ z => by cases z) (.inr id)⟩)
  · exact .inr h
theorem Tabs.cs {T : List (Addr × Str)} {M : List Addr} {H H' : Hp} (t : Tabs T H) (s : Cs M H H') : Tabs T H' := fun p hp => by
  obtain ⟨ps, h1, h2, h3⟩ := t p hp
  refine ⟨ps, s _ _ h1 (.inr id), h2, fun pos cv hc => ?_⟩
  obtain ⟨c0, e1, e2⟩ := h3 pos cv hc
  exact ⟨c0, e1, s _ _ e2 (.inr fun z => by unfold CodeO at z; exact z)⟩
/-! ### blocks -/
def BlkA (K : PySem.W.Frag) (H : Hp) (a : Addr) (d : List Int) : Prop := SqT K H a (d.map V.int) ∧ d.length = 96
/-- a dict of blocks, as data -/
abbrev Bs := List (Key × List Int)
def BsR (K : PySem.W.Frag) (H : Hp) : List (Key × V) → Bs → Prop := Paired fun p m => p.1 = m.1 ∧ ∃ a, p.2 = .ref a ∧ BlkA K H a m.2
theorem BlkA.ch {K : PySem.W.Frag} {M : List Addr} {H H' : Hp} {a : Addr} {d : List Int} (s : Ch M H H') (h : BlkA K H a d) : BlkA K H' a d := ⟨s.sqT h.1, h.2⟩
theorem BsR.ch {K : PySem.W.Frag} {M : List Addr} {H H' : Hp} (s : Ch M H H') : ∀ {kvs : List (Key × V)} {ms : Bs}, BsR K H kvs ms → BsR K H' kvs ms
  | _, _, .nil => .nil
  | _, _, .cons h r => .cons ⟨h.1, h.2.elim fun a h => ⟨a, h.1, h.2.ch s⟩⟩ (BsR.ch s r)
def valM (ms : Bs) (k : Key) : Option (List Int) := (ms.find? fun m => decide (m.1 = k)).map (·.2)
def putM (ms : Bs) (k : Key) (d : List Int) : Bs := if (ms.any fun m => decide (m.1 = k)) = true then ms.map fun m => if m.1 = k then (m.1, d) else m else ms ++ [(k, d)]
theorem bsR_val {K : PySem.W.Frag} {H : Hp} (k : Key) : ∀ {kvs : List (Key × V)} {ms : Bs}, BsR K H kvs ms → (valV kvs k = none ∧ valM ms k = none) ∨ ∃ a d, valV kvs k = some (.ref a) ∧ valM ms k = some d ∧ BlkA K H a d
  | _, _, .nil => .inl ⟨rfl, rfl⟩
  | p :: kvs, m :: ms, .cons h r => by
    obtain ⟨h1, a, h2, h3⟩ := h
    by_cases e : p.1 = k
    · refine .inr ⟨a, m.2, ?_, ?_, h3⟩
      · rw [valV_pos e, h2]
      · unfold valM
        rw [List.find?_cons, decide_eq_true (h1 ▸ e)]
        rfl
    · rw [valV_neg e]
      have : valM (m :: ms) k = valM ms k := by
        unfold valM
        rw [List.find?_cons, decide_eq_false (h1 ▸ e)]
      rw [this]
      exact bsR_val k r
theorem bsR_any {K : PySem.W.Frag} {H : Hp} (k : Key) : ∀ {kvs : List (Key × V)} {ms : Bs}, BsR K H kvs ms → (kvs.any fun p => decide (p.1 = k)) = ms.any fun m => decide (m.1 = k)
  | _, _, .nil => rfl
  | p :: kvs, m :: ms, .cons h r => by rw [List.any_cons, List.any_cons, h.1, bsR_any k r]
theorem bsR_repl {K : PySem.W.Frag} {H : Hp} {k : Key} {a : Addr} {d : List Int} (h : BlkA K H a d) : ∀ {kvs : List (Key × V)} {ms : Bs}, BsR K H kvs ms → BsR K H (kvs.map fun p => if p.1 = k then (p.1, .ref a) else p) (ms.map fun m => if m.1 = k then (m.1, d) else m)
  | _, _, .nil => .nil
  | p :: kvs, m :: ms, .cons g r => by
    rw [List.map_cons, List.map_cons]
    refine .cons ?_ (bsR_repl h r)
    by_cases e : p.1 = k
    · rw [if_pos e, if_pos (g.1 ▸ e)]
      exact ⟨g.1, a, rfl, h⟩
    · rw [if_neg e, if_neg (g.1 ▸ e)]
      exact g
theorem BsR.put {K : PySem.W.Frag} {H : Hp} {k : Key} {a : Addr} {d : List Int} (h : BlkA K H a d) {kvs : List (Key × V)} {ms : Bs} (r : BsR K H kvs ms) : BsR K H (putK kvs k (.ref a)) (putM ms k d) := by
  unfold putK putM
  rw [bsR_any k r]
  split
  · exact bsR_repl h r
  · exact Paired.snoc r ⟨rfl, a, rfl, h⟩
theorem keys_put (kvs : List (Key × V)) (k : Key) (v : V) : (putK kvs k v).map (·.1) = if (kvs.any fun p => decide (p.1 = k)) = true then kvs.map (·.1) else kvs.map (·.1) ++ [k] := by
  unfold putK
  split
  · rw [List.map_map]
    refine List.map_congr_left fun p _ => ?_
    show (if p.1 = k then (p.1, v) else p).1 = p.1
    split <;> rfl
  · rw [List.map_append]; rfl
theorem nodup_put {kvs : List (Key × V)} {k : Key} {v : V} (h : (kvs.map (·.1)).Nodup) : ((putK kvs k v).map (·.1)).Nodup := by
  rw [keys_put]
  split
  · exact h
  · rename_i z
    refine List.nodup_append.mpr ⟨h, List.nodup_cons.mpr ⟨List.not_mem_nil, List.nodup_nil⟩, fun a ha b hb e => z ?_⟩
    rw [List.mem_singleton.mp hb] at e
    obtain ⟨p, hp, e2⟩ := List.mem_map.mp ha
    exact List.any_eq_true.mpr ⟨p, hp, decide_eq_true (e2.trans e)⟩
theorem len_put (kvs : List (Key × V)) (k : Key) (v : V) : (putK kvs k v).length ≤ kvs.length + 1 := length_putK kvs k v
/-! ### writes -/
/-- the writes that wait: block, the address of its bytes -/
abbrev Wq := List (Int × Addr)
def putW (ws : Wq) (kvs : List (Key × V)) : List (Key × V) := ws.foldl (fun k p => putK k (.inl p.1) (.ref p.2)) kvs
theorem putW_snoc (ws : Wq) (p : Int × Addr) (kvs : List (Key × V)) : putW (ws ++ [p]) kvs = putK (putW ws kvs) (.inl p.1) (.ref p.2) := by
  unfold putW
  rw [List.foldl_append]
  rfl
theorem val_putW (k : Key) : ∀ (ws : Wq) (kvs : List (Key × V)), valV (putW ws kvs) k = (valV (putW ws []) k).or (valV kvs k)
  | [], kvs => rfl
  | p :: ws, kvs => by
    show valV (putW ws (putK kvs (.inl p.1) (.ref p.2))) k = (valV (putW ws (putK [] (.inl p.1) (.ref p.2))) k).or (valV kvs k)
    rw [val_putW k ws (putK kvs (.inl p.1) (.ref p.2)), val_putW k ws (putK [] (.inl p.1) (.ref p.2)), valV_put, valV_put]
    cases valV (putW ws []) k with
    | some v => rfl
    | none =>
      split
      · rfl
      · rfl
theorem nodup_putW : ∀ (ws : Wq) {kvs : List (Key × V)}, (kvs.map (·.1)).Nodup → ((putW ws kvs).map (·.1)).Nodup
  | [], _, h => h
  | _ :: ws, _, h => nodup_putW ws (nodup_put h)
theorem len_putW : ∀ (ws : Wq) (kvs : List (Key × V)), (putW ws kvs).length ≤ kvs.length + ws.length
  | [], _ => Nat.le_refl _
  | p :: ws, kvs => by
    have h1 := len_putW ws (putK kvs (.inl p.1) (.ref p.2))
    have h2 := len_put kvs (.inl p.1) (.ref p.2)
    have e : (p :: ws).length = ws.length + 1 := rfl
    rw [e]
    exact Nat.le_trans h1 (by omega)
/-- every value is a block -/
def AllB (K : PySem.W.Frag) (H : Hp) (kvs : List (Key × V)) : Prop := ∃ ms, BsR K H kvs ms
theorem AllB.ch {K : PySem.W.Frag} {M : List Addr} {H H' : Hp} {kvs : List (Key × V)} (s : Ch M H H') (h : AllB K H kvs) : AllB K H' kvs := h.elim fun ms h => ⟨ms, h.ch s⟩
def WsB (K : PySem.W.Frag) (H : Hp) (ws : Wq) : Prop := ∀ p ∈ ws, ∃ d, BlkA K H p.2 d
theorem WsB.ch {K : PySem.W.Frag} {M : List Addr} {H H' : Hp} {ws : Wq} (s : Ch M H H') (h : WsB K H ws) : WsB K H' ws := fun p hp => (h p hp).elim fun d h => ⟨d, h.ch s⟩
theorem AllB.put {K : PySem.W.Frag} {H : Hp} {kvs : List (Key × V)} {k : Key} {a : Addr} {d : List Int} (h : AllB K H kvs) (b : BlkA K H a d) : AllB K H (putK kvs k (.ref a)) := h.elim fun ms h => ⟨_, h.put b⟩
theorem AllB.putW {K : PySem.W.Frag} {H : Hp} : ∀ {ws : Wq} {kvs : List (Key × V)}, AllB K H kvs → WsB K H ws → AllB K H (putW ws kvs)
  | [], _, h, _ => h
  | p :: ws, kvs, h, w => by
    obtain ⟨d, b⟩ := w p List.mem_cons_self
    exact AllB.putW (kvs := putK kvs (.inl p.1) (.ref p.2)) (h.put b) fun q hq => w q (List.mem_cons_of_mem _ hq)
/-- the list's pairs -/
def Prs (K : PySem.W.Frag) (H : Hp) (zs : List Addr) (ws : Wq) : Prop := Paired (fun z p => SqT K H z [.int p.1, .ref p.2]) zs ws
theorem Prs.ch {K : PySem.W.Frag} {M : List Addr} {H H' : Hp} (s : Ch M H H') : ∀ {zs : List Addr} {ws : Wq}, Prs K H zs ws → Prs K H' zs ws
  | _, _, .nil => .nil
  | _, _, .cons h r => .cons (s.sqT h) (Prs.ch s r)
/-! ### a disk -/
structure DS where
  bs : List (Key × V)
  wr : List (Key × V)
  ws : Wq
  lg : List Int
  tl : List Int
  fu : Option Int
  dd : Bool
  st : Int
def fuV : Option Int → V
  | none => .non
  | some i => .int i
def DS.ok (S : DS) : Bool := !S.dd && !decide (S.fu = some 0)
def DS.step (S : DS) : DS := if S.dd = true then S else if S.fu = some 0 then { S with dd := true } else { S with fu := S.fu.map (· - 1), st := S.st + 1 }
abbrev F9 (v1 v2 v3 v4 v5 v6 v7 v8 v9 : V) : List (Str × V) := [(("block_size" : Str), v1), (("blocks" : Str), v2), (("log" : Str), v3), (("waiting" : Str), v4), (("written" : Str), v5), (("log_tail" : Str), v6), (("fuse" : Str), v7), (("dead" : Str), v8), (("steps" : Str), v9)]
abbrev flds (bA lA qA wA tA : Addr) (S : DS) : List (Str × V) := F9 (.int 96) (.ref bA) (.ref lA) (.ref qA) (.ref wA) (.ref tA) (fuV S.fu) (.bl S.dd) (.int S.st)
--[("block_size", .int 8), ("blocks", .ref bA), ("log", .ref lA), ("waiting", .ref qA), ("written", .ref wA), ("log_tail", .ref tA), ("fuse", fuV S.fu), ("dead", .bl S.dd), ("steps", .int S.st)]
theorem step_bs (S : DS) : S.step.bs = S.bs := by unfold DS.step; split; · rfl
                                                  split <;> rfl
theorem step_wr (S : DS) : S.step.wr = S.wr := by unfold DS.step; split; · rfl
                                                  split <;> rfl
theorem step_ws (S : DS) : S.step.ws = S.ws := by unfold DS.step; split; · rfl
                                                  split <;> rfl
theorem step_lg (S : DS) : S.step.lg = S.lg := by unfold DS.step; split; · rfl
                                                  split <;> rfl
theorem step_tl (S : DS) : S.step.tl = S.tl := by unfold DS.step; split; · rfl
                                                  split <;> rfl
def DS.write (S : DS) (n : Int) (a : Addr) : DS := { S.step with ws := S.ws ++ [(n, a)], wr := putK S.wr (.inl n) (.ref a) }
def DS.sync (S : DS) : DS := { S.step with bs := putW S.ws S.bs, ws := [], wr := [] }
structure DskO (K : PySem.W.Frag) (C : Addr) (H : Hp) (x bA qA wA : Addr) (S : DS) : Prop where
  ex : ∃ (dx lA tA : Addr) (zs : List Addr), H x = some (.ins C dx (flds bA lA qA wA tA S)) ∧ SqT K H lA (S.lg.map V.int) ∧ SqT K H tA (S.tl.map V.int) ∧ H qA = some (.lst (zs.map V.ref)) ∧ Prs K H zs S.ws
  bs : H bA = some (.dK S.bs)
  wr : H wA = some (.dK S.wr)
  ne : bA ≠ wA
  ab : AllB K H S.bs
  aw : AllB K H S.wr
  aq : WsB K H S.ws
  nd : (S.bs.map (·.1)).Nodup
theorem DskO.ch {K : PySem.W.Frag} {C : Addr} {M : List Addr} {H H' : Hp} {x bA qA wA : Addr} {S : DS} (h : DskO K C H x bA qA wA S) (s : Ch M H H') (nx : x ∉ M) (nb : bA ∉ M) (nq : qA ∉ M) (nw : wA ∉ M) : DskO K C H' x bA qA wA S := by
  obtain ⟨⟨dx, lA, tA, zs, h1, h2, h3, h4, h5⟩, a, b, c, d, e, f, g⟩ := h
  exact ⟨⟨dx, lA, tA, zs, s.ins h1 nx, s.sqT h2, s.sqT h3, s.lst h4 nq, h5.ch s⟩, s.dk a nb, s.dk b nw, c, d.ch s, e.ch s, f.ch s, g⟩
theorem DskO.sm {K : PySem.W.Frag} {C : Addr} {H H' : Hp} {x bA qA wA : Addr} {S : DS} (h : DskO K C H x bA qA wA S) (s : Same H H') : DskO K C H' x bA qA wA S :=
  h.ch (M := []) (Ch.of s) List.not_mem_nil List.not_mem_nil List.not_mem_nil List.not_mem_nil
theorem DskO.upx {K : PySem.W.Frag} {C : Addr} {H H' : Hp} {x bA qA wA dx lA tA : Addr} {S S' : DS} (h : DskO K C H x bA qA wA S) (s : Cs [x] H H') (hx : H' x = some (.ins C dx (flds bA lA qA wA tA S'))) (h1 : SqT K H' lA (S'.lg.map V.int)) (h2 : SqT K H' tA (S'.tl.map V.int))
    (e1 : S'.bs = S.bs) (e2 : S'.wr = S.wr) (e3 : S'.ws = S.ws) : DskO K C H' x bA qA wA S' := by
  obtain ⟨⟨dx0, lA0, tA0, zs, g1, g2, g3, g4, g5⟩, a, b, c, d, e, f, g⟩ := h
  have nb : bA ∉ [x] := fun z => absurd (List.mem_singleton.mp z) (ne_of a g1 (fun z => by cases z))
  have nw : wA ∉ [x] := fun z => absurd (List.mem_singleton.mp z) (ne_of b g1 (fun z => by cases z))
  have nq : qA ∉ [x] := fun z => absurd (List.mem_singleton.mp z) (ne_of g4 g1 (fun z => by cases z))
  refine ⟨⟨dx, lA, tA, zs, hx, h1, h2, s.ch.lst g4 nq, ?_⟩, ?_, ?_, c, ?_, ?_, ?_, ?_⟩
  · rw [e3]; exact g5.ch s.ch
  · rw [e1]; exact s.ch.dk a nb
  · rw [e2]; exact s.ch.dk b nw
  · rw [e1]; exact d.ch s.ch
  · rw [e2]; exact e.ch s.ch
  · rw [e3]; exact f.ch s.ch
  · rw [e1]; exact g
theorem mem_bsR {K : PySem.W.Frag} {H : Hp} {kvs : List (Key × V)} {ms : Bs} (r : BsR K H kvs ms) {p : Key × V} (h : p ∈ kvs) : ∃ m ∈ ms, p.1 = m.1 ∧ ∃ a, p.2 = .ref a ∧ BlkA K H a m.2 := by
  induction r with
  | nil => cases h
  | cons g r ih =>
    rcases List.mem_cons.mp h with rfl | h
    · exact ⟨_, List.mem_cons_self, g⟩
    · obtain ⟨m, h1, h2⟩ := ih h
      exact ⟨m, List.mem_cons_of_mem _ h1, h2⟩
end M11
end

section
-- part Dr
set_option Elab.async false
set_option linter.all false
set_option maxRecDepth 100000
set_option maxHeartbeats 2000000
/-! Dr: a dict compared with the empty one; more steps of the walk over dicts -/
namespace Dq
open PySem PySem.Spec PyProof.Rows L2 Fw Gk
section
variable {X : Cx}
def rNe0 : R2 := fun x y H Q => ∃ a b ks, x = .ref a ∧ y = .ref b ∧ H a = some (.dK ks) ∧ H b = some (.dK []) ∧ Q (.bl (!ks.isEmpty)) H
theorem op_ne_empty (hu : X.A.units + 64 < cLine) : OpR X (compareOp .NotEq) rNe0 := by
  intro pins s σ H x y v u Q I rx ry h
  obtain ⟨a, b, ks, rfl, rfl, ea, eb, q⟩ := h
  obtain rfl : v = Value.ref a := rx
  obtain rfl : u = Value.ref b := ry
  obtain ⟨_, ya, va, ra, da⟩ := (show ObjOk X.prog X.w H s.heap a (.dK ks) from I.hok a _ ea)
  obtain ⟨_, yb, vb, rb, db⟩ := (show ObjOk X.prog X.w H s.heap b (.dK []) from I.hok b _ eb)
  have lb : vb.length = 0 := by rw [← rb.length]; rfl
  have la : va.length = ks.length := ra.length.symm
  refine PySem.W.keq_ne (knd := mixKind X.prog X.w) (r := true) ya yb da db (by omega) (fun hl => ?_) (fin_bl I q ?_)
  · have z : va = [] := List.eq_nil_of_length_eq_zero (hl.trans lb)
    rw [z]
    exact .nil
  · rw [lb, la]
    cases ks <;> rfl
end
section
variable {K : PySem.W.Frag} {σ : L2.St} {H : Hp} {Q : VK} {td ty : TE} {D : Ends} {t : TS} {te : TE}
theorem w_dpop1 (h : td σ H fun x H1 => ∃ a, x = .ref a ∧ IsD H1 a ∧ ty σ H1 fun y H2 => ∃ kvs k v, H2 a = some (.dK kvs) ∧ y = kV k ∧ valV kvs k = some v ∧ Q v (upd H2 a (.dK (dropK kvs k)))) : tDPop1 td ty σ H Q := h
theorem w_ddel (h : td σ H fun x H1 => ty σ H1 fun y H2 => ∃ a kvs k, x = .ref a ∧ H2 a = some (.dK kvs) ∧ y = kV k ∧ (valV kvs k).isSome = true ∧ D.nx σ (upd H2 a (.dK (dropK kvs k)))) : sDDel td ty D σ H := h
end
/-! ### for k in d -/
section
variable {K : PySem.W.Frag} {σ : L2.St} {H : Hp} {td : TE} {g : TG} {tb : TS} {D : Ends}
theorem w_forK {d : Addr} {kvs : List (Key × V)} (hd : H d = some (.dK kvs)) (htd : ∀ (o : Obj) (R : V → Hp → Prop), R (.ref d) (upd H d (.frz o (.dK kvs))) → td σ (upd H d (.frz o (.dK kvs))) R)
    (h : ∀ o : Obj, ∃ Pv : Nat → L2.St → Hp → Prop, Pv 0 σ (upd H d (.frz o (.dK kvs))) ∧ (∀ i σ' H', i ≤ kvs.length → Pv i σ' H' → H' d = some (.frz o (.dK kvs))) ∧
      (∀ i k v σ' H', kvs[i]? = some (k, v) → Pv i σ' H' → g (kV k) σ' H' fun σ2 H2 => tb ⟨Pv (i + 1), fun v H' => H' d = some (.frz o (.dK kvs)) ∧ D.rt v (upd H' d (.dK kvs)), fun σ' H' => H' d = some (.frz o (.dK kvs)) ∧ D.nx σ' (upd H' d (.dK kvs)), Pv (i + 1)⟩ σ2 H2) ∧
      (∀ σ' H', Pv kvs.length σ' H' → D.nx σ' (upd H' d (.dK kvs)))) : tLock (tFor (iKeys td) g tb) D σ H := by
  refine ⟨d, .dK kvs, hd, trivial, fun o => ?_⟩
  obtain ⟨Pv, h0, hl, hs, hq⟩ := h o
  refine htd o _ ⟨d, o, rfl, .inl ⟨kvs, upd_same, ?_⟩⟩
  exact for_it walk_keys Pv h0 (fun i σ' H' hi p => hl i σ' H' hi p) (fun i x σ' H' H'' hi p y => by
    obtain ⟨rfl, k, v, e, rfl⟩ := y
    exact hs i k v σ' _ e p) (fun σ' H' p => ⟨hl _ _ _ (Nat.le_refl _) p, hq σ' H' p⟩)
theorem upd_id {H : Hp} {a : Addr} {o : HO} (e : H a = some o) : upd H a o = H := by
  funext b
  by_cases z : b = a
  · rw [z, upd_same, e]
  · exact upd_ne z
end
end Dq
end

section
-- part K11A
set_option Elab.async false
set_option linter.all false
set_option maxRecDepth 100000
set_option maxHeartbeats 800000
open PySem PySem.Spec PyProof.Rows L2 Fw
local macro_rules | `(tactic| walk_at "e1") => `(tactic| first
  | ((with_reducible refine' w_var ?hv ?_); (case hv => rfl))
  | with_reducible refine w_c ?_
  | with_reducible refine w_op ?_
  | with_reducible refine w_un ?_
  | with_reducible refine w_cons ?_
  | with_reducible refine w_nil ?_
  | with_reducible refine w_cl ?_
  | with_reducible refine w_cb ?_
  | with_reducible refine w_gname ?_
  | with_reducible refine w_gsub ?_
  | with_reducible refine w_test ?_
  | with_reducible refine w_B ?_
  | with_reducible refine w_bl ?_
  | with_reducible refine w_and ?_
  | with_reducible refine w_or ?_
  | with_reducible refine w_not ?_
  | with_reducible refine w_if ?_
  | with_reducible refine w_I0 ?_
  | with_reducible refine Gk.w_rU ?_
  | with_reducible refine L2.w_neOs ?_
  | with_reducible refine w_ipI ?_
  | with_reducible refine w_eqS ?_
  | with_reducible refine w_neS ?_
  | with_reducible refine w_eqI ?_
  | with_reducible refine w_neI ?_
  | with_reducible refine w_eqB ?_
  | with_reducible refine w_neB ?_
  | ((with_reducible refine w_eq ?hs ?_); (case hs => rfl))
  | ((with_reducible refine w_ne ?hs ?_); (case hs => rfl))
  | with_reducible refine w_fld ?_
  | with_reducible refine w_bm ?_
  | with_reducible refine w_bm0 ?_
  | with_reducible refine w_sl ?_
  | with_reducible refine w_part ?_
  | with_reducible refine w_partI ?_
  | with_reducible refine w_nopart ?_
  | ((with_reducible refine' w_ixL ?hh ?ha ?_); (case hh => first | assumption | exact upd_same); (case ha => rfl))
  | ((with_reducible refine' w_setLu ?ha ?_); (case ha => rfl))
  | ((with_reducible refine' w_setL ?hh ?ha ?_); (case hh => first | assumption | exact upd_same); (case ha => rfl))
  | with_reducible refine w_iteT ?_
  | with_reducible refine w_iteF ?_
  | with_reducible refine w_lst ?_
  | with_reducible refine w_tup ?_
  | ((with_reducible refine w_new ?hz ?_); (case hz => rfl))
  | with_reducible refine w_lc ?_
  | with_reducible refine w_iL ?_
  | with_reducible refine w_iT ?_
  | with_reducible refine w_iR1 ?_
  | with_reducible refine w_iR2 ?_
  | with_reducible refine w_yes ?_
  | with_reducible refine w_iStr ?_
  | with_reducible exact tyS
  | with_reducible refine And.intro tyS ?_
  | ((with_reducible refine w_find3 ?_); (first | rw [find3_one] | rw [starts3] | skip))
  | ((with_reducible refine w_2s ?_); (try rw [find_one]))
  | ((with_reducible refine w_inS ?_); rw [S_list])
  | ((with_reducible refine w_lenS ?hz ?_); (case hz => first | assumption | omega | decide); rw [SX.S_len])
  | ((with_reducible refine w_addS ?hz ?_); (case hz => first | assumption | omega | decide); rw [vS_cat])
  | with_reducible refine w_mk ?_
  | with_reducible refine w_me ?_
  | with_reducible refine w_sfld ?_
  | ((with_reducible refine' w_gtup ?hh ?hn ?_); (case hh => first | assumption | exact upd_same); (case hn => rfl))
  | with_reducible refine w_gcons ?_
  | with_reducible refine w_gnil ?_
  | with_reducible refine w_repl ?_
  | with_reducible refine w_star ?_
  | with_reducible refine w_revL ?_
  | with_reducible refine w_isiS ?_
  | with_reducible refine w_isiI ?_
  | with_reducible refine w_isiN ?_
  | with_reducible refine w_chain ?_
  | with_reducible refine w_iEnumT ?_
  | with_reducible refine w_iZip3 ?_
  | with_reducible refine w_iZip ?_
  | with_reducible refine w_lenR3 ?_
  | with_reducible refine w_x1i ?_
  | with_reducible refine w_x1b ?_
  | with_reducible refine w_x1s ?_
  | with_reducible refine w_int1i ?_
  | with_reducible refine w_int1b ?_
  | ((with_reducible refine w_mod ?hc ?_); (case hc => omega))
  | ((with_reducible refine w_fdivW ?hc ?hd ?_); (case hc => omega); (case hd => omega))
  | ((with_reducible refine w_mul ?hc ?_); (case hc => first | exact Or.inr ⟨by decide, by decide⟩ | exact Or.inl ⟨by decide, by decide⟩))
  | ((with_reducible refine w_pow ?hc ?_); (case hc => exact ⟨by decide, by decide, by decide⟩)))
local macro_rules | `(tactic| walk_at "s1") => `(tactic| first
  | with_reducible refine w_seq ?_
  | with_reducible refine w_asg ?_
  | with_reducible refine w_ret ?_
  | with_reducible refine w_par ?_
  | with_reducible refine w_drop ?_
  | with_reducible refine w_next ?_
  | with_reducible refine w_ifs ?_
  | ((with_reducible refine' w_aug ?hv ?_); (case hv => rfl))
  | with_reducible refine w_for ?_
  | walk_at "e1")
local macro_rules | `(tactic| walk_at "e") => `(tactic| repeat walk_at "e1")
local macro_rules | `(tactic| walk_at "g") => `(tactic| repeat walk_at "s1")

namespace K11
open Dc Gk
def top (i : Nat) : Stmt := PySem.Challenge.pw_tablestack_k11_a_few_pages_in_memory.main.body.getD i (.Pass ⟨0, 0, 0, 0⟩)
-- _law_dice: 0:cell
abbrev s__law_dice : Stmt := top 31
theorem sc__law_dice : FnScope ["cell"] ["cell"] (defScope s__law_dice) := ⟨rfl, rfl, rfl, by decide +kernel, rfl, by decide +kernel, by decide +kernel⟩
-- _law_roll: 0:dice 1:many 2:found
abbrev s__law_roll : Stmt := top 32
theorem sc__law_roll : FnScope ["dice", "many", "found"] ["dice", "many"] (defScope s__law_roll) := ⟨rfl, rfl, rfl, by decide +kernel, rfl, by decide +kernel, by decide +kernel⟩
-- _law_rounds: 0:script 1:most 2:cells 3:cell
abbrev s__law_rounds : Stmt := top 33
theorem sc__law_rounds : FnScope ["script", "most", "cells", "cell"] ["script", "most"] (defScope s__law_rounds) := ⟨rfl, rfl, rfl, by decide +kernel, rfl, by decide +kernel, by decide +kernel⟩
structure Wl (K : PySem.W.Frag) (mg : Str → Option Value) : Prop where
  n_abs : mg "abs" = none
  n_int : mg "int" = none
  n_str : mg "str" = none
  n_len : mg "len" = none
  n_range : mg "range" = none
  d__law_dice : FnP K mg "_law_dice" s__law_dice
  d__law_roll : FnP K mg "_law_roll" s__law_roll
  d__law_rounds : FnP K mg "_law_rounds" s__law_rounds
section
variable {P : Program} {w : World} {K : PySem.W.Frag} {mg : Str → Option Value} {base : Heap}
theorem ok__law_dice (W : Wl K mg) : Cl P w K mg base 1 "_law_dice" spDice := by
  refine cl_mk W.d__law_dice sc__law_dice (fun _ _ _ _ _ _ us hl => match us, hl with | [_], _ => rfl) (fun vs H Q E h => ?_) (fun f cdv A outer s H vs Q E hr h => ?_)
  · obtain ⟨c, rfl, _⟩ := h; rfl
  obtain ⟨c, rfl, q⟩ := h
  refine ⟨_, (pss_cons (ps_if (pt_chain op_lt op_lt (pe_op op_sub pe_int pe_int) (pv 0) pe_int)
    (pss_one (ps_ret (pe_lst (pa_cons (pe_callB call_abs rfl W.n_abs (by decide +kernel) (pa_cons (pv 0) pa_nil)) (pa_cons pe_int (pa_cons pe_int pa_nil))))))
    pss_nil)
    (pss_one (ps_ret (pe_lst (pa_cons (pv 0) (pa_cons (pe_op op_add pe_int (pe_op op_mod (pe_callTy call_int1 rfl W.n_int (by decide +kernel) (pa_cons (pv 0) pa_nil)) pe_int)) (pa_cons (pe_callTy call_int1 rfl W.n_int (by decide +kernel) (pa_cons (pe_cmpR op_ge (pv 0) (pe_op op_pow pe_int pe_int) (nomark _)) pa_nil)) pa_nil))))))), ?_⟩
  walk_at "g"
  refine w_iteD (fun c1 => ?_) (fun c1 => ?_)
  · walk_at "g"
    refine w_iteD (fun c2 => ?_) (fun c2 => ?_)
    · walk_at "g"
      exact fun p hp => q p _ _ _ hp
    · walk_at "g"
      exact fun p hp => q p _ _ _ hp
  · walk_at "g"
    exact fun p hp => q p _ _ _ hp
theorem ok__law_roll (W : Wl K mg) : Cl P w K mg base 1 "_law_roll" spRoll := by
  refine cl_mk W.d__law_roll sc__law_roll (fun _ _ _ _ _ _ us hl => match us, hl with | [_, _], _ => rfl) (fun vs H Q E h => ?_) (fun f cdv A outer s H vs Q E hr h => ?_)
  · obtain ⟨d, m, a, b, c, rfl, _⟩ := h; rfl
  obtain ⟨d, m, a, b, c, rfl, hd, h0, h1, q⟩ := h
  refine ⟨_, (pss_cons (ps_if (PW.pt (pw_or (pt_cmpR op_eq (pe_ix ix_list (pv 0) pe_int (fun _ _ => rfl)) pe_int (nomark _)) (pw_or1 (PW.pt (pw_and (pt_cmpR op_eq (pe_ix ix_list (pv 0) pe_int (fun _ _ => rfl)) pe_int (nomark _)) (pw_and1 (pt_cmpR op_gt (pe_ix ix_list (pv 0) pe_int (fun _ _ => rfl)) pe_int (nomark _))))))))
    (pss_cons (ps_set (i := 2) sc__law_roll.nd rfl (Or.inl rfl) (pe_op op_mod (pe_callTy call_int1 rfl W.n_int (by decide +kernel) (pa_cons (pe_ix ix_list (pv 0) pe_int (fun _ _ => rfl)) pa_nil)) (pv 1)))
    (pss_cons (ps_asg (pe_op op_fdivW (pe_ix ix_list (pv 0) pe_int (fun _ _ => rfl)) (pv 1)) (pg_sub (pv 0) pe_int set_list))
    (pss_one (ps_ret (pv 2)))))
    pss_nil)
    (pss_cons (ps_asg pe_int (pg_sub (pv 0) pe_int set_list))
    (pss_cons (ps_asg (pe_op op_mod (pe_callTy call_int1 rfl W.n_int (by decide +kernel) (pa_cons (pe_op op_add (pe_op op_add (pe_op op_mul (pe_ix ix_list (pv 0) pe_int (fun _ _ => rfl)) pe_int) (pe_op op_mul (pe_ix ix_list (pv 0) pe_int (fun _ _ => rfl)) pe_int)) pe_int) pa_nil)) pe_int) (pg_sub (pv 0) pe_int set_list))
    (pss_cons (ps_asg (pe_op op_add (pe_ix ix_list (pv 0) pe_int (fun _ _ => rfl)) pe_int) (pg_sub (pv 0) pe_int set_list))
    (pss_one (ps_ret (pe_op op_mod (pe_callTy call_int1 rfl W.n_int (by decide +kernel) (pa_cons (pe_op op_fdivW (pe_ix ix_list (pv 0) pe_int (fun _ _ => rfl)) pe_int) pa_nil)) (pv 1)))))))), ?_⟩
  have fin : ∀ z a' b' c' : Int, Q (.int (z % m)) (upd H d (.lst [.int a', .int b', .int c'])) := fun z a' b' c' => q _ a' b' c' (mod_b h0).1 (mod_b h0).2
  walk_at "g"
  refine w_iteD (fun c1 => ?_) (fun c1 => ?_)
  · walk_at "g"
    exact fin _ _ _ _
  · walk_at "g"
    refine w_iteD (fun c2 => ?_) (fun c2 => ?_)
    · walk_at "g"
      refine w_iteD (fun c3 => ?_) (fun c3 => ?_)
      · walk_at "g"
        exact fin _ _ _ _
      · walk_at "g"
        exact fin _ _ _ _
    · walk_at "g"
      exact fin _ _ _ _
theorem ok__law_rounds (W : Wl K mg) (c__law_dice : Cl P w K mg base 1 "_law_dice" spDice) : Cl P w K mg base 2 "_law_rounds" (spRounds K) := by
  refine cl_mk W.d__law_rounds sc__law_rounds (fun _ _ _ _ _ _ us hl => match us, hl with | [_, _], _ => rfl) (fun vs H Q E h => ?_) (fun f cdv A outer s H vs Q E hr h => ?_)
  · obtain ⟨a, ns, m, rfl, _⟩ := h; rfl
  obtain ⟨a, ns, m, rfl, hS, h63, q⟩ := h
  refine ⟨_, (pss_cons (ps_set (i := 2) sc__law_rounds.nd rfl (Or.inl rfl) (pe_slice sl_list (pv 0) po_none (po_some (pv 1))))
    (pss_cons (ps_if (pt_cmpR (op_eqD (hu64 hr)) (pv 2) (pe_lst pa_nil) (nomark _))
    (pss_one (ps_set (i := 2) sc__law_rounds.nd rfl (Or.inl rfl) (pe_lst (pa_cons pe_int pa_nil))))
    pss_nil)
    (pss_one (ps_ret (pe_lc (own := [("cell", 3)]) rfl sc__law_rounds.nd (pi_list (pv 2)) (blkOk_by (own := [("cell", 3)]) (N := ["script", "most", "cells", "cell"]) (sc := defScope s__law_rounds) (by decide +kernel)) (fun _ _ _ _ _ => (pg_name (i := 3) sc__law_rounds.nd rfl (by first | exact Or.inl rfl | exact Or.inr rfl))) (fun _ _ _ _ _ => pts_nil) (fun _ _ _ _ _ => (pe_cl c__law_dice hr (by decide) rfl passL (pa_cons (pv 3) pa_nil)))))))), ?_⟩
  walk_at "g"
  refine ⟨a, _, rfl, hS, fun p1 hp1 => ?_⟩
  obtain ⟨ms, em, hm⟩ := cut_ints ns none (some m)
  rw [em]
  have hz : ms.length ≤ 63 := Nat.le_trans hm h63
  have s1 : Same H (upd H p1 (.lst (ms.map V.int))) := same_new hp1 _
  -- the list is walked
  have rest : ∀ (H1 : Hp) (p : Addr) (zs : List Int), Same H H1 → H1 p = some (.lst (zs.map V.int)) → zs.length ≤ 63 → ∀ (c : Option V),
      tRet (tLc (iList K (tVar 2)) (gName 3) tYes (tCl spDice E0 (tCons (tVar 3) tNil)) (List.map (fun x => x.snd) [((Str.ofString "cell" : Str), 3)])) { nx := fun x H' => Q V.non H', rt := Q } [some (.ref a), some (.int m), some (.ref p), c] H1 := by
    intro H1 p zs e1 hp hzs c
    walk_at "g"
    refine w_lcL (SqL.of hp) (fun D hD => ⟨fun i H2 => ∃ ds : List Addr, ds.length = i ∧ Same H1 H2 ∧ H2 D = some (.lst (ds.map V.ref)) ∧ ∀ d ∈ ds, Dice H2 d ∧ H1 d = none ∧ d ≠ D,
      ⟨[], rfl, same_new hD _, upd_same, fun d hd => by cases hd⟩, fun i H2 _ ⟨ds, _, e, _⟩ => SqL.of (e _ _ hp), ?_, ?_⟩)
    · rintro i x H2 hi ⟨ds, el, e2, eD, hds⟩
      have hi2 : i < zs.length := by
        have := (List.getElem?_eq_some_iff.mp hi).1
        rwa [List.length_map] at this
      obtain ⟨z, rfl⟩ : ∃ z, x = V.int z := by
        rw [List.getElem?_map] at hi
        cases e : zs[i]? with
        | none => rw [e] at hi; cases hi
        | some z => rw [e] at hi; exact ⟨z, (Option.some.inj hi).symm⟩
      walk_at "g"
      refine ⟨rfl, ?_⟩
      walk_at "g"
      refine ⟨z, rfl, fun d a b e hd => ?_⟩
      have nd : D ≠ d := ne_of_none eD hd
      refine ⟨ds.map V.ref, by rw [upd_ne nd]; exact eD, by rw [List.length_map, el]; exact Nat.lt_of_lt_of_le (Nat.lt_of_lt_of_le hi2 hzs) (by decide), ds ++ [d], by rw [List.length_append, el]; rfl, fun b o hb => ?_, by rw [upd_same, List.map_append]; rfl, fun b hb => ?_⟩
      · rw [upd_ne (ne_of_none hb hD), upd_ne (ne_of_none (e2 _ _ hb) hd)]
        exact e2 _ _ hb
      · rcases List.mem_append.mp hb with hb | hb
        · obtain ⟨h1, h2, h3⟩ := hds b hb
          obtain ⟨a', b', c', h1⟩ := h1
          exact ⟨⟨a', b', c', by rw [upd_ne h3, upd_ne (ne_of_none h1 hd)]; exact h1⟩, h2, h3⟩
        · rcases List.mem_singleton.mp hb with rfl
          exact ⟨⟨_, _, _, by rw [upd_ne nd.symm, upd_same]⟩, e2.free hd, nd.symm⟩
    · rintro H2 ⟨ds, el, e2, eD, hds⟩
      rw [List.length_map] at el
      exact q D H2 ds (e1.trans e2) (e1.free hD) eD (fun d hd => ⟨(hds d hd).1, e1.free (hds d hd).2.1⟩) (by omega)
  walk_at "g"
  intro p2 hp2
  refine ⟨_, _, .lst (SqL.of (same_new hp2 _ _ _ upd_same)) (dp_ints ms), .lst (SqL.of upd_same) .nil, shaped_ints ms, rfl, ?_⟩
  rw [eqv_nil]
  walk_at "g"
  have s2 := s1.trans (same_new hp2 (.lst []))
  refine w_iteD (fun c1 => ?_) (fun c1 => ?_)
  · walk_at "g"
    intro p3 hp3
    exact rest _ p3 [0] (s2.trans (same_new hp3 _)) upd_same (by decide) none
  · exact rest _ p1 ms s2 (same_new hp2 _ _ _ upd_same) hz none
end
end K11
end

section
-- part K11B
set_option Elab.async false
set_option linter.all false
set_option maxRecDepth 100000
set_option maxHeartbeats 800000
open PySem PySem.Spec PyProof.Rows L2 Fw
local macro_rules | `(tactic| walk_at "e1") => `(tactic| first
  | ((with_reducible refine' w_var ?hv ?_); (case hv => rfl))
  | with_reducible refine w_c ?_
  | with_reducible refine w_op ?_
  | with_reducible refine w_un ?_
  | with_reducible refine w_cons ?_
  | with_reducible refine w_nil ?_
  | with_reducible refine w_cl ?_
  | with_reducible refine w_cb ?_
  | with_reducible refine w_gname ?_
  | with_reducible refine w_gsub ?_
  | with_reducible refine w_test ?_
  | with_reducible refine w_B ?_
  | with_reducible refine w_bl ?_
  | with_reducible refine w_and ?_
  | with_reducible refine w_or ?_
  | with_reducible refine w_not ?_
  | with_reducible refine w_if ?_
  | with_reducible refine w_I0 ?_
  | with_reducible refine Gk.w_rU ?_
  | with_reducible refine L2.w_neOs ?_
  | with_reducible refine w_ipI ?_
  | with_reducible refine w_eqS ?_
  | with_reducible refine w_neS ?_
  | with_reducible refine w_eqI ?_
  | with_reducible refine w_neI ?_
  | with_reducible refine w_eqB ?_
  | with_reducible refine w_neB ?_
  | ((with_reducible refine w_eq ?hs ?_); (case hs => rfl))
  | ((with_reducible refine w_ne ?hs ?_); (case hs => rfl))
  | with_reducible refine w_fld ?_
  | with_reducible refine w_bm ?_
  | with_reducible refine w_bm0 ?_
  | with_reducible refine w_sl ?_
  | with_reducible refine w_part ?_
  | with_reducible refine w_partI ?_
  | with_reducible refine w_nopart ?_
  | ((with_reducible refine' w_ixL ?hh ?ha ?_); (case hh => first | assumption | exact upd_same); (case ha => rfl))
  | ((with_reducible refine' w_setLu ?ha ?_); (case ha => rfl))
  | ((with_reducible refine' w_setL ?hh ?ha ?_); (case hh => first | assumption | exact upd_same); (case ha => rfl))
  | with_reducible refine w_iteT ?_
  | with_reducible refine w_iteF ?_
  | with_reducible refine w_lst ?_
  | with_reducible refine w_tup ?_
  | ((with_reducible refine w_new ?hz ?_); (case hz => rfl))
  | with_reducible refine w_lc ?_
  | with_reducible refine w_iL ?_
  | with_reducible refine w_iT ?_
  | with_reducible refine w_iR1 ?_
  | with_reducible refine w_iR2 ?_
  | with_reducible refine w_yes ?_
  | with_reducible refine w_iStr ?_
  | with_reducible exact tyS
  | with_reducible refine And.intro tyS ?_
  | ((with_reducible refine w_find3 ?_); (first | rw [find3_one] | rw [starts3] | skip))
  | ((with_reducible refine w_2s ?_); (try rw [find_one]))
  | ((with_reducible refine w_inS ?_); rw [S_list])
  | ((with_reducible refine w_lenS ?hz ?_); (case hz => first | assumption | omega | decide); rw [SX.S_len])
  | ((with_reducible refine w_addS ?hz ?_); (case hz => first | assumption | omega | decide); rw [vS_cat])
  | with_reducible refine w_mk ?_
  | with_reducible refine w_me ?_
  | with_reducible refine w_sfld ?_
  | ((with_reducible refine' w_gtup ?hh ?hn ?_); (case hh => first | assumption | exact upd_same); (case hn => rfl))
  | with_reducible refine w_gcons ?_
  | with_reducible refine w_gnil ?_
  | with_reducible refine w_repl ?_
  | with_reducible refine w_star ?_
  | with_reducible refine w_revL ?_
  | with_reducible refine w_isiS ?_
  | with_reducible refine w_isiI ?_
  | with_reducible refine w_isiN ?_
  | with_reducible refine w_chain ?_
  | with_reducible refine w_iEnumT ?_
  | with_reducible refine w_iZip3 ?_
  | with_reducible refine w_iZip ?_
  | with_reducible refine w_lenR3 ?_
  | with_reducible refine w_x1i ?_
  | with_reducible refine w_x1b ?_
  | with_reducible refine w_x1s ?_
  | with_reducible refine w_int1i ?_
  | with_reducible refine w_int1b ?_
  | ((with_reducible refine w_mod ?hc ?_); (case hc => omega))
  | ((with_reducible refine w_fdivW ?hc ?hd ?_); (case hc => omega); (case hd => omega))
  | ((with_reducible refine w_mul ?hc ?_); (case hc => first | exact Or.inr ⟨by decide, by decide⟩ | exact Or.inl ⟨by decide, by decide⟩))
  | ((with_reducible refine w_pow ?hc ?_); (case hc => exact ⟨by decide, by decide, by decide⟩)))
local macro_rules | `(tactic| walk_at "s1") => `(tactic| first
  | with_reducible refine w_seq ?_
  | with_reducible refine w_asg ?_
  | with_reducible refine w_ret ?_
  | with_reducible refine w_par ?_
  | with_reducible refine w_drop ?_
  | with_reducible refine w_next ?_
  | with_reducible refine w_ifs ?_
  | ((with_reducible refine' w_aug ?hv ?_); (case hv => rfl))
  | with_reducible refine w_for ?_
  | walk_at "e1")
local macro_rules | `(tactic| walk_at "e") => `(tactic| repeat walk_at "e1")
local macro_rules | `(tactic| walk_at "g") => `(tactic| repeat walk_at "s1")

namespace K11
open Dc Gk M5 M10 M8
-- fixed: 0:number 1:many 2:data 3:_
abbrev s_fixed : Stmt := top 8
theorem sc_fixed : FnScope ["number", "many", "data", "_"] ["number", "many"] (defScope s_fixed) := ⟨rfl, rfl, rfl, by decide +kernel, rfl, by decide +kernel, by decide +kernel⟩
-- number_from: 0:data 1:number 2:one
abbrev s_number_from : Stmt := top 9
theorem sc_number_from : FnScope ["data", "number", "one"] ["data"] (defScope s_number_from) := ⟨rfl, rfl, rfl, by decide +kernel, rfl, by decide +kernel, by decide +kernel⟩
-- checksum: 0:data 1:first 2:second
abbrev s_checksum : Stmt := top 10
theorem sc_checksum : FnScope ["data", "first", "second"] ["data"] (defScope s_checksum) := ⟨rfl, rfl, rfl, by decide +kernel, rfl, by decide +kernel, by decide +kernel⟩
-- Page.__init__: 0:self 1:kind 2:link 3:cells 4:key 5:value
abbrev s_Page___init__ : Stmt := inClass (top 22) 0
theorem sc_Page___init__ : FnScope ["self", "kind", "link", "cells", "key", "value"] ["self", "kind", "link", "cells"] (defScope s_Page___init__) := ⟨rfl, rfl, rfl, by decide +kernel, rfl, by decide +kernel, by decide +kernel⟩
-- Page.shown: 0:self
abbrev s_Page_shown : Stmt := inClass (top 22) 1
theorem sc_Page_shown : FnScope ["self"] ["self"] (defScope s_Page_shown) := ⟨rfl, rfl, rfl, by decide +kernel, rfl, by decide +kernel, by decide +kernel⟩
-- Page.size: 0:self 1:key 2:value
abbrev s_Page_size : Stmt := inClass (top 22) 2
theorem sc_Page_size : FnScope ["self", "key", "value"] ["self"] (defScope s_Page_size) := ⟨rfl, rfl, rfl, by decide +kernel, rfl, by decide +kernel, by decide +kernel⟩
-- page_bytes: 0:page 1:block_size 2:data 3:key 4:value
abbrev s_page_bytes : Stmt := top 23
theorem sc_page_bytes : FnScope ["page", "block_size", "data", "key", "value"] ["page", "block_size"] (defScope s_page_bytes) := ⟨rfl, rfl, rfl, by decide +kernel, rfl, by decide +kernel, by decide +kernel⟩
-- page_from: 0:data 1:sort 2:link 3:many 4:end 5:place 6:cells 7:cell
abbrev s_page_from : Stmt := top 24
theorem sc_page_from : FnScope ["data", "sort", "link", "many", "end", "place", "cells", "cell"] ["data"] (defScope s_page_from) := ⟨rfl, rfl, rfl, by decide +kernel, rfl, by decide +kernel, by decide +kernel⟩
-- cell_from: 0:data 1:place 2:end 3:first 4:second 5:key
abbrev s_cell_from : Stmt := top 25
theorem sc_cell_from : FnScope ["data", "place", "end", "first", "second", "key"] ["data", "place", "end"] (defScope s_cell_from) := ⟨rfl, rfl, rfl, by decide +kernel, rfl, by decide +kernel, by decide +kernel⟩
structure Wx (K : PySem.W.Frag) (mg : Str → Option Value) (cPF cPg : Addr) : Prop extends Wl K mg where
  n_tuple : mg "tuple" = none
  n_sum : mg "sum" = none
  n_any : mg "any" = none
  g_accumulate : mg "accumulate" = some (.type "itertools.accumulate")
  e_PageFault : Ex K mg "PageFault" cPF
  p_cl : Cls K cPg
  p_kind : NoAttr K cPg "kind"
  p_link : NoAttr K cPg "link"
  p_cells : NoAttr K cPg "cells"
  p_g : mg "Page" = some (.ref cPg)
  p_i : ∃ (f : Addr) (fd : FuncData), FunD K "__init__" "Page.__init__" (defArgs s_Page___init__) (defBody s_Page___init__) (defScope s_Page___init__) [] [] f fd ∧ Mk K cPg f
  p_shown : FnM K cPg "shown" "Page.shown" s_Page_shown
  p_size : FnM K cPg "size" "Page.size" s_Page_size
  c_MODULUS : Cin mg "MODULUS" 65521
  c_META : Cin mg "META" 1
  c_LEAF : Cin mg "LEAF" 2
  c_INNER : Cin mg "INNER" 3
  c_FREE : Cin mg "FREE" 4
  c_LINK_BYTES : Cin mg "LINK_BYTES" 4
  c_COUNT_BYTES : Cin mg "COUNT_BYTES" 2
  c_HEAD : Cin mg "HEAD" 7
  c_TAIL : Cin mg "TAIL" 4
  c_LENGTH_BYTES : Cin mg "LENGTH_BYTES" 2
  c_CELL : Cin mg "CELL" 4
  d_fixed : FnP K mg "fixed" s_fixed
  d_number_from : FnP K mg "number_from" s_number_from
  d_checksum : FnP K mg "checksum" s_checksum
  d_page_bytes : FnP K mg "page_bytes" s_page_bytes
  d_page_from : FnP K mg "page_from" s_page_from
  d_cell_from : FnP K mg "cell_from" s_cell_from
section
variable {P : Program} {w : World} {K : PySem.W.Frag} {mg : Str → Option Value} {base : Heap} {cPF cPg : Addr}
theorem ok_fixed (W : Wx K mg cPF cPg) : Cl P w K mg base 1 "fixed" spFixed := by
  refine cl_mk W.d_fixed sc_fixed (fun _ _ _ _ _ _ us hl => match us, hl with | [_, _], _ => rfl) (fun vs H Q E h => ?_) (fun f cdv A outer s H vs Q E hr h => ?_)
  · obtain ⟨n, k, rfl, _⟩ := h; rfl
  obtain ⟨n, k, rfl, hk, q⟩ := h
  refine ⟨_, (pss_cons (ps_set (i := 2) sc_fixed.nd rfl (Or.inl rfl) (pe_lst pa_nil))
    (pss_cons (ps_for (passes_of rfl) rfl (pi_range1 rfl W.n_range (pa_cons (pv 1) pa_nil)) (pg_name (i := 3) sc_fixed.nd rfl (Or.inl rfl))
    (pss_cons (ps_expr (pe_bm PySem.F.plainAttrs_list PySem.F.slot_list_append PySem.F.type_list_append mt_append (pv 2) (pa_cons (pe_op op_mod (pv 0) pe_int) pa_nil)))
    (pss_one (ps_set (i := 0) sc_fixed.nd rfl (Or.inl rfl) (pe_op op_fdivW (pv 0) pe_int)))))
    (pss_one (ps_ret (pe_callTy call_tuple_of rfl W.n_tuple (by decide +kernel) (pa_cons (pe_revL (pv 2)) pa_nil)))))), ?_⟩
  walk_at "g"
  intro L hL
  walk_at "g"
  refine w_forRp ⟨by omega, by omega⟩ (fun i σ H' => ∃ (m : Int) (xs : List Int) (v : Option V), σ = [some (.int m), some (.int (k : Int)), some (.ref L), v] ∧ Same H H' ∧ H' L = some (.lst (xs.map V.int)) ∧ xs.length = i ∧ ∀ j, fixedL n (j + i) = fixedL m j ++ xs.reverse)
    ⟨n, [], none, rfl, same_new hL _, upd_same, rfl, fun j => by simp⟩ ?_ ?_
  · rintro i σ H' hi ⟨m, xs, v, rfl, sH, eL, hx, hf⟩
    walk_at "g"
    refine ⟨tyL eL, ?_⟩
    walk_at "g"
    refine w_app eL (by rw [List.length_map]; exact Nat.lt_of_lt_of_le (by omega : xs.length < 64) (by decide)) ?_
    walk_at "g"
    refine ⟨m / 256, xs ++ [m % 256], _, rfl, same_upd sH hL, by rw [upd_same, List.map_append]; rfl, by rw [List.length_append, hx]; rfl, fun j => ?_⟩
    have := hf (j + 1)
    rw [show j + (i + 1) = j + 1 + i by omega, this, fixedL, List.reverse_append, List.append_assoc]
    rfl
  · rintro σ H' ⟨m, xs, v, rfl, sH, eL, hx, hf⟩
    have e0 := hf 0
    have ek : ((k : Int)).toNat = k := by omega
    rw [ek, Nat.zero_add] at e0
    walk_at "g"
    refine ⟨L, xs.map V.int, rfl, SqL.of eL, fun R hR => ?_⟩
    walk_at "g"
    refine ⟨R, (xs.map V.int).reverse, rfl, .inl ⟨SqL.of upd_same, fun p hp => ?_⟩⟩
    refine q p _ ((sH.trans (same_new hR _)).trans (same_new hp _)) (sH.free (Same.free (same_new hR _) hp)) ?_
    rw [upd_same, e0, ← List.map_reverse]
    rfl
theorem ok_number_from (W : Wx K mg cPF cPg) : Cl P w K mg base 1 "number_from" (spNumF K) := by
  refine cl_mk W.d_number_from sc_number_from (fun _ _ _ _ _ _ us hl => match us, hl with | [_], _ => rfl) (fun vs H Q E h => ?_) (fun f cdv A outer s H vs Q E hr h => ?_)
  · obtain ⟨a, d, rfl, _⟩ := h; rfl
  obtain ⟨a, d, rfl, hS, q⟩ := h
  refine ⟨_, (pss_cons (ps_set (i := 1) sc_number_from.nd rfl (Or.inl rfl) pe_int)
    (pss_cons (ps_for (passes_of rfl) rfl (pi_tup (pv 0)) (pg_name (i := 2) sc_number_from.nd rfl (Or.inl rfl))
    (pss_one (ps_set (i := 1) sc_number_from.nd rfl (Or.inl rfl) (pe_op op_add (pe_op op_mul (pv 1) pe_int) (pv 2)))))
    (pss_one (ps_ret (pv 1))))), ?_⟩
  walk_at "g"
  refine w_forT hS (fun i σ H' => H' = H ∧ ∃ v : Option V, σ = [some (.ref a), some (.int (fromL (d.take i))), v]) ⟨rfl, none, rfl⟩ (fun i σ H' _ h => by rw [h.1]; exact hS) ?_ ?_
  · rintro i x σ H' hi ⟨rfl, v, rfl⟩
    obtain ⟨b, hb, rfl⟩ := ints_get hi
    walk_at "g"
    exact ⟨rfl, _, by rw [fromL_take hb]; rfl⟩
  · rintro σ H' ⟨rfl, v, rfl⟩
    rw [List.length_map, List.take_length]
    walk_at "g"
    exact q
theorem ok_checksum (W : Wx K mg cPF cPg) (c_fixed : Cl P w K mg base 1 "fixed" spFixed) : Cl P w K mg base 2 "checksum" (spCk2 K) := by
  refine cl_mk W.d_checksum sc_checksum (fun _ _ _ _ _ _ us hl => match us, hl with | [_], _ => rfl) (fun vs H Q E h => ?_) (fun f cdv A outer s H vs Q E hr h => ?_)
  · obtain ⟨a, d, rfl, _⟩ := h; rfl
  obtain ⟨a, d, rfl, hS, q⟩ := h
  refine ⟨_, (pss_cons (ps_set (i := 1) sc_checksum.nd rfl (Or.inl rfl) (pe_op op_mod (pe_op op_add pe_int (pe_callB (cr_sumA rfl) rfl W.n_sum PyProof.Rows.boot_sum (pa_cons (pv 0) pa_nil))) (C8.pe_gc rfl W.c_MODULUS)))
    (pss_cons (ps_set (i := 2) sc_checksum.nd rfl (Or.inl rfl) (pe_op op_mod (pe_op op_add (pe_callB call_len_seq rfl W.n_len PySem.boot_len (pa_cons (pv 0) pa_nil)) (pe_sumAc2 rfl rfl W.n_sum rfl W.g_accumulate (pa_cons (pv 0) pa_nil))) (C8.pe_gc rfl W.c_MODULUS)))
    (pss_one (ps_ret (pe_cl c_fixed hr (by decide) rfl passL (pa_cons (pe_op op_add (pe_op op_mul pe_int (pv 2)) (pv 1)) (pa_cons pe_int pa_nil))))))), ?_⟩
  walk_at "g"
  refine ⟨a, d, rfl, hS, ?_⟩
  walk_at "g"
  refine ⟨a, _, rfl, hS, ?_⟩
  rw [List.length_map]
  walk_at "g"
  refine w_sumAc2 ?_
  walk_at "g"
  refine ⟨a, d, rfl, hS, ?_⟩
  walk_at "g"
  unfold sum4 at q
  rw [ck_sums] at q
  exact ⟨_, 4, rfl, by decide, q⟩
/-! ### pages as objects -/
def CelO (K : PySem.W.Frag) (H : Hp) (z : Addr) (c : Cel) : Prop := ∃ ka va : Addr, SqT K H z [.ref ka, .ref va] ∧ SqT K H ka (c.1.map V.int) ∧ SqT K H va (c.2.map V.int)
def CelsO (K : PySem.W.Frag) (H : Hp) : List Addr → List Cel → Prop := Paired (CelO K H)
def pgF (k l t : V) : List (Str × V) := [("kind", k), ("link", l), ("cells", t)]
def PgO (K : PySem.W.Frag) (C : Addr) (H : Hp) (x : Addr) (k l : Int) (cs : List Cel) : Prop :=
  ∃ (dx t : Addr) (zs : List Addr), H x = some (.ins C dx (pgF (.int k) (.int l) (.ref t))) ∧ H t = some (.tup (zs.map V.ref)) ∧ CelsO K H zs cs
theorem put3 (k l t : V) : putF "cells" t (putF "link" l (putF "kind" k [])) = pgF k l t := by
  have n1 : ¬ (("kind" : Str) = "link") := by decide +kernel
  have n2 : ¬ (("kind" : Str) = "cells") := by decide +kernel
  have n3 : ¬ (("link" : Str) = "cells") := by decide +kernel
  show putF "cells" t (if ("kind" : Str) = "link" then _ else (("kind" : Str), k) :: putF "link" l []) = _
  rw [if_neg n1]
  show (if ("kind" : Str) = "cells" then _ else (("kind" : Str), k) :: (if ("link" : Str) = "cells" then _ else (("link" : Str), l) :: putF "cells" t [])) = _
  rw [if_neg n2, if_neg n3]
  rfl
theorem put2 (k l : V) : putF "link" l (putF "kind" k []) = [(("kind" : Str), k), ("link", l)] := by
  have n1 : ¬ (("kind" : Str) = "link") := by decide +kernel
  show (if ("kind" : Str) = "link" then _ else (("kind" : Str), k) :: putF "link" l []) = _
  rw [if_neg n1]
  rfl
section
variable (k l t : V)
theorem look1 {f g : Str} {x : V} {r : List (Str × V)} (h : (g == f) = true) : List.lookup g ((f, x) :: r) = some x := by rw [List.lookup_cons, h]
theorem look0 {f g : Str} {x : V} {r : List (Str × V)} (h : (g == f) = false) : List.lookup g ((f, x) :: r) = r.lookup g := by rw [List.lookup_cons, h]
theorem pg_k : (pgF k l t).lookup ("kind" : Str) = some k := look1 (by decide +kernel)
theorem pg_l : (pgF k l t).lookup ("link" : Str) = some l := (look0 (by decide +kernel)).trans (look1 (by decide +kernel))
theorem pg_c : (pgF k l t).lookup ("cells" : Str) = some t := (look0 (by decide +kernel)).trans ((look0 (by decide +kernel)).trans (look1 (by decide +kernel)))
theorem pg_m {m : Str} (h1 : (m == ("kind" : Str)) = false) (h2 : (m == ("link" : Str)) = false) (h3 : (m == ("cells" : Str)) = false) : (pgF k l t).lookup m = none := (look0 h1).trans ((look0 h2).trans ((look0 h3).trans rfl))
end
theorem CelO.sm {H H' : Hp} {z : Addr} {c : Cel} (h : CelO K H z c) (s : Same H H') : CelO K H' z c := by
  obtain ⟨ka, va, h1, h2, h3⟩ := h
  exact ⟨ka, va, sqT_same h1 s, sqT_same h2 s, sqT_same h3 s⟩
theorem CelsO.sm {H H' : Hp} (s : Same H H') : ∀ {zs : List Addr} {cs : List Cel}, CelsO K H zs cs → CelsO K H' zs cs
  | _, _, .nil => .nil
  | _, _, .cons h r => .cons (h.sm s) (CelsO.sm s r)
/-- tuples and constants stay -/
theorem CelO.tk {H H' : Hp} {z : Addr} {c : Cel} (h : CelO K H z c) (s : Tk H H') : CelO K H' z c := by
  obtain ⟨ka, va, h1, h2, h3⟩ := h
  exact ⟨ka, va, sqT_tk h1 s, sqT_tk h2 s, sqT_tk h3 s⟩
theorem CelsO.tk {H H' : Hp} (s : Tk H H') : ∀ {zs : List Addr} {cs : List Cel}, CelsO K H zs cs → CelsO K H' zs cs
  | _, _, .nil => .nil
  | _, _, .cons h r => .cons (h.tk s) (CelsO.tk s r)
/-- all but the tables stay -/
theorem CelO.ex {H H' : Hp} {z : Addr} {c : Cel} (h : CelO K H z c) (s : LamX.ExtN H H') : CelO K H' z c := by
  obtain ⟨ka, va, h1, h2, h3⟩ := h
  exact ⟨ka, va, sqT_ex h1 s, sqT_ex h2 s, sqT_ex h3 s⟩
theorem CelsO.ex {H H' : Hp} (s : LamX.ExtN H H') : ∀ {zs : List Addr} {cs : List Cel}, CelsO K H zs cs → CelsO K H' zs cs
  | _, _, .nil => .nil
  | _, _, .cons h r => .cons (h.ex s) (CelsO.ex s r)
/-- an instance alone is another one -/
theorem sqT_ins {H : Hp} {x a C dx : Addr} {fs : List (Str × V)} {xs : List V} {o : HO} (h : SqT K H a xs) (hx : H x = some (.ins C dx fs)) : SqT K (upd H x o) a xs := by
  rcases h with (h | ⟨u, h⟩) | h
  · exact .inl (.inl (by rw [upd_ne (fun z => by rw [z, hx] at h; cases h)]; exact h))
  · exact .inl (.inr ⟨u, by rw [upd_ne (fun z => by rw [z, hx] at h; cases h)]; exact h⟩)
  · exact .inr h
theorem sqL_ins {H : Hp} {x a C dx : Addr} {fs : List (Str × V)} {xs : List V} {o : HO} (h : SqL K H a xs) (hx : H x = some (.ins C dx fs)) : SqL K (upd H x o) a xs := by
  rcases h with (h | ⟨u, h⟩) | h
  · exact .inl (.inl (by rw [upd_ne (fun z => by rw [z, hx] at h; cases h)]; exact h))
  · exact .inl (.inr ⟨u, by rw [upd_ne (fun z => by rw [z, hx] at h; cases h)]; exact h⟩)
  · exact .inr h
theorem CelO.ins {H : Hp} {x z C dx : Addr} {fs : List (Str × V)} {c : Cel} {o : HO} (h : CelO K H z c) (hx : H x = some (.ins C dx fs)) : CelO K (upd H x o) z c := by
  obtain ⟨ka, va, h1, h2, h3⟩ := h
  exact ⟨ka, va, sqT_ins h1 hx, sqT_ins h2 hx, sqT_ins h3 hx⟩
theorem CelsO.ins {H : Hp} {x C dx : Addr} {fs : List (Str × V)} {o : HO} (hx : H x = some (.ins C dx fs)) : ∀ {zs : List Addr} {cs : List Cel}, CelsO K H zs cs → CelsO K (upd H x o) zs cs
  | _, _, .nil => .nil
  | _, _, .cons h r => .cons (h.ins hx) (CelsO.ins hx r)
def spInit (K : PySem.W.Frag) (C : Addr) : Sp := fun vs H Q _ => ∃ (x dx p : Addr) (k l : Int) (zs : List Addr) (cs : List Cel), vs = [.ref x, .int k, .int l, .ref p] ∧ H x = some (.ins C dx []) ∧ SqL K H p (zs.map V.ref) ∧ CelsO K H zs cs ∧ cs.length ≤ 70000 ∧
  ∀ (t : Addr) (ys : List Addr) (H' : Hp), (∀ b u, b ≠ x → H b = some u → H' b = some u) → H' x = some (.ins C dx (pgF (.int k) (.int l) (.ref t))) → H' t = some (.tup (ys.map V.ref)) → CelsO K H' ys cs → Q .non H'
theorem ok_pg_init (W : Wx K mg cPF cPg) : Mc P w K mg base 1 "Page" cPg (spInit K cPg) := by
  refine mc_mk W.p_i W.p_g sc_Page___init__ (fun _ _ _ _ _ _ us hl => match us, hl with | [_, _, _, _], _ => rfl) (fun vs H Q E h => ?_) (fun f cdv A outer s H vs Q E hr h => ?_)
  · obtain ⟨x, dx, p, k, l, zs, cs, rfl, _⟩ := h; rfl
  obtain ⟨x, dx, p, k, l, zs, cs, rfl, hx, hp, hc, hcl, q⟩ := h
  refine ⟨_, (pss_cons (ps_fld (pv 0) (pv 1) rfl)
    (pss_cons (ps_fld (pv 0) (pv 2) rfl)
    (pss_one (ps_fld (pv 0) (pe_callTy call_tuple_of rfl W.n_tuple (by decide +kernel) (pa_cons (pe_lc (own := [("key", 4), ("value", 5)]) rfl sc_Page___init__.nd (pi_list (pv 3)) (blkOk_by (own := [("key", 4), ("value", 5)]) (N := ["self", "kind", "link", "cells", "key", "value"]) (sc := defScope s_Page___init__) (by decide +kernel)) (fun _ _ _ _ _ => (Fw.pg_tupK K 2 rfl rfl (pgs_cons (pg_name (i := 4) sc_Page___init__.nd rfl (by first | exact Or.inl rfl | exact Or.inr rfl)) (pgs_cons (pg_name (i := 5) sc_Page___init__.nd rfl (by first | exact Or.inl rfl | exact Or.inr rfl)) pgs_nil)) rfl rfl)) (fun _ _ _ _ _ => pts_nil) (fun _ _ _ _ _ => (pe_tup (pa_cons (pe_callTy (tuple_ofK K rfl) rfl W.n_tuple (by decide +kernel) (pa_cons (pv 4) pa_nil)) (pa_cons (pe_callTy (tuple_ofK K rfl) rfl W.n_tuple (by decide +kernel) (pa_cons (pv 5) pa_nil)) pa_nil))))) pa_nil)) rfl)))), ?_⟩
  walk_at "g"
  refine ⟨x, cPg, dx, _, rfl, hx, W.p_cl, W.p_kind, by show 0 < 1000; decide, ?_⟩
  walk_at "g"
  refine ⟨x, cPg, dx, _, rfl, upd_same, W.p_cl, W.p_link, by show 1 < 1000; decide, ?_⟩
  rw [upd_upd, put2]
  have hp1 := sqL_ins (o := .ins cPg dx [(("kind" : Str), .int k), ("link", .int l)]) hp hx
  have hc1 := hc.ins (o := .ins cPg dx [(("kind" : Str), .int k), ("link", .int l)]) hx
  have hx1 : (upd H x (.ins cPg dx [(("kind" : Str), .int k), ("link", .int l)])) x = some (.ins cPg dx [(("kind" : Str), .int k), ("link", .int l)]) := upd_same
  have kp1 : ∀ b u, b ≠ x → H b = some u → (upd H x (.ins cPg dx [(("kind" : Str), .int k), ("link", .int l)])) b = some u := fun b u n e => by rw [upd_ne n]; exact e
  generalize upd H x (.ins cPg dx [(("kind" : Str), .int k), ("link", .int l)]) = H1 at hp1 hc1 hx1 kp1
  walk_at "g"
  refine w_lcLn hp1 fun D hD => ⟨fun i H2 => ∃ ys : List Addr, ys.length = i ∧ Same H1 H2 ∧ H2 D = some (.lst (ys.map V.ref)) ∧ CelsO K H2 ys (cs.take i), ⟨[], rfl, same_new hD _, upd_same, .nil⟩, fun i H2 _ ⟨ys, _, s2, _⟩ => sqL_same hp1 s2, ?_, ?_⟩
  · rintro i v H2 hi ⟨ys, rfl, s2, eD, cy⟩
    obtain ⟨z, hz, rfl⟩ := map_get hi
    obtain ⟨c, hc2, cz⟩ := paired_get hc1 hz
    have hlt : ys.length < cs.length := (List.getElem?_eq_some_iff.mp hc2).1
    obtain ⟨ka, va, g1, g2, g3⟩ := cz.sm s2
    refine w_gtupS g1 rfl ?_
    walk_at "g"
    refine ⟨rfl, ?_⟩
    walk_at "g"
    refine ⟨ka, _, rfl, .inr ⟨g2, ?_⟩⟩
    walk_at "g"
    refine ⟨va, _, rfl, .inr ⟨g3, ?_⟩⟩
    walk_at "g"
    intro T hT
    have s3 := same_new hT (.tup [.ref ka, .ref va])
    have eT : upd H2 T (.tup [.ref ka, .ref va]) T = some (.tup [.ref ka, .ref va]) := upd_same
    generalize upd H2 T (.tup [.ref ka, .ref va]) = H3 at s3 eT
    have e3 := s3 _ _ eD
    refine ⟨_, e3, by rw [List.length_map]; exact Nat.lt_of_lt_of_le (by omega : ys.length < 70000) (by decide), ys ++ [T], by simp, same_upd (s2.trans s3) hD, by rw [upd_same, List.map_append]; rfl, ?_⟩
    rw [List.take_add_one, hc2]
    exact Paired.snoc ((cy.sm s3).tk (Tk.wr e3)) (show CelO K _ T c from CelO.tk ⟨ka, va, SqT.of eT, sqT_same g2 s3, sqT_same g3 s3⟩ (Tk.wr e3))
  · rintro H2 ⟨ys, hy, s2, eD, cy⟩
    have hlen : zs.length = cs.length := hc.length
    rw [List.length_map, hlen, List.take_length] at cy
    walk_at "g"
    refine ⟨D, _, rfl, .inl ⟨SqL.of eD, fun t ht => ?_⟩⟩
    have s3 := same_new ht (.tup (ys.map V.ref))
    have eT : upd H2 t (.tup (ys.map V.ref)) t = some (.tup (ys.map V.ref)) := upd_same
    generalize upd H2 t (.tup (ys.map V.ref)) = H3 at s3 eT
    walk_at "g"
    have ex := (s2.trans s3) _ _ hx1
    refine ⟨x, cPg, dx, _, rfl, ex, W.p_cl, W.p_cells, by show 2 < 1000; decide, ?_⟩
    rw [← put2, put3]
    have nx : t ≠ x := fun z => by rw [z] at eT; rw [eT] at ex; cases ex
    exact q t ys _ (fun b u n e => by rw [upd_ne n]; exact (s2.trans s3) _ _ (kp1 b u n e)) upd_same (by rw [upd_ne nx]; exact eT) ((cy.sm s3).ins ex)
end
end K11
end

section
-- part K11C
set_option Elab.async false
set_option linter.all false
set_option maxRecDepth 100000
set_option maxHeartbeats 800000
open PySem PySem.Spec PyProof.Rows L2 Fw
local macro_rules | `(tactic| walk_at "e1") => `(tactic| first
  | ((with_reducible refine' w_var ?hv ?_); (case hv => rfl))
  | with_reducible refine w_c ?_
  | with_reducible refine w_op ?_
  | with_reducible refine w_un ?_
  | with_reducible refine w_cons ?_
  | with_reducible refine w_nil ?_
  | with_reducible refine w_cl ?_
  | with_reducible refine w_cb ?_
  | with_reducible refine w_gname ?_
  | with_reducible refine w_gsub ?_
  | with_reducible refine w_test ?_
  | with_reducible refine w_B ?_
  | with_reducible refine w_bl ?_
  | with_reducible refine w_and ?_
  | with_reducible refine w_or ?_
  | with_reducible refine w_not ?_
  | with_reducible refine w_if ?_
  | with_reducible refine w_I0 ?_
  | with_reducible refine Gk.w_rU ?_
  | with_reducible refine L2.w_neOs ?_
  | with_reducible refine w_ipI ?_
  | with_reducible refine w_eqS ?_
  | with_reducible refine w_neS ?_
  | with_reducible refine w_eqI ?_
  | with_reducible refine w_neI ?_
  | with_reducible refine w_eqB ?_
  | with_reducible refine w_neB ?_
  | ((with_reducible refine w_eq ?hs ?_); (case hs => rfl))
  | ((with_reducible refine w_ne ?hs ?_); (case hs => rfl))
  | with_reducible refine w_fld ?_
  | with_reducible refine w_bm ?_
  | with_reducible refine w_bm0 ?_
  | with_reducible refine w_sl ?_
  | with_reducible refine w_part ?_
  | with_reducible refine w_partI ?_
  | with_reducible refine w_nopart ?_
  | ((with_reducible refine' w_ixL ?hh ?ha ?_); (case hh => first | assumption | exact upd_same); (case ha => rfl))
  | ((with_reducible refine' w_setLu ?ha ?_); (case ha => rfl))
  | ((with_reducible refine' w_setL ?hh ?ha ?_); (case hh => first | assumption | exact upd_same); (case ha => rfl))
  | with_reducible refine w_iteT ?_
  | with_reducible refine w_iteF ?_
  | with_reducible refine w_lst ?_
  | with_reducible refine w_tup ?_
  | ((with_reducible refine w_new ?hz ?_); (case hz => rfl))
  | with_reducible refine w_lc ?_
  | with_reducible refine w_iL ?_
  | with_reducible refine w_iT ?_
  | with_reducible refine w_iR1 ?_
  | with_reducible refine w_iR2 ?_
  | with_reducible refine w_yes ?_
  | with_reducible refine w_iStr ?_
  | with_reducible exact tyS
  | with_reducible refine And.intro tyS ?_
  | ((with_reducible refine w_find3 ?_); (first | rw [find3_one] | rw [starts3] | skip))
  | ((with_reducible refine w_2s ?_); (try rw [find_one]))
  | ((with_reducible refine w_inS ?_); rw [S_list])
  | ((with_reducible refine w_lenS ?hz ?_); (case hz => first | assumption | omega | decide); rw [SX.S_len])
  | ((with_reducible refine w_addS ?hz ?_); (case hz => first | assumption | omega | decide); rw [vS_cat])
  | with_reducible refine w_mk ?_
  | with_reducible refine w_me ?_
  | with_reducible refine w_sfld ?_
  | ((with_reducible refine' w_gtup ?hh ?hn ?_); (case hh => first | assumption | exact upd_same); (case hn => rfl))
  | with_reducible refine w_gcons ?_
  | with_reducible refine w_gnil ?_
  | with_reducible refine w_repl ?_
  | with_reducible refine w_star ?_
  | with_reducible refine w_revL ?_
  | with_reducible refine w_isiS ?_
  | with_reducible refine w_isiI ?_
  | with_reducible refine w_isiN ?_
  | with_reducible refine w_chain ?_
  | with_reducible refine w_iEnumT ?_
  | with_reducible refine w_iZip3 ?_
  | with_reducible refine w_iZip ?_
  | with_reducible refine w_lenR3 ?_
  | with_reducible refine w_x1i ?_
  | with_reducible refine w_x1b ?_
  | with_reducible refine w_x1s ?_
  | with_reducible refine w_int1i ?_
  | with_reducible refine w_int1b ?_
  | ((with_reducible refine w_mod ?hc ?_); (case hc => omega))
  | ((with_reducible refine w_fdivW ?hc ?hd ?_); (case hc => omega); (case hd => omega))
  | ((with_reducible refine w_mul ?hc ?_); (case hc => first | exact Or.inr ⟨by decide, by decide⟩ | exact Or.inl ⟨by decide, by decide⟩))
  | ((with_reducible refine w_pow ?hc ?_); (case hc => exact ⟨by decide, by decide, by decide⟩)))
local macro_rules | `(tactic| walk_at "s1") => `(tactic| first
  | with_reducible refine w_seq ?_
  | with_reducible refine w_asg ?_
  | with_reducible refine w_ret ?_
  | with_reducible refine w_par ?_
  | with_reducible refine w_drop ?_
  | with_reducible refine w_next ?_
  | with_reducible refine w_ifs ?_
  | ((with_reducible refine' w_aug ?hv ?_); (case hv => rfl))
  | with_reducible refine w_for ?_
  | walk_at "e1")
local macro_rules | `(tactic| walk_at "e") => `(tactic| repeat walk_at "e1")
local macro_rules | `(tactic| walk_at "g") => `(tactic| repeat walk_at "s1")

namespace K11
open Dc Gk M5 M10 M8
section
variable {P : Program} {w : World} {K : PySem.W.Frag} {mg : Str → Option Value} {base : Heap} {cPF cPg : Addr}
theorem PgO.sm {C : Addr} {H H' : Hp} {x : Addr} {k l : Int} {cs : List Cel} (h : PgO K C H x k l cs) (s : Same H H') : PgO K C H' x k l cs := by
  obtain ⟨dx, t, zs, h1, h2, h3⟩ := h
  exact ⟨dx, t, zs, s _ _ h1, s _ _ h2, h3.sm s⟩
theorem PgO.tk {C : Addr} {H H' : Hp} {x : Addr} {k l : Int} {cs : List Cel} (h : PgO K C H x k l cs) (s : Tk H H') : PgO K C H' x k l cs := by
  obtain ⟨dx, t, zs, h1, h2, h3⟩ := h
  exact ⟨dx, t, zs, s _ _ h1 (fun zs e => by cases e), s _ _ h2 (fun zs e => by cases e), h3.tk s⟩
theorem PgO.ex {C : Addr} {H H' : Hp} {x : Addr} {k l : Int} {cs : List Cel} (h : PgO K C H x k l cs) (s : LamX.ExtN H H') : PgO K C H' x k l cs := by
  obtain ⟨dx, t, zs, h1, h2, h3⟩ := h
  exact ⟨dx, t, zs, s _ _ h1 (fun zs e => by cases e), ext_tup s h2, CelsO.ex s h3⟩
/-- the page's tuple of what is shown -/
def spShown (K : PySem.W.Frag) (C : Addr) : Sp := fun vs H Q _ => ∃ (x : Addr) (k l : Int) (cs : List Cel), vs = [.ref x] ∧ PgO K C H x k l cs ∧
  ∀ (q t : Addr) (zs : List Addr) (H' : Hp), Same H H' → H' q = some (.tup [.int k, .int l, .ref t]) → H' t = some (.tup (zs.map V.ref)) → CelsO K H' zs cs → Q (.ref q) H'
theorem ok_pg_shown (W : Wx K mg cPF cPg) : Me P w K mg base 1 cPg "shown" (spShown K cPg) := by
  refine me_mk W.p_shown W.p_cl sc_Page_shown (fun _ _ _ _ _ _ us hl => match us, hl with | [_], _ => rfl) (fun vs H Q E h => ?_) (fun f cdv A outer s H vs Q E hr h => ?_)
  · obtain ⟨x, k, l, cs, rfl, _⟩ := h; rfl
  obtain ⟨x, k, l, cs, rfl, ⟨dx, t, zs, hx, ht, hc⟩, q⟩ := h
  refine ⟨_, (pss_one (ps_ret (pe_tup (pa_cons (pe_fld (pv 0) rfl) (pa_cons (pe_fld (pv 0) rfl) (pa_cons (pe_fld (pv 0) rfl) pa_nil)))))), ?_⟩
  walk_at "g"
  refine ⟨x, cPg, dx, _, _, rfl, hx, W.p_cl, W.p_kind, pg_k _ _ _, ?_⟩
  walk_at "g"
  refine ⟨x, cPg, dx, _, _, rfl, hx, W.p_cl, W.p_link, pg_l _ _ _, ?_⟩
  walk_at "g"
  refine ⟨x, cPg, dx, _, _, rfl, hx, W.p_cl, W.p_cells, pg_c _ _ _, ?_⟩
  walk_at "g"
  intro r hr'
  have s1 := same_new hr' (.tup [.int k, .int l, .ref t])
  exact q r t zs _ s1 upd_same (s1 _ _ ht) (hc.sm s1)
/-- how many bytes the page needs -/
def spSize (K : PySem.W.Frag) (C : Addr) : Sp := fun vs H Q _ => ∃ (x : Addr) (k l : Int) (cs : List Cel), vs = [.ref x] ∧ PgO K C H x k l cs ∧ cs.length ≤ 70000 ∧ ∀ H', Same H H' → Q (.int (sizeL cs : Int)) H'
theorem size_sum : ∀ cs : List Cel, (cs.map fun c => (4 : Int) + c.1.length + c.2.length).sum = (((cs.map fun c => 4 + c.1.length + c.2.length).sum : Nat) : Int)
  | [] => rfl
  | c :: r => by
    rw [List.map_cons, List.sum_cons, size_sum r, List.map_cons, List.sum_cons]
    omega
theorem ok_pg_size (W : Wx K mg cPF cPg) : Me P w K mg base 1 cPg "size" (spSize K cPg) := by
  refine me_mk W.p_size W.p_cl sc_Page_size (fun _ _ _ _ _ _ us hl => match us, hl with | [_], _ => rfl) (fun vs H Q E h => ?_) (fun f cdv A outer s H vs Q E hr h => ?_)
  · obtain ⟨x, k, l, cs, rfl, _⟩ := h; rfl
  obtain ⟨x, k, l, cs, rfl, ⟨dx, t, zs, hx, ht, hc⟩, hcl, q⟩ := h
  refine ⟨_, (pss_one (ps_ret (pe_op op_add (pe_op op_add (C8.pe_gc rfl W.c_HEAD) (C8.pe_gc rfl W.c_TAIL)) (pe_callB (cr_sumA rfl) rfl W.n_sum PyProof.Rows.boot_sum (pa_cons (pe_lc (own := [("key", 1), ("value", 2)]) rfl sc_Page_size.nd (pi_tup (pe_fld (pv 0) rfl)) (blkOk_by (own := [("key", 1), ("value", 2)]) (N := ["self", "key", "value"]) (sc := defScope s_Page_size) (by decide +kernel)) (fun _ _ _ _ _ => (Fw.pg_tupK K 2 rfl rfl (pgs_cons (pg_name (i := 1) sc_Page_size.nd rfl (by first | exact Or.inl rfl | exact Or.inr rfl)) (pgs_cons (pg_name (i := 2) sc_Page_size.nd rfl (by first | exact Or.inl rfl | exact Or.inr rfl)) pgs_nil)) rfl rfl)) (fun _ _ _ _ _ => pts_nil) (fun _ _ _ _ _ => (pe_op op_add (pe_op op_add (C8.pe_gc rfl W.c_CELL) (pe_callB (len_seqK K rfl) rfl W.n_len PySem.boot_len (pa_cons (pv 1) pa_nil))) (pe_callB (len_seqK K rfl) rfl W.n_len PySem.boot_len (pa_cons (pv 2) pa_nil))))) pa_nil))))), ?_⟩
  walk_at "g"
  refine ⟨x, cPg, dx, _, _, rfl, hx, W.p_cl, W.p_cells, pg_c _ _ _, ?_⟩
  refine w_lcTn (SqT.of ht) fun D hD => ⟨fun i H2 => Same H H2 ∧ H2 D = some (.lst (((cs.take i).map fun c => (4 : Int) + c.1.length + c.2.length).map V.int)), ⟨same_new hD _, upd_same⟩, fun i H2 _ ⟨s2, _⟩ => SqT.of (s2 _ _ ht), ?_, ?_⟩
  · rintro i v H2 hi ⟨s2, eD⟩
    obtain ⟨z, hz, rfl⟩ := map_get hi
    obtain ⟨c, hc2, cz⟩ := paired_get hc hz
    have hlt : i < cs.length := (List.getElem?_eq_some_iff.mp hc2).1
    obtain ⟨ka, va, g1, g2, g3⟩ := cz.sm s2
    refine w_gtupS g1 rfl ?_
    walk_at "g"
    refine ⟨rfl, ?_⟩
    walk_at "g"
    refine ⟨ka, _, rfl, .inr g2, ?_⟩
    rw [List.length_map]
    walk_at "g"
    refine ⟨va, _, rfl, .inr g3, ?_⟩
    rw [List.length_map]
    walk_at "g"
    refine ⟨_, eD, by simp only [List.length_map, List.length_take]; exact Nat.lt_of_lt_of_le (by omega : min i cs.length < 70000) (by decide), same_upd s2 hD, ?_⟩
    rw [upd_same, List.take_add_one, hc2]
    simp
  · rintro H2 ⟨s2, eD⟩
    have hlen : zs.length = cs.length := hc.length
    rw [List.length_map, hlen, List.take_length] at eD
    walk_at "g"
    refine ⟨D, _, rfl, .inl (SqL.of eD), ?_⟩
    rw [size_sum]
    walk_at "g"
    have e : (7 : Int) + 4 + (((cs.map fun c => 4 + c.1.length + c.2.length).sum : Nat) : Int) = (sizeL cs : Int) := by
      unfold sizeL
      omega
    rw [e]
    exact q H2 s2
end
end K11
end

section
-- part K11D
set_option Elab.async false
set_option linter.all false
set_option maxRecDepth 100000
set_option maxHeartbeats 800000
open PySem PySem.Spec PyProof.Rows L2 Fw
local macro_rules | `(tactic| walk_at "e1") => `(tactic| first
  | ((with_reducible refine' w_var ?hv ?_); (case hv => rfl))
  | with_reducible refine w_c ?_
  | with_reducible refine w_op ?_
  | with_reducible refine w_un ?_
  | with_reducible refine w_cons ?_
  | with_reducible refine w_nil ?_
  | with_reducible refine w_cl ?_
  | with_reducible refine w_cb ?_
  | with_reducible refine w_gname ?_
  | with_reducible refine w_gsub ?_
  | with_reducible refine w_test ?_
  | with_reducible refine w_B ?_
  | with_reducible refine w_bl ?_
  | with_reducible refine w_and ?_
  | with_reducible refine w_or ?_
  | with_reducible refine w_not ?_
  | with_reducible refine w_if ?_
  | with_reducible refine w_I0 ?_
  | with_reducible refine Gk.w_rU ?_
  | with_reducible refine L2.w_neOs ?_
  | with_reducible refine w_ipI ?_
  | with_reducible refine w_eqS ?_
  | with_reducible refine w_neS ?_
  | with_reducible refine w_eqI ?_
  | with_reducible refine w_neI ?_
  | with_reducible refine w_eqB ?_
  | with_reducible refine w_neB ?_
  | ((with_reducible refine w_eq ?hs ?_); (case hs => rfl))
  | ((with_reducible refine w_ne ?hs ?_); (case hs => rfl))
  | with_reducible refine w_fld ?_
  | with_reducible refine w_bm ?_
  | with_reducible refine w_bm0 ?_
  | with_reducible refine w_sl ?_
  | with_reducible refine w_part ?_
  | with_reducible refine w_partI ?_
  | with_reducible refine w_nopart ?_
  | ((with_reducible refine' w_ixL ?hh ?ha ?_); (case hh => first | assumption | exact upd_same); (case ha => rfl))
  | ((with_reducible refine' w_setLu ?ha ?_); (case ha => rfl))
  | ((with_reducible refine' w_setL ?hh ?ha ?_); (case hh => first | assumption | exact upd_same); (case ha => rfl))
  | with_reducible refine w_iteT ?_
  | with_reducible refine w_iteF ?_
  | with_reducible refine w_lst ?_
  | with_reducible refine w_tup ?_
  | ((with_reducible refine w_new ?hz ?_); (case hz => rfl))
  | with_reducible refine w_lc ?_
  | with_reducible refine w_iL ?_
  | with_reducible refine w_iT ?_
  | with_reducible refine w_iR1 ?_
  | with_reducible refine w_iR2 ?_
  | with_reducible refine w_yes ?_
  | with_reducible refine w_iStr ?_
  | with_reducible exact tyS
  | with_reducible refine And.intro tyS ?_
  | ((with_reducible refine w_find3 ?_); (first | rw [find3_one] | rw [starts3] | skip))
  | ((with_reducible refine w_2s ?_); (try rw [find_one]))
  | ((with_reducible refine w_inS ?_); rw [S_list])
  | ((with_reducible refine w_lenS ?hz ?_); (case hz => first | assumption | omega | decide); rw [SX.S_len])
  | ((with_reducible refine w_addS ?hz ?_); (case hz => first | assumption | omega | decide); rw [vS_cat])
  | with_reducible refine w_mk ?_
  | with_reducible refine w_me ?_
  | with_reducible refine w_sfld ?_
  | ((with_reducible refine' w_gtup ?hh ?hn ?_); (case hh => first | assumption | exact upd_same); (case hn => rfl))
  | with_reducible refine w_gcons ?_
  | with_reducible refine w_gnil ?_
  | with_reducible refine w_repl ?_
  | with_reducible refine w_star ?_
  | with_reducible refine w_revL ?_
  | with_reducible refine w_isiS ?_
  | with_reducible refine w_isiI ?_
  | with_reducible refine w_isiN ?_
  | with_reducible refine w_chain ?_
  | with_reducible refine w_iEnumT ?_
  | with_reducible refine w_iZip3 ?_
  | with_reducible refine w_iZip ?_
  | with_reducible refine w_lenR3 ?_
  | with_reducible refine w_x1i ?_
  | with_reducible refine w_x1b ?_
  | with_reducible refine w_x1s ?_
  | with_reducible refine w_int1i ?_
  | with_reducible refine w_int1b ?_
  | ((with_reducible refine w_mod ?hc ?_); (case hc => omega))
  | ((with_reducible refine w_fdivW ?hc ?hd ?_); (case hc => omega); (case hd => omega))
  | ((with_reducible refine w_mul ?hc ?_); (case hc => first | exact Or.inr ⟨by decide, by decide⟩ | exact Or.inl ⟨by decide, by decide⟩))
  | ((with_reducible refine w_pow ?hc ?_); (case hc => exact ⟨by decide, by decide, by decide⟩)))
local macro_rules | `(tactic| walk_at "s1") => `(tactic| first
  | with_reducible refine w_seq ?_
  | with_reducible refine w_asg ?_
  | with_reducible refine w_ret ?_
  | with_reducible refine w_par ?_
  | with_reducible refine w_drop ?_
  | with_reducible refine w_next ?_
  | with_reducible refine w_ifs ?_
  | ((with_reducible refine' w_aug ?hv ?_); (case hv => rfl))
  | with_reducible refine w_for ?_
  | walk_at "e1")
local macro_rules | `(tactic| walk_at "e") => `(tactic| repeat walk_at "e1")
local macro_rules | `(tactic| walk_at "g") => `(tactic| repeat walk_at "s1")

namespace K11
open Dc Gk M5 M10 M8
theorem cellsB_take {cs : List Cel} {i : Nat} {c : Cel} (h : cs[i]? = some c) : cellsB (cs.take (i + 1)) = cellsB (cs.take i) ++ cellB c := by
  rw [List.take_add_one, h]
  simp [cellsB]
theorem cellsB_le (cs : List Cel) (i : Nat) : (cellsB (cs.take i)).length ≤ (cellsB cs).length := by
  have e : cellsB cs = cellsB (cs.take i) ++ cellsB (cs.drop i) := by
    unfold cellsB
    rw [← List.flatMap_append, List.take_append_drop]
  rw [e, List.length_append]
  omega
section
variable {P : Program} {w : World} {K : PySem.W.Frag} {mg : Str → Option Value} {base : Heap} {cPF cPg : Addr}
def spBytes (K : PySem.W.Frag) (C cPF : Addr) : Sp := fun vs H Q E => ∃ (x : Addr) (k l : Int) (cs : List Cel) (n : Nat), vs = [.ref x, .int (n : Int)] ∧ PgO K C H x k l cs ∧ cs.length ≤ 70000 ∧ n ≤ 1000 ∧
  (sizeL cs ≤ n → GivesT H Q (pageB k l cs n)) ∧ (n < sizeL cs → Fails H E cPF)
theorem ok_page_bytes (W : Wx K mg cPF cPg) (c_fixed : Cl P w K mg base 1 "fixed" spFixed) (c_checksum : Cl P w K mg base 2 "checksum" (spCk2 K)) (c_Page_size : Me P w K mg base 1 cPg "size" (spSize K cPg)) :
    Cl P w K mg base 3 "page_bytes" (spBytes K cPg cPF) := by
  refine cl_mk W.d_page_bytes sc_page_bytes (fun _ _ _ _ _ _ us hl => match us, hl with | [_, _], _ => rfl) (fun vs H Q E h => ?_) (fun f cdv A outer s H vs Q E hr h => ?_)
  · obtain ⟨x, k, l, cs, n, rfl, _⟩ := h; rfl
  obtain ⟨x, k, l, cs, n, rfl, pg, hcl, hn, q, qE⟩ := h
  obtain ⟨dx, t, zs, hx, ht, hc⟩ := id pg
  refine ⟨_, (pss_cons (ps_if (pt_cmpR op_gt (pe_me0 c_Page_size hr (by decide) passL (pv 0)) (pv 1) (nomark _))
    (pss_one (ps_raise rfl (takes_of rfl rfl rfl rfl) (pmk_own PySem.F.excBase_ValueError W.e_PageFault.ox W.e_PageFault.og W.e_PageFault.ok (raises_own W.e_PageFault.ob W.e_PageFault.ot) rfl)))
    pss_nil)
    (pss_cons (ps_set (i := 2) sc_page_bytes.nd rfl (Or.inl rfl) (pe_lst (pa_cons (pe_fld (pv 0) rfl) (StX.pa_star (pe_cl c_fixed hr (by decide) rfl passL (pa_cons (pe_fld (pv 0) rfl) (pa_cons (C8.pe_gc rfl W.c_LINK_BYTES) pa_nil))) (StX.pa_star (pe_cl c_fixed hr (by decide) rfl passL (pa_cons (pe_callB call_len_seq rfl W.n_len PySem.boot_len (pa_cons (pe_fld (pv 0) rfl) pa_nil)) (pa_cons (C8.pe_gc rfl W.c_COUNT_BYTES) pa_nil))) pa_nil)))))
    (pss_cons (ps_for (passes_of rfl) rfl (pi_tup (pe_fld (pv 0) rfl)) (pg_tup rfl (pgs_cons (pg_name (i := 3) sc_page_bytes.nd rfl (Or.inl rfl)) (pgs_cons (pg_name (i := 4) sc_page_bytes.nd rfl (Or.inl rfl)) pgs_nil)))
    (pss_cons (ps_expr (pe_bm PySem.F.plainAttrs_list PySem.F.slot_list_extend PySem.F.type_list_extend mt_extT (pv 2) (pa_cons (pe_cl c_fixed hr (by decide) rfl passL (pa_cons (pe_callB call_len_seq rfl W.n_len PySem.boot_len (pa_cons (pv 3) pa_nil)) (pa_cons (C8.pe_gc rfl W.c_LENGTH_BYTES) pa_nil))) pa_nil)))
    (pss_cons (ps_expr (pe_bm PySem.F.plainAttrs_list PySem.F.slot_list_extend PySem.F.type_list_extend mt_extT (pv 2) (pa_cons (pe_cl c_fixed hr (by decide) rfl passL (pa_cons (pe_callB call_len_seq rfl W.n_len PySem.boot_len (pa_cons (pv 4) pa_nil)) (pa_cons (C8.pe_gc rfl W.c_LENGTH_BYTES) pa_nil))) pa_nil)))
    (pss_cons (ps_expr (pe_bm PySem.F.plainAttrs_list PySem.F.slot_list_extend PySem.F.type_list_extend mt_extT (pv 2) (pa_cons (pv 3) pa_nil)))
    (pss_one (ps_expr (pe_bm PySem.F.plainAttrs_list PySem.F.slot_list_extend PySem.F.type_list_extend mt_extT (pv 2) (pa_cons (pv 4) pa_nil))))))))
    (pss_cons (ps_expr (pe_bm PySem.F.plainAttrs_list PySem.F.slot_list_extend PySem.F.type_list_extend mt_extend (pv 2) (pa_cons (pe_op op_rep (pe_lst (pa_cons pe_int pa_nil)) (pe_op op_sub (pv 1) (pe_me0 c_Page_size hr (by decide) passL (pv 0)))) pa_nil)))
    (pss_one (ps_ret (pe_tup (StX.pa_star (pv 2) (StX.pa_star (pe_cl c_checksum hr (by decide) rfl passL (pa_cons (pv 2) pa_nil)) pa_nil))))))))), ?_⟩
  walk_at "g"
  refine ⟨x, dx, _, rfl, hx, pg_m _ _ _ (by decide +kernel) (by decide +kernel) (by decide +kernel), ?_⟩
  walk_at "g"
  refine ⟨x, k, l, cs, rfl, pg, hcl, fun H1 s1 => ?_⟩
  walk_at "g"
  refine w_iteD (fun c1 => ?_) (fun c1 => ?_)
  · have hlt : n < sizeL cs := by
      have c2 : (n : Int) < (sizeL cs : Int) := c1
      omega
    walk_at "g"
    exact qE hlt H1 s1
  have hsz : sizeL cs ≤ n := by
    have c2 : ¬ (n : Int) < (sizeL cs : Int) := c1
    omega
  have hcb := cellsB_len cs
  have hcn : cs.length ≤ n := by
    have : ∀ cs : List Cel, cs.length ≤ (cellsB cs).length := fun cs => by
      induction cs with
      | nil => exact Nat.le_refl _
      | cons c r ih =>
        have e : cellsB (c :: r) = cellB c ++ cellsB r := List.flatMap_cons
        rw [e, List.length_append, cellB_len, List.length_cons]
        omega
    have := this cs
    omega
  replace q := q hsz
  walk_at "g"
  refine ⟨x, cPg, dx, _, _, rfl, s1 _ _ hx, W.p_cl, W.p_kind, pg_k _ _ _, ?_⟩
  walk_at "g"
  refine ⟨x, cPg, dx, _, _, rfl, s1 _ _ hx, W.p_cl, W.p_link, pg_l _ _ _, ?_⟩
  walk_at "g"
  refine ⟨l, 4, rfl, by decide, fun p1 H2 s2 n1 e1 => ?_⟩
  replace s2 := s1.trans s2
  walk_at "g"
  refine ⟨p1, _, rfl, .inl (SqT.of e1), ?_⟩
  walk_at "g"
  refine ⟨x, cPg, dx, _, _, rfl, s2 _ _ hx, W.p_cl, W.p_cells, pg_c _ _ _, ?_⟩
  walk_at "g"
  refine ⟨t, _, rfl, .inr (SqT.of (s2 _ _ ht)), ?_⟩
  have hlen : zs.length = cs.length := hc.length
  rw [List.length_map, hlen]
  walk_at "g"
  refine ⟨(cs.length : Int), 2, rfl, by decide, fun p2 H3 s3 n2 e2 => ?_⟩
  replace s3 := s2.trans s3
  walk_at "g"
  refine ⟨p2, _, rfl, .inl (SqT.of e2), ?_⟩
  walk_at "g"
  intro L hL
  have er : V.int k :: ((fixedL l 4).map V.int ++ ((fixedL (cs.length : Int) 2).map V.int ++ [])) = (headB k l cs).map V.int := by simp [headB]
  rw [er]
  have s4 := s3.trans (same_new hL (.lst ((headB k l cs).map V.int)))
  have hL0 : H L = none := s3.free hL
  have eL : upd H3 L (.lst ((headB k l cs).map V.int)) L = some (.lst ((headB k l cs).map V.int)) := upd_same
  generalize upd H3 L (.lst ((headB k l cs).map V.int)) = H4 at s4 eL
  clear s1 s2 s3 e1 e2 hL n1 n2
  walk_at "g"
  refine ⟨x, cPg, dx, _, _, rfl, s4 _ _ hx, W.p_cl, W.p_cells, pg_c _ _ _, ?_⟩
  refine w_forT (SqT.of (s4 _ _ ht)) (fun i σ H' => ∃ v3 v4 : Option V, σ = [some (.ref x), some (.int (n : Int)), some (.ref L), v3, v4] ∧ Same H H' ∧ H' L = some (.lst ((headB k l cs ++ cellsB (cs.take i)).map V.int)))
    ⟨none, none, rfl, s4, by rw [List.take_zero]; simpa [cellsB] using eL⟩ (fun i σ H' _ ⟨_, _, _, s5, _⟩ => SqT.of (s5 _ _ ht)) ?_ ?_
  · rintro i v σ H5 hi ⟨v3, v4, rfl, s5, eL5⟩
    obtain ⟨z, hz, rfl⟩ := map_get hi
    obtain ⟨c, hc2, cz⟩ := paired_get hc hz
    obtain ⟨ka, va, g1, g2, g3⟩ := id cz
    have hle := cellsB_le cs (i + 1)
    rw [cellsB_take hc2, List.length_append, cellB_len] at hle
    have hh := head_len k l cs
    refine w_gtupS (sqT_same g1 s5) rfl ?_
    walk_at "g"
    refine ⟨tyL eL5, ?_⟩
    walk_at "g"
    refine ⟨ka, _, rfl, .inr (sqT_same g2 s5), ?_⟩
    rw [List.length_map]
    walk_at "g"
    refine ⟨(c.1.length : Int), 2, rfl, by decide, fun p1 H6 s6 n6 e6 => ?_⟩
    have eL6 := s6 _ _ eL5
    replace s6 := s5.trans s6
    walk_at "g"
    refine w_extT eL6 (SqT.of e6) (Nat.le_trans (by simp only [List.length_append, List.length_map, fixed_len]; omega : _ ≤ 2000) (by decide)) ?_
    rw [← List.map_append]
    have eL7 : upd H6 L (.lst ((headB k l cs ++ cellsB (cs.take i) ++ fixedL (c.1.length : Int) 2).map V.int)) L = some (.lst ((headB k l cs ++ cellsB (cs.take i) ++ fixedL (c.1.length : Int) 2).map V.int)) := upd_same
    have s7 : Same H (upd H6 L (.lst ((headB k l cs ++ cellsB (cs.take i) ++ fixedL (c.1.length : Int) 2).map V.int))) := same_upd s6 hL0
    generalize upd H6 L (.lst ((headB k l cs ++ cellsB (cs.take i) ++ fixedL (c.1.length : Int) 2).map V.int)) = H7 at eL7 s7
    clear s6 eL6 e6 n6 eL5 s5
    walk_at "g"
    refine ⟨tyL eL7, ?_⟩
    walk_at "g"
    refine ⟨va, _, rfl, .inr (sqT_same g3 s7), ?_⟩
    rw [List.length_map]
    walk_at "g"
    refine ⟨(c.2.length : Int), 2, rfl, by decide, fun p1 H8 s8 n8 e8 => ?_⟩
    have eL8 := s8 _ _ eL7
    replace s8 := s7.trans s8
    walk_at "g"
    refine w_extT eL8 (SqT.of e8) (Nat.le_trans (by simp only [List.length_append, List.length_map, fixed_len]; omega : _ ≤ 2000) (by decide)) ?_
    rw [← List.map_append]
    have eL9 : upd H8 L (.lst ((headB k l cs ++ cellsB (cs.take i) ++ fixedL (c.1.length : Int) 2 ++ fixedL (c.2.length : Int) 2).map V.int)) L = some (.lst ((headB k l cs ++ cellsB (cs.take i) ++ fixedL (c.1.length : Int) 2 ++ fixedL (c.2.length : Int) 2).map V.int)) := upd_same
    have s9 : Same H (upd H8 L (.lst ((headB k l cs ++ cellsB (cs.take i) ++ fixedL (c.1.length : Int) 2 ++ fixedL (c.2.length : Int) 2).map V.int))) := same_upd s8 hL0
    generalize upd H8 L (.lst ((headB k l cs ++ cellsB (cs.take i) ++ fixedL (c.1.length : Int) 2 ++ fixedL (c.2.length : Int) 2).map V.int)) = H9 at eL9 s9
    clear s8 eL8 e8 n8 eL7 s7
    walk_at "g"
    refine ⟨tyL eL9, ?_⟩
    walk_at "g"
    refine w_extT eL9 (sqT_same g2 s9) (Nat.le_trans (by simp only [List.length_append, List.length_map, fixed_len]; omega : _ ≤ 2000) (by decide)) ?_
    walk_at "g"
    refine ⟨tyL upd_same, ?_⟩
    walk_at "g"
    refine w_extT upd_same (sqT_same g3 (same_upd s9 hL0)) (Nat.le_trans (by simp only [List.length_append, List.length_map, fixed_len]; omega : _ ≤ 2000) (by decide)) ?_
    walk_at "g"
    refine ⟨_, _, rfl, same_upd (same_upd s9 hL0) hL0, ?_⟩
    rw [upd_same, cellsB_take hc2]
    simp [cellB]
  · rintro σ H5 ⟨v3, v4, rfl, s5, eL5⟩
    rw [List.length_map, hlen, List.take_length] at eL5
    have hh := head_len k l cs
    walk_at "g"
    refine ⟨tyL eL5, ?_⟩
    walk_at "g"
    intro Z hZ
    have s6 := same_new hZ (.lst [.int 0])
    have e6 : upd H5 Z (.lst [.int 0]) Z = some (.lst [.int 0]) := upd_same
    generalize upd H5 Z (.lst [.int 0]) = H6 at s6 e6
    have eL6 := s6 _ _ eL5
    replace s6 := s5.trans s6
    walk_at "g"
    refine ⟨x, dx, _, rfl, s6 _ _ hx, pg_m _ _ _ (by decide +kernel) (by decide +kernel) (by decide +kernel), ?_⟩
    walk_at "g"
    refine ⟨x, k, l, cs, rfl, pg.sm s6, hcl, fun H7 s7 => ?_⟩
    have eL7 := s7 _ _ eL6
    have e7 := s7 _ _ e6
    replace s7 := s6.trans s7
    walk_at "g"
    have en : (n : Int) - (sizeL cs : Int) = ((n - sizeL cs : Nat) : Int) := by omega
    rw [en]
    refine ⟨Z, _, _, rfl, rfl, e7, by omega, by omega, Nat.le_trans (by simp only [List.length_cons, List.length_nil, Int.toNat_natCast]; omega : _ ≤ 1000) (by decide), fun Y hY => ?_⟩
    have ez : (List.replicate (((n - sizeL cs : Nat) : Int)).toNat [V.int 0]).flatten = (List.replicate (n - sizeL cs) (0 : Int)).map V.int := by
      rw [Int.toNat_natCast]
      generalize n - sizeL cs = m
      induction m with
      | zero => rfl
      | succ m ih => rw [List.replicate_succ, List.flatten_cons, ih, List.replicate_succ]; rfl
    rw [ez]
    have s8 := same_new hY (.lst ((List.replicate (n - sizeL cs) (0 : Int)).map V.int))
    have e8 : upd H7 Y (.lst ((List.replicate (n - sizeL cs) (0 : Int)).map V.int)) Y = some (.lst ((List.replicate (n - sizeL cs) (0 : Int)).map V.int)) := upd_same
    generalize upd H7 Y (.lst ((List.replicate (n - sizeL cs) (0 : Int)).map V.int)) = H8 at s8 e8
    have eL8 := s8 _ _ eL7
    replace s8 := s7.trans s8
    walk_at "g"
    refine ⟨L, Y, _, _, rfl, rfl, eL8, e8, Nat.le_trans (by simp only [List.length_append, List.length_map, List.length_replicate]; omega : _ ≤ 2000) (by decide), ?_⟩
    have eb : List.map V.int (headB k l cs ++ cellsB cs) ++ (List.replicate (n - sizeL cs) (0 : Int)).map V.int = (bodyB k l cs n).map V.int := by simp [bodyB]
    rw [eb]
    have s9 : Same H (upd H8 L (.lst ((bodyB k l cs n).map V.int))) := same_upd s8 hL0
    have e9 : upd H8 L (.lst ((bodyB k l cs n).map V.int)) L = some (.lst ((bodyB k l cs n).map V.int)) := upd_same
    generalize upd H8 L (.lst ((bodyB k l cs n).map V.int)) = H9 at s9 e9
    have hbl := body_len (k := k) (l := l) hsz
    walk_at "g"
    refine ⟨L, _, rfl, .inr (SqL.of e9), ?_⟩
    walk_at "g"
    refine ⟨L, _, rfl, .inl (SqL.of e9), fun p1 H10 s10 n10 e10 => ?_⟩
    replace s10 := s9.trans s10
    walk_at "g"
    refine ⟨p1, _, rfl, .inl (SqT.of e10), ?_⟩
    walk_at "g"
    refine ⟨Nat.le_trans (by simp only [List.length_append, List.length_map, List.length_nil, sum4_len]; omega : _ ≤ 2000) (by decide), fun p hp => ?_⟩
    refine q p _ (s10.trans (same_new hp _)) (s10.free hp) ?_
    rw [upd_same, pageB]
    simp
def spCell (K : PySem.W.Frag) (cPF : Addr) : Sp := fun vs H Q E => ∃ (a : Addr) (d : List Int) (p e : Nat), vs = [.ref a, .int (p : Int), .int (e : Int)] ∧ SqT K H a (d.map V.int) ∧ Byt d ∧ match cellO d p e with
  | none => Fails H E cPF
  | some (c, p') => ∀ (q z : Addr) (H' : Hp), Same H H' → H' q = some (.tup [.ref z, .int (p' : Int)]) → CelO K H' z c → Q (.ref q) H'
theorem from_nat {d : List Int} (h : Byt d) : fromL d = ((fromL d).toNat : Int) := by
  have := (from_bound d h).1
  omega
theorem byt_mid {d : List Int} (h : Byt d) (i j : Nat) : Byt ((d.drop i).take j) := fun b hb => h b (List.mem_of_mem_drop (List.mem_of_mem_take hb))
theorem ok_cell_from (W : Wx K mg cPF cPg) (c_number_from : Cl P w K mg base 1 "number_from" (spNumF K)) : Cl P w K mg base 2 "cell_from" (spCell K cPF) := by
  refine cl_mk W.d_cell_from sc_cell_from (fun _ _ _ _ _ _ us hl => match us, hl with | [_, _, _], _ => rfl) (fun vs H Q E h => ?_) (fun f cdv A outer s H vs Q E hr h => ?_)
  · obtain ⟨a, d, p, e, rfl, _⟩ := h; rfl
  obtain ⟨a, d, p, e, rfl, hS, hb, q⟩ := h
  unfold cellO at q
  refine ⟨_, (pss_cons (ps_if (pt_cmpR op_gt (pe_op op_add (pv 1) (C8.pe_gc rfl W.c_CELL)) (pv 2) (nomark _))
    (pss_one (ps_raise rfl (takes_of rfl rfl rfl rfl) (pmk_own PySem.F.excBase_ValueError W.e_PageFault.ox W.e_PageFault.og W.e_PageFault.ok (raises_own W.e_PageFault.ob W.e_PageFault.ot) rfl)))
    pss_nil)
    (pss_cons (ps_set (i := 3) sc_cell_from.nd rfl (Or.inl rfl) (pe_cl c_number_from hr (by decide) rfl passL (pa_cons (pe_slice sl_tupA (pv 0) (po_some (pv 1)) (po_some (pe_op op_add (pv 1) (C8.pe_gc rfl W.c_LENGTH_BYTES)))) pa_nil)))
    (pss_cons (ps_set (i := 4) sc_cell_from.nd rfl (Or.inl rfl) (pe_cl c_number_from hr (by decide) rfl passL (pa_cons (pe_slice sl_tupA (pv 0) (po_some (pe_op op_add (pv 1) (C8.pe_gc rfl W.c_LENGTH_BYTES))) (po_some (pe_op op_add (pv 1) (C8.pe_gc rfl W.c_CELL)))) pa_nil)))
    (pss_cons (ps_aug (i := 1) sc_cell_from.nd rfl (Or.inl rfl) (C8.pe_gc rfl W.c_CELL) ip_add)
    (pss_cons (ps_if (pt_cmpR op_gt (pe_op op_add (pe_op op_add (pv 1) (pv 3)) (pv 4)) (pv 2) (nomark _))
    (pss_one (ps_raise rfl (takes_of rfl rfl rfl rfl) (pmk_own PySem.F.excBase_ValueError W.e_PageFault.ox W.e_PageFault.og W.e_PageFault.ok (raises_own W.e_PageFault.ob W.e_PageFault.ot) rfl)))
    pss_nil)
    (pss_cons (ps_set (i := 5) sc_cell_from.nd rfl (Or.inl rfl) (pe_slice sl_tupA (pv 0) (po_some (pv 1)) (po_some (pe_op op_add (pv 1) (pv 3)))))
    (pss_one (ps_ret (pe_tup (pa_cons (pe_tup (pa_cons (pv 5) (pa_cons (pe_slice sl_tupA (pv 0) (po_some (pe_op op_add (pv 1) (pv 3))) (po_some (pe_op op_add (pe_op op_add (pv 1) (pv 3)) (pv 4)))) pa_nil))) (pa_cons (pe_op op_add (pe_op op_add (pv 1) (pv 3)) (pv 4)) pa_nil))))))))))), ?_⟩
  walk_at "g"
  refine w_iteD (fun c1 => ?_) (fun c1 => ?_)
  · have c2 : (e : Int) < (p : Int) + 4 := c1
    rw [if_pos (by omega)] at q
    walk_at "g"
    exact q H (Same.refl H)
  have c2 : ¬ (e : Int) < (p : Int) + 4 := c1
  rw [if_neg (by omega)] at q
  walk_at "g"
  refine w_slZ (i := p) (j := p + 2) hS rfl (by omega) fun p1 H1 s1 e1 => ?_
  rw [show p + 2 - p = 2 by omega] at e1
  walk_at "g"
  refine ⟨p1, _, rfl, e1, ?_⟩
  rw [from_nat (byt_mid hb p 2)]
  generalize (fromL ((d.drop p).take 2)).toNat = fa at q
  walk_at "g"
  refine w_slZ (i := p + 2) (j := p + 4) (sqT_same hS s1) (by omega) (by omega) fun p2 H2 s2 e2 => ?_
  replace s2 := s1.trans s2
  rw [show p + 4 - (p + 2) = 2 by omega] at e2
  walk_at "g"
  refine ⟨p2, _, rfl, e2, ?_⟩
  rw [from_nat (byt_mid hb (p + 2) 2)]
  generalize (fromL ((d.drop (p + 2)).take 2)).toNat = fb at q
  walk_at "g"
  refine w_iteD (fun c3 => ?_) (fun c3 => ?_)
  · have c4 : (e : Int) < (p : Int) + 4 + (fa : Int) + (fb : Int) := c3
    rw [if_pos (by omega)] at q
    walk_at "g"
    exact q H2 s2
  have c4 : ¬ (e : Int) < (p : Int) + 4 + (fa : Int) + (fb : Int) := c3
  rw [if_neg (by omega)] at q
  walk_at "g"
  refine w_slZ (i := p + 4) (j := p + 4 + fa) (sqT_same hS s2) (by omega) (by omega) fun p3 H3 s3 e3 => ?_
  replace s3 := s2.trans s3
  rw [show p + 4 + fa - (p + 4) = fa by omega] at e3
  walk_at "g"
  refine w_slZ (i := p + 4 + fa) (j := p + 4 + fa + fb) (sqT_same hS s3) (by omega) (by omega) fun p4 H4 s4 e4 => ?_
  replace e3 := sqT_same e3 s4
  replace s4 := s3.trans s4
  rw [show p + 4 + fa + fb - (p + 4 + fa) = fb by omega] at e4
  walk_at "g"
  intro z hz
  have s5 := same_new hz (.tup [.ref p3, .ref p4])
  have e5 : upd H4 z (.tup [.ref p3, .ref p4]) z = some (.tup [.ref p3, .ref p4]) := upd_same
  generalize upd H4 z (.tup [.ref p3, .ref p4]) = H5 at s5 e5
  have cz : CelO K H5 z ((d.drop (p + 4)).take fa, (d.drop (p + 4 + fa)).take fb) := ⟨p3, p4, SqT.of e5, sqT_same e3 s5, sqT_same e4 s5⟩
  replace s5 := s4.trans s5
  walk_at "g"
  intro r hr'
  have s6 := same_new hr' (.tup [.ref z, .int ((p : Int) + 4 + (fa : Int) + (fb : Int))])
  refine q r z _ (s5.trans s6) ?_ (cz.sm s6)
  rw [upd_same]
  rfl
end
end K11
end

section
-- part K11E
set_option Elab.async false
set_option linter.all false
set_option maxRecDepth 100000
set_option maxHeartbeats 800000
open PySem PySem.Spec PyProof.Rows L2 Fw
local macro_rules | `(tactic| walk_at "e1") => `(tactic| first
  | ((with_reducible refine' w_var ?hv ?_); (case hv => rfl))
  | with_reducible refine w_c ?_
  | with_reducible refine w_op ?_
  | with_reducible refine w_un ?_
  | with_reducible refine w_cons ?_
  | with_reducible refine w_nil ?_
  | with_reducible refine w_cl ?_
  | with_reducible refine w_cb ?_
  | with_reducible refine w_gname ?_
  | with_reducible refine w_gsub ?_
  | with_reducible refine w_test ?_
  | with_reducible refine w_B ?_
  | with_reducible refine w_bl ?_
  | with_reducible refine w_and ?_
  | with_reducible refine w_or ?_
  | with_reducible refine w_not ?_
  | with_reducible refine w_if ?_
  | with_reducible refine w_I0 ?_
  | with_reducible refine Gk.w_rU ?_
  | with_reducible refine L2.w_neOs ?_
  | with_reducible refine w_ipI ?_
  | with_reducible refine w_eqS ?_
  | with_reducible refine w_neS ?_
  | with_reducible refine w_eqI ?_
  | with_reducible refine w_neI ?_
  | with_reducible refine w_eqB ?_
  | with_reducible refine w_neB ?_
  | ((with_reducible refine w_eq ?hs ?_); (case hs => rfl))
  | ((with_reducible refine w_ne ?hs ?_); (case hs => rfl))
  | with_reducible refine w_fld ?_
  | with_reducible refine w_bm ?_
  | with_reducible refine w_bm0 ?_
  | with_reducible refine w_sl ?_
  | with_reducible refine w_part ?_
  | with_reducible refine w_partI ?_
  | with_reducible refine w_nopart ?_
  | ((with_reducible refine' w_ixL ?hh ?ha ?_); (case hh => first | assumption | exact upd_same); (case ha => rfl))
  | ((with_reducible refine' w_setLu ?ha ?_); (case ha => rfl))
  | ((with_reducible refine' w_setL ?hh ?ha ?_); (case hh => first | assumption | exact upd_same); (case ha => rfl))
  | with_reducible refine w_iteT ?_
  | with_reducible refine w_iteF ?_
  | with_reducible refine w_lst ?_
  | with_reducible refine w_tup ?_
  | ((with_reducible refine w_new ?hz ?_); (case hz => rfl))
  | with_reducible refine w_lc ?_
  | with_reducible refine w_iL ?_
  | with_reducible refine w_iT ?_
  | with_reducible refine w_iR1 ?_
  | with_reducible refine w_iR2 ?_
  | with_reducible refine w_yes ?_
  | with_reducible refine w_iStr ?_
  | with_reducible exact tyS
  | with_reducible refine And.intro tyS ?_
  | ((with_reducible refine w_find3 ?_); (first | rw [find3_one] | rw [starts3] | skip))
  | ((with_reducible refine w_2s ?_); (try rw [find_one]))
  | ((with_reducible refine w_inS ?_); rw [S_list])
  | ((with_reducible refine w_lenS ?hz ?_); (case hz => first | assumption | omega | decide); rw [SX.S_len])
  | ((with_reducible refine w_addS ?hz ?_); (case hz => first | assumption | omega | decide); rw [vS_cat])
  | with_reducible refine w_mk ?_
  | with_reducible refine w_me ?_
  | with_reducible refine w_sfld ?_
  | ((with_reducible refine' w_gtup ?hh ?hn ?_); (case hh => first | assumption | exact upd_same); (case hn => rfl))
  | with_reducible refine w_gcons ?_
  | with_reducible refine w_gnil ?_
  | with_reducible refine w_repl ?_
  | with_reducible refine w_star ?_
  | with_reducible refine w_revL ?_
  | with_reducible refine w_isiS ?_
  | with_reducible refine w_isiI ?_
  | with_reducible refine w_isiN ?_
  | with_reducible refine w_chain ?_
  | with_reducible refine w_iEnumT ?_
  | with_reducible refine w_iZip3 ?_
  | with_reducible refine w_iZip ?_
  | with_reducible refine w_lenR3 ?_
  | with_reducible refine w_x1i ?_
  | with_reducible refine w_x1b ?_
  | with_reducible refine w_x1s ?_
  | with_reducible refine w_int1i ?_
  | with_reducible refine w_int1b ?_
  | ((with_reducible refine w_mod ?hc ?_); (case hc => omega))
  | ((with_reducible refine w_fdivW ?hc ?hd ?_); (case hc => omega); (case hd => omega))
  | ((with_reducible refine w_mul ?hc ?_); (case hc => first | exact Or.inr ⟨by decide, by decide⟩ | exact Or.inl ⟨by decide, by decide⟩))
  | ((with_reducible refine w_pow ?hc ?_); (case hc => exact ⟨by decide, by decide, by decide⟩)))
local macro_rules | `(tactic| walk_at "s1") => `(tactic| first
  | with_reducible refine w_seq ?_
  | with_reducible refine w_asg ?_
  | with_reducible refine w_ret ?_
  | with_reducible refine w_par ?_
  | with_reducible refine w_drop ?_
  | with_reducible refine w_next ?_
  | with_reducible refine w_ifs ?_
  | ((with_reducible refine' w_aug ?hv ?_); (case hv => rfl))
  | with_reducible refine w_for ?_
  | walk_at "e1")
local macro_rules | `(tactic| walk_at "e") => `(tactic| repeat walk_at "e1")
local macro_rules | `(tactic| walk_at "g") => `(tactic| repeat walk_at "s1")

namespace K11
open Dc Gk M5 M10 M8 LamX
abbrev TQ (Pl Pf : Addr) : List (Addr × Str) := [(Pl, (("law" : Str) ++ (".<locals>." : Str)) ++ ("<lambda>" : Str)), (Pf, (("page_from" : Str) ++ (".<locals>." : Str)) ++ ("<genexpr>" : Str))]
theorem tq_f {Pl Pf : Addr} : (Pf, (("page_from" : Str) ++ (".<locals>." : Str)) ++ ("<genexpr>" : Str)) ∈ TQ Pl Pf := List.mem_cons_of_mem _ List.mem_cons_self
theorem tq_l {Pl Pf : Addr} : (Pl, (("law" : Str) ++ (".<locals>." : Str)) ++ ("<lambda>" : Str)) ∈ TQ Pl Pf := List.mem_cons_self
theorem tq_uf {Pl Pf : Addr} (n : Pl ≠ Pf) : ∀ p ∈ TQ Pl Pf, p.1 = Pf → p.2 = (("page_from" : Str) ++ (".<locals>." : Str)) ++ ("<genexpr>" : Str) := fun p hp e => by
  rcases List.mem_cons.mp hp with rfl | hp
  · exact absurd e n
  · rw [List.mem_singleton.mp hp]
theorem tq_ul {Pl Pf : Addr} (n : Pl ≠ Pf) : ∀ p ∈ TQ Pl Pf, p.1 = Pl → p.2 = (("law" : Str) ++ (".<locals>." : Str)) ++ ("<lambda>" : Str) := fun p hp e => by
  rcases List.mem_cons.mp hp with rfl | hp
  · rfl
  · rw [List.mem_singleton.mp hp] at e
    exact absurd e.symm n
section
variable {P : Program} {w : World} {K : PySem.W.Frag} {mg : Str → Option Value} {base : Heap} {cPF cPg : Addr}
def spFrom (K : PySem.W.Frag) (C cPF : Addr) (T : List (Addr × Str)) : Sp := fun vs H Q E => ∃ (a : Addr) (d : List Int), vs = [.ref a] ∧ SqT K H a (d.map V.int) ∧ Byt d ∧ d.length ≤ 2000 ∧ Tabs T H ∧ match pageO d with
  | none => ∀ H', ExtN H H' → Tabs T H' → E (.ref cPF) none H'
  | some (k, l, cs) => ∀ (x : Addr) (H' : Hp), ExtN H H' → Tabs T H' → PgO K C H' x k l cs → Q (.ref x) H'
theorem in1234 (b : Int) : inV (.int b) [.int 1, .int 2, .int 3, .int 4] = decide (b = 1 ∨ b = 2 ∨ b = 3 ∨ b = 4) := by
  rcases Decidable.em (b = 1) with h | h1
  · subst h; rfl
  rcases Decidable.em (b = 2) with h | h2
  · subst h; rfl
  rcases Decidable.em (b = 3) with h | h3
  · subst h; rfl
  rcases Decidable.em (b = 4) with h | h4
  · subst h; rfl
  rw [decide_eq_false (by omega)]
  show ((1 == b) || ((2 == b) || ((3 == b) || ((4 == b) || false)))) = false
  rw [beq_eq_false_iff_ne.mpr (fun z => h1 z.symm), beq_eq_false_iff_ne.mpr (fun z => h2 z.symm), beq_eq_false_iff_ne.mpr (fun z => h3 z.symm), beq_eq_false_iff_ne.mpr (fun z => h4 z.symm)]
  rfl
/-- page_from as the top has it: its code object at c, the table at Pf -/
structure TabF (K : PySem.W.Frag) (mg : Str → Option Value) (base : Heap) (Pf : Addr) : Prop where
  ex : ∃ (f c : Addr) (fd : FuncData), FunD K "page_from" "page_from" (defArgs s_page_from) (defBody s_page_from) (defScope s_page_from) [] [] f fd ∧ mg "page_from" = some (.ref f) ∧ fd.code = .ref c ∧ TabB base mg c Pf
theorem ok_page_from {Pl Pf : Addr} (W : Wx K mg cPF cPg) (TF : TabF K mg base Pf) (nT : Pl ≠ Pf) (c_checksum : Cl P w K mg base 2 "checksum" (spCk2 K)) (c_number_from : Cl P w K mg base 1 "number_from" (spNumF K)) (c_cell_from : Cl P w K mg base 2 "cell_from" (spCell K cPF)) (c_Page : Mc P w K mg base 1 "Page" cPg (spInit K cPg)) :
    Cl P w K mg base 3 "page_from" (spFrom K cPg cPF (TQ Pl Pf)) := by
  obtain ⟨f, c, fd, F, hmg, hc, TB⟩ := TF.ex
  have bb := F.bindsN (ps := ["data"]) (fun _ _ _ _ _ _ us hl => match us, hl with | [_], _ => rfl)
  refine ⟨f, fd, ["data"], ?_, hmg, F.kp, bb⟩
  clear bb hmg
  have hTm := tq_f (Pl := Pl) (Pf := Pf)
  have hTu := tq_uf nT
  obtain ⟨oc, od, dV, kV, doc, pm, an, cdv, ct, osl, rfl, lk, hcd, _, _⟩ := F.ex
  obtain rfl : cdv = .ref c := hc
  refine fn_of lk hcd sc_page_from (fun vs H Q E h => ?_) fun A outer s H vs Q E hr h => ?_
  · obtain ⟨a, d, rfl, _⟩ := h; rfl
  obtain ⟨a, d, rfl, hS, hb, hl, hT, q⟩ := h
  unfold pageO at q
  refine ⟨_, (pss_cons (ps_if (PW.pt (pw_or (pt_cmpR op_lt (pe_callB call_len_seq rfl W.n_len PySem.boot_len (pa_cons (pv 0) pa_nil)) (pe_op op_add (C8.pe_gc rfl W.c_HEAD) (C8.pe_gc rfl W.c_TAIL)) (nomark _)) (pw_or1 (pt_cmpR (op_neD (hu64 hr)) (pe_cl c_checksum hr (by decide) rfl passL (pa_cons (pe_slice sl_tupA (pv 0) po_none (po_some (pe_un un_neg (C8.pe_gc rfl W.c_TAIL)))) pa_nil)) (pe_callTy call_tuple_of rfl W.n_tuple (by decide +kernel) (pa_cons (pe_slice sl_tupA (pv 0) (po_some (pe_un un_neg (C8.pe_gc rfl W.c_TAIL))) po_none) pa_nil)) (nomark _)))))
    (pss_one (ps_raise rfl (takes_of rfl rfl rfl rfl) (pmk_own PySem.F.excBase_ValueError W.e_PageFault.ox W.e_PageFault.og W.e_PageFault.ok (raises_own W.e_PageFault.ob W.e_PageFault.ot) rfl)))
    pss_nil)
    (pss_cons (ps_set (i := 1) sc_page_from.nd rfl (Or.inl rfl) (pe_ix ix_tup (pv 0) pe_int (fun _ _ => rfl)))
    (pss_cons (ps_set (i := 2) sc_page_from.nd rfl (Or.inl rfl) (pe_cl c_number_from hr (by decide) rfl passL (pa_cons (pe_slice sl_tupA (pv 0) (po_some pe_int) (po_some (pe_op op_add pe_int (C8.pe_gc rfl W.c_LINK_BYTES)))) pa_nil)))
    (pss_cons (ps_set (i := 3) sc_page_from.nd rfl (Or.inl rfl) (pe_cl c_number_from hr (by decide) rfl passL (pa_cons (pe_slice sl_tupA (pv 0) (po_some (pe_op op_add pe_int (C8.pe_gc rfl W.c_LINK_BYTES))) (po_some (C8.pe_gc rfl W.c_HEAD))) pa_nil)))
    (pss_cons (ps_set (i := 4) sc_page_from.nd rfl (Or.inl rfl) (pe_op op_sub (pe_callB call_len_seq rfl W.n_len PySem.boot_len (pa_cons (pv 0) pa_nil)) (C8.pe_gc rfl W.c_TAIL)))
    (pss_cons (ps_set (i := 5) sc_page_from.nd rfl (Or.inl rfl) (C8.pe_gc rfl W.c_HEAD))
    (pss_cons (ps_set (i := 6) sc_page_from.nd rfl (Or.inl rfl) (pe_lst pa_nil))
    (pss_cons (ps_while (passes_of rfl) (pt_cmpR op_lt (pe_callB call_len_seq rfl W.n_len PySem.boot_len (pa_cons (pv 6) pa_nil)) (pv 3) (nomark _))
    (pss_cons (ps_asg (pe_cl c_cell_from hr (by decide) rfl passD (pa_cons (pv 0) (pa_cons (pv 5) (pa_cons (pv 4) pa_nil)))) (pg_tup rfl (pgs_cons (pg_name (i := 7) sc_page_from.nd rfl (Or.inl rfl)) (pgs_cons (pg_name (i := 5) sc_page_from.nd rfl (Or.inl rfl)) pgs_nil))))
    (pss_one (ps_expr (pe_bm PySem.F.plainAttrs_list PySem.F.slot_list_append PySem.F.type_list_append mt_append (pv 6) (pa_cons (pv 7) pa_nil))))))
    (pss_cons (ps_if (PW.pt (pw_or (pt_cmpR op_notIn_seq (pv 1) (pe_tup (pa_cons (C8.pe_gc rfl W.c_META) (pa_cons (C8.pe_gc rfl W.c_LEAF) (pa_cons (C8.pe_gc rfl W.c_INNER) (pa_cons (C8.pe_gc rfl W.c_FREE) pa_nil))))) (by with_unfolding_all rfl)) (pw_or1 (pt_val (GnI.pe_anyI  hr rfl W.n_any TB rfl hTm hTu (GnI.genS_by (by kernel_rfl)) (pe_slice sl_tupA (pv 0) (po_some (pv 5)) (po_some (pv 4))) (GnI.eltI_ne rfl rfl) (fun _ => rfl))))))
    (pss_one (ps_raise rfl (takes_of rfl rfl rfl rfl) (pmk_own PySem.F.excBase_ValueError W.e_PageFault.ox W.e_PageFault.og W.e_PageFault.ok (raises_own W.e_PageFault.ob W.e_PageFault.ot) rfl)))
    pss_nil)
    (pss_one (ps_ret (pe_mc c_Page hr (by decide) rfl passL (pa_cons (pv 1) (pa_cons (pv 2) (pa_cons (pv 6) pa_nil))))))))))))))), ?_⟩
  walk_at "g"
  refine ⟨a, _, rfl, .inr hS, ?_⟩
  rw [List.length_map]
  walk_at "g"
  refine w_iteD (fun c1 => ?_) (fun c1 => ?_)
  · have c2 : (d.length : Int) < 7 + 4 := c1
    rw [if_pos (.inl (by omega))] at q
    walk_at "g"
    exact q H (ExtN.refl H) hT
  have c2 : ¬ (d.length : Int) < 7 + 4 := c1
  have h11 : 11 ≤ d.length := by omega
  walk_at "g"
  refine w_slToN (n := 4) rfl (by decide) (by omega) hS fun p1 H1 s1 e1 => ?_
  walk_at "g"
  refine ⟨p1, _, rfl, .inr e1, fun p2 H2 s2 n2 e2 => ?_⟩
  replace s2 := s1.trans s2
  walk_at "g"
  refine w_slFromN (n := 4) rfl (by decide) (by omega) (sqT_same hS s2) fun p3 H3 s3 e3 => ?_
  walk_at "g"
  refine ⟨p3, _, rfl, .inr ⟨e3, ?_⟩⟩
  walk_at "g"
  refine w_neInts (SqT.of (s3 _ _ e2)) e3 ?_
  replace s3 := s2.trans s3
  clear e1 e2 e3 s1 s2 n2
  walk_at "g"
  refine w_iteN (fun c3 => ?_) (fun c3 => ?_)
  · rw [if_pos (.inr c3)] at q
    walk_at "g"
    exact q H3 (ExtN.of s3) (hT.ext s3)
  rw [if_neg (by rintro (z | z); · omega
                 · exact z c3)] at q
  obtain ⟨b0, d0, hd0⟩ : ∃ b r, d = b :: r := List.exists_cons_of_length_pos (by omega)
  have g0 : d.getD 0 0 = b0 := by rw [hd0]; rfl
  rw [g0] at q
  walk_at "g"
  refine w_ixZ (i := 0) (sqT_same hS s3) rfl (show d[0]? = some b0 by rw [hd0]; rfl) ?_
  walk_at "g"
  refine w_slZ (i := 1) (j := 5) (sqT_same hS s3) rfl rfl fun p4 H4 s4 e4 => ?_
  replace s4 := s3.trans s4
  walk_at "g"
  refine ⟨p4, _, rfl, e4, ?_⟩
  walk_at "g"
  refine w_slZ (i := 5) (j := 7) (sqT_same hS s4) rfl rfl fun p5 H5 s5 e5 => ?_
  replace s5 := s4.trans s5
  walk_at "g"
  refine ⟨p5, _, rfl, e5, ?_⟩
  rw [show (7 : Nat) - 5 = 2 from rfl, from_nat (byt_mid hb 5 2)]
  have hmany : (fromL ((d.drop 5).take 2)).toNat < 65536 := by
    have h1 := from_bound _ (byt_mid hb 5 2)
    have h2 : (256 : Int) ^ ((d.drop 5).take 2).length = 65536 := by
      rw [show ((d.drop 5).take 2).length = 2 by simp only [List.length_take, List.length_drop]; omega]
      decide
    omega
  generalize (fromL ((d.drop 5).take 2)).toNat = many at q hmany
  walk_at "g"
  refine ⟨a, _, rfl, .inr (sqT_same hS s5), ?_⟩
  rw [List.length_map]
  walk_at "g"
  intro L hL
  have hL0 := s5.free hL
  have s6 := s5.trans (same_new hL (.lst []))
  have eL : upd H5 L (.lst []) L = some (.lst []) := upd_same
  generalize upd H5 L (.lst []) = H6 at s6 eL
  have ee : (d.length : Int) - 4 = ((d.length - 4 : Nat) : Int) := by omega
  rw [ee]
  generalize hE : d.length - 4 = e at q
  clear s3 s4 s5 e4 e5 hL
  walk_at "g"
  refine w_while (fun m σ H' => ∃ (i pl : Nat) (zs : List Addr) (cs : List Cel) (v7 : Option V), σ = [some (.ref a), some (.int b0), some (.int (fromL ((d.drop 1).take 4))), some (.int (many : Int)), some (.int (e : Int)), some (.int (pl : Int)), some (.ref L), v7] ∧ Same H H' ∧ H' L = some (.lst (zs.map V.ref)) ∧ CelsO K H' zs cs ∧ zs.length = i ∧ m = many - i ∧ i ≤ many ∧
      cellsO d e many 7 = (cellsO d e (many - i) pl).map fun r => (cs ++ r.1, r.2)) many ⟨0, 7, [], [], none, rfl, s6, eL, .nil, rfl, rfl, Nat.zero_le _, ?_⟩ ?_
  · rw [Nat.sub_zero]
    cases cellsO d e many 7 <;> simp
  rintro m σ H7 ⟨i, pl, zs, cs, v7, rfl, s7, eL7, cz, hzi, rfl, him, ef⟩
  have hcl : zs.length = cs.length := cz.length
  walk_at "g"
  refine ⟨L, _, rfl, .inl (SqL.of eL7), ?_⟩
  rw [List.length_map, hzi]
  walk_at "g"
  refine w_iteD (fun c4 => ?_) (fun c4 => ?_)
  · have hlt : i < many := by
      have c5 : (i : Int) < (many : Int) := c4
      omega
    obtain ⟨j, hj⟩ : ∃ j, many - i = j + 1 := ⟨many - i - 1, by omega⟩
    rw [hj, cellsO] at ef
    refine ⟨fun σ' H' => ∃ (pl' : Nat) (zs' : List Addr) (cs' : List Cel) (v7 : Option V), σ' = [some (.ref a), some (.int b0), some (.int (fromL ((d.drop 1).take 4))), some (.int (many : Int)), some (.int (e : Int)), some (.int (pl' : Int)), some (.ref L), v7] ∧ Same H H' ∧ H' L = some (.lst (zs'.map V.ref)) ∧ CelsO K H' zs' cs' ∧ zs'.length = i + 1 ∧
        cellsO d e many 7 = (cellsO d e j pl').map fun r => (cs' ++ r.1, r.2), ?_, ?_⟩
    · rintro σ' H' ⟨pl', zs', cs', v7, g1, g2, g3, g4, g5, g6⟩
      exact ⟨many - (i + 1), by omega, i + 1, pl', zs', cs', v7, g1, g2, g3, g4, g5, rfl, by omega, by rw [show many - (i + 1) = j by omega]; exact g6⟩
    walk_at "g"
    refine ⟨a, d, pl, e, rfl, sqT_same hS s7, hb, ?_⟩
    cases hce : cellO d pl e with
    | none =>
      rw [hce] at ef
      rw [ef] at q
      exact fun H8 s8 => q H8 (ExtN.of (s7.trans s8)) (hT.ext (s7.trans s8))
    | some r =>
      obtain ⟨cc, pl'⟩ := r
      rw [hce] at ef
      intro q8 z H8 s8 e8 c8
      have eL8 := s8 _ _ eL7
      have cz8 := CelsO.sm s8 cz
      replace s8 := s7.trans s8
      refine w_gtup e8 rfl ?_
      walk_at "g"
      refine ⟨tyL eL8, ?_⟩
      walk_at "g"
      refine w_app eL8 (by rw [List.length_map]; exact Nat.lt_of_lt_of_le (by omega : zs.length < 65536) (by decide)) ?_
      walk_at "g"
      refine ⟨pl', zs ++ [z], cs ++ [cc], _, rfl, same_upd s8 hL0, by rw [upd_same, List.map_append]; rfl, Paired.snoc (cz8.tk (Tk.wr eL8)) (c8.tk (Tk.wr eL8)), by rw [List.length_append, hzi]; rfl, ?_⟩
      rw [ef]
      show ((match cellsO d e j pl' with | none => none | some (cs, p'') => some (cc :: cs, p'')) : Option (List Cel × Nat)).map _ = _
      cases cellsO d e j pl' <;> simp
  · obtain rfl : i = many := by
      have c5 : ¬ (i : Int) < (many : Int) := c4
      omega
    rw [Nat.sub_self] at ef
    have ef2 : cellsO d e i 7 = some (cs, pl) := by rw [ef]; simp [cellsO]
    rw [ef2] at q
    clear ef ef2 c4 him
    walk_at "g"
    intro t ht
    have s8 := s7.trans (same_new ht (.tup [.int 1, .int 2, .int 3, .int 4]))
    have eL8 := same_new ht (.tup [.int 1, .int 2, .int 3, .int 4]) _ _ eL7
    have cz8 := CelsO.sm (same_new ht (.tup [.int 1, .int 2, .int 3, .int 4])) cz
    have et : upd H7 t (.tup [.int 1, .int 2, .int 3, .int 4]) t = some (.tup [.int 1, .int 2, .int 3, .int 4]) := upd_same
    generalize upd H7 t (.tup [.int 1, .int 2, .int 3, .int 4]) = H8 at s8 eL8 cz8 et
    refine ⟨t, _, rfl, .inr (SqT.of et), rfl, rfl, ?_⟩
    rw [in1234, if_pos rfl]
    by_cases hk : b0 = 1 ∨ b0 = 2 ∨ b0 = 3 ∨ b0 = 4
    · rw [decide_eq_true hk, Bool.not_true]
      walk_at "g"
      refine GnI.w_anyI ?_
      walk_at "g"
      refine w_slZ (i := pl) (j := e) (sqT_same hS s8) rfl rfl fun p9 H9 s9 e9 => ?_
      have eL9 := s9 _ _ eL8
      have cz9 := CelsO.sm s9 cz8
      replace s9 := s8.trans s9
      refine ⟨p9, _, rfl, e9, hT.ext s9, fun H10 x10 t10 => ?_⟩
      have eL10 := ext_lst x10 eL9
      have cz10 := CelsO.ex x10 cz9
      replace x10 := (ExtN.of s9).trans x10
      cases hz : ((d.drop pl).take (e - pl)).any fun c => c != 0 with
      | true =>
        dsimp only at q
        rw [if_neg (fun h => by rw [hz] at h; exact absurd h.2 (by decide))] at q
        walk_at "g"
        exact q H10 x10 t10
      | false =>
        dsimp only at q
        rw [if_pos ⟨hk, hz⟩] at q
        walk_at "g"
        intro x dx hx hdx ne
        have sn : Same H10 (upd (upd H10 dx (.own x)) x (.ins cPg dx [])) := (same_new hdx _).trans (same_new (by rw [upd_ne ne.symm]; exact hx) _)
        refine ⟨x, dx, L, b0, _, zs, cs, rfl, upd_same, SqL.of (sn _ _ eL10), CelsO.sm sn cz10, by omega, fun t' ys H' kp ex et' cy => ⟨rfl, ?_⟩⟩
        have sm : Same H10 H' := fun b o eb => kp b o (fun z => by rw [z, hx] at eb; cases eb) (sn b o eb)
        exact q x H' (x10.trans (ExtN.of sm)) (t10.ext sm) ⟨dx, t', ys, ex, et', cy⟩
    · rw [decide_eq_false hk, Bool.not_false]
      dsimp only at q
      rw [if_neg (fun h => hk h.1)] at q
      walk_at "g"
      exact q H8 (ExtN.of s8) (hT.ext s8)
end
end K11
end

section
-- part K11F
set_option Elab.async false
set_option linter.all false
set_option maxRecDepth 100000
set_option maxHeartbeats 800000
open PySem PySem.Spec PyProof.Rows L2 Fw
local macro_rules | `(tactic| walk_at "e1") => `(tactic| first
  | ((with_reducible refine' w_var ?hv ?_); (case hv => rfl))
  | with_reducible refine w_c ?_
  | with_reducible refine w_op ?_
  | with_reducible refine w_un ?_
  | with_reducible refine w_cons ?_
  | with_reducible refine w_nil ?_
  | with_reducible refine w_cl ?_
  | with_reducible refine w_cb ?_
  | with_reducible refine w_gname ?_
  | with_reducible refine w_gsub ?_
  | with_reducible refine w_test ?_
  | with_reducible refine w_B ?_
  | with_reducible refine w_bl ?_
  | with_reducible refine w_and ?_
  | with_reducible refine w_or ?_
  | with_reducible refine w_not ?_
  | with_reducible refine w_if ?_
  | with_reducible refine w_I0 ?_
  | with_reducible refine Gk.w_rU ?_
  | with_reducible refine L2.w_neOs ?_
  | with_reducible refine w_ipI ?_
  | with_reducible refine w_eqS ?_
  | with_reducible refine w_neS ?_
  | with_reducible refine w_eqI ?_
  | with_reducible refine w_neI ?_
  | with_reducible refine w_eqB ?_
  | with_reducible refine w_neB ?_
  | ((with_reducible refine w_eq ?hs ?_); (case hs => rfl))
  | ((with_reducible refine w_ne ?hs ?_); (case hs => rfl))
  | with_reducible refine w_fld ?_
  | with_reducible refine w_bm ?_
  | with_reducible refine w_bm0 ?_
  | with_reducible refine w_sl ?_
  | with_reducible refine w_part ?_
  | with_reducible refine w_partI ?_
  | with_reducible refine w_nopart ?_
  | ((with_reducible refine' w_ixL ?hh ?ha ?_); (case hh => first | assumption | exact upd_same); (case ha => rfl))
  | ((with_reducible refine' w_setLu ?ha ?_); (case ha => rfl))
  | ((with_reducible refine' w_setL ?hh ?ha ?_); (case hh => first | assumption | exact upd_same); (case ha => rfl))
  | with_reducible refine w_iteT ?_
  | with_reducible refine w_iteF ?_
  | with_reducible refine w_lst ?_
  | with_reducible refine w_tup ?_
  | ((with_reducible refine w_new ?hz ?_); (case hz => rfl))
  | with_reducible refine w_lc ?_
  | with_reducible refine w_iL ?_
  | with_reducible refine w_iT ?_
  | with_reducible refine w_iR1 ?_
  | with_reducible refine w_iR2 ?_
  | with_reducible refine w_yes ?_
  | with_reducible refine w_iStr ?_
  | with_reducible exact tyS
  | with_reducible refine And.intro tyS ?_
  | ((with_reducible refine w_find3 ?_); (first | rw [find3_one] | rw [starts3] | skip))
  | ((with_reducible refine w_2s ?_); (try rw [find_one]))
  | ((with_reducible refine w_inS ?_); rw [S_list])
  | ((with_reducible refine w_lenS ?hz ?_); (case hz => first | assumption | omega | decide); rw [SX.S_len])
  | ((with_reducible refine w_addS ?hz ?_); (case hz => first | assumption | omega | decide); rw [vS_cat])
  | with_reducible refine w_mk ?_
  | with_reducible refine w_me ?_
  | with_reducible refine w_sfld ?_
  | ((with_reducible refine' w_gtup ?hh ?hn ?_); (case hh => first | assumption | exact upd_same); (case hn => rfl))
  | with_reducible refine w_gcons ?_
  | with_reducible refine w_gnil ?_
  | with_reducible refine w_repl ?_
  | with_reducible refine w_star ?_
  | with_reducible refine w_revL ?_
  | with_reducible refine w_isiS ?_
  | with_reducible refine w_isiI ?_
  | with_reducible refine w_isiN ?_
  | with_reducible refine w_chain ?_
  | with_reducible refine w_iEnumT ?_
  | with_reducible refine w_iZip3 ?_
  | with_reducible refine w_iZip ?_
  | with_reducible refine w_lenR3 ?_
  | with_reducible refine w_x1i ?_
  | with_reducible refine w_x1b ?_
  | with_reducible refine w_x1s ?_
  | with_reducible refine w_int1i ?_
  | with_reducible refine w_int1b ?_
  | ((with_reducible refine w_mod ?hc ?_); (case hc => omega))
  | ((with_reducible refine w_fdivW ?hc ?hd ?_); (case hc => omega); (case hd => omega))
  | ((with_reducible refine w_mul ?hc ?_); (case hc => first | exact Or.inr ⟨by decide, by decide⟩ | exact Or.inl ⟨by decide, by decide⟩))
  | ((with_reducible refine w_pow ?hc ?_); (case hc => exact ⟨by decide, by decide, by decide⟩)))
local macro_rules | `(tactic| walk_at "s1") => `(tactic| first
  | with_reducible refine w_seq ?_
  | with_reducible refine w_asg ?_
  | with_reducible refine w_ret ?_
  | with_reducible refine w_par ?_
  | with_reducible refine w_drop ?_
  | with_reducible refine w_next ?_
  | with_reducible refine w_ifs ?_
  | ((with_reducible refine' w_aug ?hv ?_); (case hv => rfl))
  | with_reducible refine w_for ?_
  | walk_at "e1")
local macro_rules | `(tactic| walk_at "e") => `(tactic| repeat walk_at "e1")
local macro_rules | `(tactic| walk_at "g") => `(tactic| repeat walk_at "s1")

namespace K11
open Dc Gk M11
-- Disk.__init__: 0:self 1:block_size 2:blocks 3:log 4:number
abbrev s_Disk___init__ : Stmt := inClass (top 29) 0
theorem sc_Disk___init__ : FnScope ["self", "block_size", "blocks", "log", "number"] ["self", "block_size", "blocks", "log"] (defScope s_Disk___init__) := ⟨rfl, rfl, rfl, by decide +kernel, rfl, by decide +kernel, by decide +kernel⟩
-- Disk.step: 0:self
abbrev s_Disk_step : Stmt := inClass (top 29) 2
theorem sc_Disk_step : FnScope ["self"] ["self"] (defScope s_Disk_step) := ⟨rfl, rfl, rfl, by decide +kernel, rfl, by decide +kernel, by decide +kernel⟩
-- Disk.read_block: 0:self 1:number
abbrev s_Disk_read_block : Stmt := inClass (top 29) 4
theorem sc_Disk_read_block : FnScope ["self", "number"] ["self", "number"] (defScope s_Disk_read_block) := ⟨rfl, rfl, rfl, by decide +kernel, rfl, by decide +kernel, by decide +kernel⟩
-- Disk.write_block: 0:self 1:number 2:data
abbrev s_Disk_write_block : Stmt := inClass (top 29) 5
theorem sc_Disk_write_block : FnScope ["self", "number", "data"] ["self", "number", "data"] (defScope s_Disk_write_block) := ⟨rfl, rfl, rfl, by decide +kernel, rfl, by decide +kernel, by decide +kernel⟩
-- Disk.sync_blocks: 0:self 1:number 2:data
abbrev s_Disk_sync_blocks : Stmt := inClass (top 29) 6
theorem sc_Disk_sync_blocks : FnScope ["self", "number", "data"] ["self"] (defScope s_Disk_sync_blocks) := ⟨rfl, rfl, rfl, by decide +kernel, rfl, by decide +kernel, by decide +kernel⟩
structure Wd (K : PySem.W.Frag) (mg : Str → Option Value) (cPF cPg cDF cD aE : Addr) : Prop extends Wx K mg cPF cPg where
  n_max : mg "max" = none
  e_DiskFault : Ex K mg "DiskFault" cDF
  k_cl : Cls K cD
  k_block_size : NoAttr K cD "block_size"
  k_blocks : NoAttr K cD "blocks"
  k_log : NoAttr K cD "log"
  k_waiting : NoAttr K cD "waiting"
  k_written : NoAttr K cD "written"
  k_log_tail : NoAttr K cD "log_tail"
  k_fuse : NoAttr K cD "fuse"
  k_dead : NoAttr K cD "dead"
  k_steps : NoAttr K cD "steps"
  k_g : mg "Disk" = some (.ref cD)
  k_i : ∃ (f : Addr) (fd : FuncData), FunD K "__init__" "Disk.__init__" (defArgs s_Disk___init__) (defBody s_Disk___init__) (defScope s_Disk___init__) [.non, .ref aE] [] f fd ∧ Mk K cD f
  k_e : ∀ H : Hp, SqT K H aE []
  k_step : FnM K cD "step" "Disk.step" s_Disk_step
  k_read_block : FnM K cD "read_block" "Disk.read_block" s_Disk_read_block
  k_write_block : FnM K cD "write_block" "Disk.write_block" s_Disk_write_block
  k_sync_blocks : FnM K cD "sync_blocks" "Disk.sync_blocks" s_Disk_sync_blocks
section
variable {v1 v2 v3 v4 v5 v6 v7 v8 v9 y : V} {K K' : PySem.W.Frag} {mg : Str → Option Value} {cPF cPg cDF cD aE : Addr} {H : Hp} {Q : VK} {x dx : Addr} {σ : L2.St} {D : Ends} {i : Nat} {tv : TE} {rd : V → V → Hp → VK → Prop}
theorem l_block_size : (F9 v1 v2 v3 v4 v5 v6 v7 v8 v9).lookup ("block_size" : Str) = some v1 := Dq.look1 (by decide +kernel)
theorem g_block_size (W : Wd K mg cPF cPg cDF cD aE) (hK : K' = K) (hs : σ[i]? = some (some (.ref x))) (hx : H x = some (.ins cD dx (F9 v1 v2 v3 v4 v5 v6 v7 v8 v9))) (q : Q v1 H) : tFld K' (tVar i) ("block_size" : Str) σ H Q := by
  subst hK
  exact ⟨_, hs, x, cD, dx, _, _, rfl, hx, W.k_cl, W.k_block_size, l_block_size, q⟩
theorem put_block_size : putF ("block_size" : Str) y (F9 v1 v2 v3 v4 v5 v6 v7 v8 v9) = F9 y v2 v3 v4 v5 v6 v7 v8 v9 := Dq.putF_eq
theorem i_block_size : putF ("block_size" : Str) y [] = [(("block_size" : Str), y)] := rfl
theorem l_blocks : (F9 v1 v2 v3 v4 v5 v6 v7 v8 v9).lookup ("blocks" : Str) = some v2 := (Dq.look0 (by decide +kernel)).trans (Dq.look1 (by decide +kernel))
theorem g_blocks (W : Wd K mg cPF cPg cDF cD aE) (hK : K' = K) (hs : σ[i]? = some (some (.ref x))) (hx : H x = some (.ins cD dx (F9 v1 v2 v3 v4 v5 v6 v7 v8 v9))) (q : Q v2 H) : tFld K' (tVar i) ("blocks" : Str) σ H Q := by
  subst hK
  exact ⟨_, hs, x, cD, dx, _, _, rfl, hx, W.k_cl, W.k_blocks, l_blocks, q⟩
theorem put_blocks : putF ("blocks" : Str) y (F9 v1 v2 v3 v4 v5 v6 v7 v8 v9) = F9 v1 y v3 v4 v5 v6 v7 v8 v9 := (Dq.putF_ne (by decide +kernel)).trans (Dq.pc1 (Dq.putF_eq))
theorem i_blocks : putF ("blocks" : Str) y [(("block_size" : Str), v1)] = [(("block_size" : Str), v1), (("blocks" : Str), y)] := (Dq.putF_ne (by decide +kernel)).trans (Dq.pc1 (rfl))
theorem l_log : (F9 v1 v2 v3 v4 v5 v6 v7 v8 v9).lookup ("log" : Str) = some v3 := (Dq.look0 (by decide +kernel)).trans ((Dq.look0 (by decide +kernel)).trans (Dq.look1 (by decide +kernel)))
theorem g_log (W : Wd K mg cPF cPg cDF cD aE) (hK : K' = K) (hs : σ[i]? = some (some (.ref x))) (hx : H x = some (.ins cD dx (F9 v1 v2 v3 v4 v5 v6 v7 v8 v9))) (q : Q v3 H) : tFld K' (tVar i) ("log" : Str) σ H Q := by
  subst hK
  exact ⟨_, hs, x, cD, dx, _, _, rfl, hx, W.k_cl, W.k_log, l_log, q⟩
theorem put_log : putF ("log" : Str) y (F9 v1 v2 v3 v4 v5 v6 v7 v8 v9) = F9 v1 v2 y v4 v5 v6 v7 v8 v9 := (Dq.putF_ne (by decide +kernel)).trans (Dq.pc1 ((Dq.putF_ne (by decide +kernel)).trans (Dq.pc1 (Dq.putF_eq))))
theorem i_log : putF ("log" : Str) y [(("block_size" : Str), v1), (("blocks" : Str), v2)] = [(("block_size" : Str), v1), (("blocks" : Str), v2), (("log" : Str), y)] := (Dq.putF_ne (by decide +kernel)).trans (Dq.pc1 ((Dq.putF_ne (by decide +kernel)).trans (Dq.pc1 (rfl))))
theorem l_waiting : (F9 v1 v2 v3 v4 v5 v6 v7 v8 v9).lookup ("waiting" : Str) = some v4 := (Dq.look0 (by decide +kernel)).trans ((Dq.look0 (by decide +kernel)).trans ((Dq.look0 (by decide +kernel)).trans (Dq.look1 (by decide +kernel))))
theorem g_waiting (W : Wd K mg cPF cPg cDF cD aE) (hK : K' = K) (hs : σ[i]? = some (some (.ref x))) (hx : H x = some (.ins cD dx (F9 v1 v2 v3 v4 v5 v6 v7 v8 v9))) (q : Q v4 H) : tFld K' (tVar i) ("waiting" : Str) σ H Q := by
  subst hK
  exact ⟨_, hs, x, cD, dx, _, _, rfl, hx, W.k_cl, W.k_waiting, l_waiting, q⟩
theorem put_waiting : putF ("waiting" : Str) y (F9 v1 v2 v3 v4 v5 v6 v7 v8 v9) = F9 v1 v2 v3 y v5 v6 v7 v8 v9 := (Dq.putF_ne (by decide +kernel)).trans (Dq.pc1 ((Dq.putF_ne (by decide +kernel)).trans (Dq.pc1 ((Dq.putF_ne (by decide +kernel)).trans (Dq.pc1 (Dq.putF_eq))))))
theorem i_waiting : putF ("waiting" : Str) y [(("block_size" : Str), v1), (("blocks" : Str), v2), (("log" : Str), v3)] = [(("block_size" : Str), v1), (("blocks" : Str), v2), (("log" : Str), v3), (("waiting" : Str), y)] := (Dq.putF_ne (by decide +kernel)).trans (Dq.pc1 ((Dq.putF_ne (by decide +kernel)).trans (Dq.pc1 ((Dq.putF_ne (by decide +kernel)).trans (Dq.pc1 (rfl))))))
theorem l_written : (F9 v1 v2 v3 v4 v5 v6 v7 v8 v9).lookup ("written" : Str) = some v5 := (Dq.look0 (by decide +kernel)).trans ((Dq.look0 (by decide +kernel)).trans ((Dq.look0 (by decide +kernel)).trans ((Dq.look0 (by decide +kernel)).trans (Dq.look1 (by decide +kernel)))))
theorem g_written (W : Wd K mg cPF cPg cDF cD aE) (hK : K' = K) (hs : σ[i]? = some (some (.ref x))) (hx : H x = some (.ins cD dx (F9 v1 v2 v3 v4 v5 v6 v7 v8 v9))) (q : Q v5 H) : tFld K' (tVar i) ("written" : Str) σ H Q := by
  subst hK
  exact ⟨_, hs, x, cD, dx, _, _, rfl, hx, W.k_cl, W.k_written, l_written, q⟩
theorem put_written : putF ("written" : Str) y (F9 v1 v2 v3 v4 v5 v6 v7 v8 v9) = F9 v1 v2 v3 v4 y v6 v7 v8 v9 := (Dq.putF_ne (by decide +kernel)).trans (Dq.pc1 ((Dq.putF_ne (by decide +kernel)).trans (Dq.pc1 ((Dq.putF_ne (by decide +kernel)).trans (Dq.pc1 ((Dq.putF_ne (by decide +kernel)).trans (Dq.pc1 (Dq.putF_eq))))))))
theorem i_written : putF ("written" : Str) y [(("block_size" : Str), v1), (("blocks" : Str), v2), (("log" : Str), v3), (("waiting" : Str), v4)] = [(("block_size" : Str), v1), (("blocks" : Str), v2), (("log" : Str), v3), (("waiting" : Str), v4), (("written" : Str), y)] := (Dq.putF_ne (by decide +kernel)).trans (Dq.pc1 ((Dq.putF_ne (by decide +kernel)).trans (Dq.pc1 ((Dq.putF_ne (by decide +kernel)).trans (Dq.pc1 ((Dq.putF_ne (by decide +kernel)).trans (Dq.pc1 (rfl))))))))
theorem l_log_tail : (F9 v1 v2 v3 v4 v5 v6 v7 v8 v9).lookup ("log_tail" : Str) = some v6 := (Dq.look0 (by decide +kernel)).trans ((Dq.look0 (by decide +kernel)).trans ((Dq.look0 (by decide +kernel)).trans ((Dq.look0 (by decide +kernel)).trans ((Dq.look0 (by decide +kernel)).trans (Dq.look1 (by decide +kernel))))))
theorem g_log_tail (W : Wd K mg cPF cPg cDF cD aE) (hK : K' = K) (hs : σ[i]? = some (some (.ref x))) (hx : H x = some (.ins cD dx (F9 v1 v2 v3 v4 v5 v6 v7 v8 v9))) (q : Q v6 H) : tFld K' (tVar i) ("log_tail" : Str) σ H Q := by
  subst hK
  exact ⟨_, hs, x, cD, dx, _, _, rfl, hx, W.k_cl, W.k_log_tail, l_log_tail, q⟩
theorem put_log_tail : putF ("log_tail" : Str) y (F9 v1 v2 v3 v4 v5 v6 v7 v8 v9) = F9 v1 v2 v3 v4 v5 y v7 v8 v9 := (Dq.putF_ne (by decide +kernel)).trans (Dq.pc1 ((Dq.putF_ne (by decide +kernel)).trans (Dq.pc1 ((Dq.putF_ne (by decide +kernel)).trans (Dq.pc1 ((Dq.putF_ne (by decide +kernel)).trans (Dq.pc1 ((Dq.putF_ne (by decide +kernel)).trans (Dq.pc1 (Dq.putF_eq))))))))))
theorem i_log_tail : putF ("log_tail" : Str) y [(("block_size" : Str), v1), (("blocks" : Str), v2), (("log" : Str), v3), (("waiting" : Str), v4), (("written" : Str), v5)] = [(("block_size" : Str), v1), (("blocks" : Str), v2), (("log" : Str), v3), (("waiting" : Str), v4), (("written" : Str), v5), (("log_tail" : Str), y)] := (Dq.putF_ne (by decide +kernel)).trans (Dq.pc1 ((Dq.putF_ne (by decide +kernel)).trans (Dq.pc1 ((Dq.putF_ne (by decide +kernel)).trans (Dq.pc1 ((Dq.putF_ne (by decide +kernel)).trans (Dq.pc1 ((Dq.putF_ne (by decide +kernel)).trans (Dq.pc1 (rfl))))))))))
theorem l_fuse : (F9 v1 v2 v3 v4 v5 v6 v7 v8 v9).lookup ("fuse" : Str) = some v7 := (Dq.look0 (by decide +kernel)).trans ((Dq.look0 (by decide +kernel)).trans ((Dq.look0 (by decide +kernel)).trans ((Dq.look0 (by decide +kernel)).trans ((Dq.look0 (by decide +kernel)).trans ((Dq.look0 (by decide +kernel)).trans (Dq.look1 (by decide +kernel)))))))
theorem g_fuse (W : Wd K mg cPF cPg cDF cD aE) (hK : K' = K) (hs : σ[i]? = some (some (.ref x))) (hx : H x = some (.ins cD dx (F9 v1 v2 v3 v4 v5 v6 v7 v8 v9))) (q : Q v7 H) : tFld K' (tVar i) ("fuse" : Str) σ H Q := by
  subst hK
  exact ⟨_, hs, x, cD, dx, _, _, rfl, hx, W.k_cl, W.k_fuse, l_fuse, q⟩
theorem put_fuse : putF ("fuse" : Str) y (F9 v1 v2 v3 v4 v5 v6 v7 v8 v9) = F9 v1 v2 v3 v4 v5 v6 y v8 v9 := (Dq.putF_ne (by decide +kernel)).trans (Dq.pc1 ((Dq.putF_ne (by decide +kernel)).trans (Dq.pc1 ((Dq.putF_ne (by decide +kernel)).trans (Dq.pc1 ((Dq.putF_ne (by decide +kernel)).trans (Dq.pc1 ((Dq.putF_ne (by decide +kernel)).trans (Dq.pc1 ((Dq.putF_ne (by decide +kernel)).trans (Dq.pc1 (Dq.putF_eq))))))))))))
theorem i_fuse : putF ("fuse" : Str) y [(("block_size" : Str), v1), (("blocks" : Str), v2), (("log" : Str), v3), (("waiting" : Str), v4), (("written" : Str), v5), (("log_tail" : Str), v6)] = [(("block_size" : Str), v1), (("blocks" : Str), v2), (("log" : Str), v3), (("waiting" : Str), v4), (("written" : Str), v5), (("log_tail" : Str), v6), (("fuse" : Str), y)] := (Dq.putF_ne (by decide +kernel)).trans (Dq.pc1 ((Dq.putF_ne (by decide +kernel)).trans (Dq.pc1 ((Dq.putF_ne (by decide +kernel)).trans (Dq.pc1 ((Dq.putF_ne (by decide +kernel)).trans (Dq.pc1 ((Dq.putF_ne (by decide +kernel)).trans (Dq.pc1 ((Dq.putF_ne (by decide +kernel)).trans (Dq.pc1 (rfl))))))))))))
theorem l_dead : (F9 v1 v2 v3 v4 v5 v6 v7 v8 v9).lookup ("dead" : Str) = some v8 := (Dq.look0 (by decide +kernel)).trans ((Dq.look0 (by decide +kernel)).trans ((Dq.look0 (by decide +kernel)).trans ((Dq.look0 (by decide +kernel)).trans ((Dq.look0 (by decide +kernel)).trans ((Dq.look0 (by decide +kernel)).trans ((Dq.look0 (by decide +kernel)).trans (Dq.look1 (by decide +kernel))))))))
theorem g_dead (W : Wd K mg cPF cPg cDF cD aE) (hK : K' = K) (hs : σ[i]? = some (some (.ref x))) (hx : H x = some (.ins cD dx (F9 v1 v2 v3 v4 v5 v6 v7 v8 v9))) (q : Q v8 H) : tFld K' (tVar i) ("dead" : Str) σ H Q := by
  subst hK
  exact ⟨_, hs, x, cD, dx, _, _, rfl, hx, W.k_cl, W.k_dead, l_dead, q⟩
theorem put_dead : putF ("dead" : Str) y (F9 v1 v2 v3 v4 v5 v6 v7 v8 v9) = F9 v1 v2 v3 v4 v5 v6 v7 y v9 := (Dq.putF_ne (by decide +kernel)).trans (Dq.pc1 ((Dq.putF_ne (by decide +kernel)).trans (Dq.pc1 ((Dq.putF_ne (by decide +kernel)).trans (Dq.pc1 ((Dq.putF_ne (by decide +kernel)).trans (Dq.pc1 ((Dq.putF_ne (by decide +kernel)).trans (Dq.pc1 ((Dq.putF_ne (by decide +kernel)).trans (Dq.pc1 ((Dq.putF_ne (by decide +kernel)).trans (Dq.pc1 (Dq.putF_eq))))))))))))))
theorem i_dead : putF ("dead" : Str) y [(("block_size" : Str), v1), (("blocks" : Str), v2), (("log" : Str), v3), (("waiting" : Str), v4), (("written" : Str), v5), (("log_tail" : Str), v6), (("fuse" : Str), v7)] = [(("block_size" : Str), v1), (("blocks" : Str), v2), (("log" : Str), v3), (("waiting" : Str), v4), (("written" : Str), v5), (("log_tail" : Str), v6), (("fuse" : Str), v7), (("dead" : Str), y)] := (Dq.putF_ne (by decide +kernel)).trans (Dq.pc1 ((Dq.putF_ne (by decide +kernel)).trans (Dq.pc1 ((Dq.putF_ne (by decide +kernel)).trans (Dq.pc1 ((Dq.putF_ne (by decide +kernel)).trans (Dq.pc1 ((Dq.putF_ne (by decide +kernel)).trans (Dq.pc1 ((Dq.putF_ne (by decide +kernel)).trans (Dq.pc1 ((Dq.putF_ne (by decide +kernel)).trans (Dq.pc1 (rfl))))))))))))))
theorem l_steps : (F9 v1 v2 v3 v4 v5 v6 v7 v8 v9).lookup ("steps" : Str) = some v9 := (Dq.look0 (by decide +kernel)).trans ((Dq.look0 (by decide +kernel)).trans ((Dq.look0 (by decide +kernel)).trans ((Dq.look0 (by decide +kernel)).trans ((Dq.look0 (by decide +kernel)).trans ((Dq.look0 (by decide +kernel)).trans ((Dq.look0 (by decide +kernel)).trans ((Dq.look0 (by decide +kernel)).trans (Dq.look1 (by decide +kernel)))))))))
theorem g_steps (W : Wd K mg cPF cPg cDF cD aE) (hK : K' = K) (hs : σ[i]? = some (some (.ref x))) (hx : H x = some (.ins cD dx (F9 v1 v2 v3 v4 v5 v6 v7 v8 v9))) (q : Q v9 H) : tFld K' (tVar i) ("steps" : Str) σ H Q := by
  subst hK
  exact ⟨_, hs, x, cD, dx, _, _, rfl, hx, W.k_cl, W.k_steps, l_steps, q⟩
theorem put_steps : putF ("steps" : Str) y (F9 v1 v2 v3 v4 v5 v6 v7 v8 v9) = F9 v1 v2 v3 v4 v5 v6 v7 v8 y := (Dq.putF_ne (by decide +kernel)).trans (Dq.pc1 ((Dq.putF_ne (by decide +kernel)).trans (Dq.pc1 ((Dq.putF_ne (by decide +kernel)).trans (Dq.pc1 ((Dq.putF_ne (by decide +kernel)).trans (Dq.pc1 ((Dq.putF_ne (by decide +kernel)).trans (Dq.pc1 ((Dq.putF_ne (by decide +kernel)).trans (Dq.pc1 ((Dq.putF_ne (by decide +kernel)).trans (Dq.pc1 ((Dq.putF_ne (by decide +kernel)).trans (Dq.pc1 (Dq.putF_eq))))))))))))))))
theorem i_steps : putF ("steps" : Str) y [(("block_size" : Str), v1), (("blocks" : Str), v2), (("log" : Str), v3), (("waiting" : Str), v4), (("written" : Str), v5), (("log_tail" : Str), v6), (("fuse" : Str), v7), (("dead" : Str), v8)] = [(("block_size" : Str), v1), (("blocks" : Str), v2), (("log" : Str), v3), (("waiting" : Str), v4), (("written" : Str), v5), (("log_tail" : Str), v6), (("fuse" : Str), v7), (("dead" : Str), v8), (("steps" : Str), y)] := (Dq.putF_ne (by decide +kernel)).trans (Dq.pc1 ((Dq.putF_ne (by decide +kernel)).trans (Dq.pc1 ((Dq.putF_ne (by decide +kernel)).trans (Dq.pc1 ((Dq.putF_ne (by decide +kernel)).trans (Dq.pc1 ((Dq.putF_ne (by decide +kernel)).trans (Dq.pc1 ((Dq.putF_ne (by decide +kernel)).trans (Dq.pc1 ((Dq.putF_ne (by decide +kernel)).trans (Dq.pc1 ((Dq.putF_ne (by decide +kernel)).trans (Dq.pc1 (rfl))))))))))))))))
theorem m_none {m : Str} (h : ([("block_size" : Str), "blocks", "log", "waiting", "written", "log_tail", "fuse", "dead", "steps"].all fun f => !(m == f)) = true) : (F9 v1 v2 v3 v4 v5 v6 v7 v8 v9).lookup m = none := by
  simp only [List.all_cons, List.all_nil, Bool.and_true, Bool.and_eq_true, Bool.not_eq_true'] at h
  obtain ⟨h1, h2, h3, h4, h5, h6, h7, h8, h9⟩ := h
  exact (Dq.look0 h1).trans ((Dq.look0 h2).trans ((Dq.look0 h3).trans ((Dq.look0 h4).trans ((Dq.look0 h5).trans ((Dq.look0 h6).trans ((Dq.look0 h7).trans ((Dq.look0 h8).trans ((Dq.look0 h9).trans (rfl)))))))))
end
end K11
end

section
-- part K11G
set_option Elab.async false
set_option linter.all false
set_option maxRecDepth 100000
set_option maxHeartbeats 800000
open PySem PySem.Spec PyProof.Rows L2 Fw
local macro_rules | `(tactic| walk_at "e1") => `(tactic| first
  | ((with_reducible refine' w_var ?hv ?_); (case hv => rfl))
  | with_reducible refine w_c ?_
  | with_reducible refine w_op ?_
  | with_reducible refine w_un ?_
  | with_reducible refine w_cons ?_
  | with_reducible refine w_nil ?_
  | with_reducible refine w_cl ?_
  | with_reducible refine w_cb ?_
  | with_reducible refine w_gname ?_
  | with_reducible refine w_gsub ?_
  | with_reducible refine w_test ?_
  | with_reducible refine w_B ?_
  | with_reducible refine w_bl ?_
  | with_reducible refine w_and ?_
  | with_reducible refine w_or ?_
  | with_reducible refine w_not ?_
  | with_reducible refine w_if ?_
  | with_reducible refine w_I0 ?_
  | with_reducible refine Gk.w_rU ?_
  | with_reducible refine Dq.w_orV ?_
  | with_reducible refine Dq.w_js ?_
  | with_reducible refine Dq.w_js0 ?_
  | with_reducible refine Dq.w_fm ?_
  | with_reducible refine Dq.w_andV ?_
  | with_reducible refine Gk.w_iEnum ?_
  | with_reducible refine Dq.w_dget ?_
  | with_reducible refine Dq.w_din ?_
  | with_reducible refine Dq.w_dnotin ?_
  | with_reducible refine Dq.w_dget2 ?_
  | with_reducible refine Dq.w_dnew ?_
  | with_reducible refine Dq.w_fldaug ?_
  | with_reducible refine Dq.w_aSub ?_
  | with_reducible refine Dq.w_aAdd ?_
  | with_reducible refine Dq.w_mkd ?_
  | with_reducible refine Dq.w_notN0 ?_
  | with_reducible refine Dq.w_isN0 ?_
  | with_reducible refine Dq.w_notNR ?_
  | with_reducible refine Dq.w_isNR ?_
  | with_reducible refine Dq.w_notNI ?_
  | with_reducible refine Dq.w_isNI ?_
  | with_reducible refine L2.w_neOs ?_
  | with_reducible refine w_ipI ?_
  | with_reducible refine w_eqS ?_
  | with_reducible refine w_neS ?_
  | with_reducible refine w_eqI ?_
  | with_reducible refine w_neI ?_
  | with_reducible refine w_eqB ?_
  | with_reducible refine w_neB ?_
  | ((with_reducible refine w_eq ?hs ?_); (case hs => rfl))
  | ((with_reducible refine w_ne ?hs ?_); (case hs => rfl))
  | with_reducible refine w_fld ?_
  | with_reducible refine w_bm ?_
  | with_reducible refine w_bm0 ?_
  | with_reducible refine w_sl ?_
  | with_reducible refine w_part ?_
  | with_reducible refine w_partI ?_
  | with_reducible refine w_nopart ?_
  | ((with_reducible refine' w_ixL ?hh ?ha ?_); (case hh => first | assumption | exact upd_same); (case ha => rfl))
  | ((with_reducible refine' w_setLu ?ha ?_); (case ha => rfl))
  | ((with_reducible refine' w_setL ?hh ?ha ?_); (case hh => first | assumption | exact upd_same); (case ha => rfl))
  | with_reducible refine w_iteT ?_
  | with_reducible refine w_iteF ?_
  | with_reducible refine w_lst ?_
  | with_reducible refine w_tup ?_
  | ((with_reducible refine w_new ?hz ?_); (case hz => rfl))
  | with_reducible refine w_lc ?_
  | with_reducible refine w_iL ?_
  | with_reducible refine w_iT ?_
  | with_reducible refine w_iR1 ?_
  | with_reducible refine w_iR2 ?_
  | with_reducible refine w_yes ?_
  | with_reducible refine w_iStr ?_
  | with_reducible exact tyS
  | with_reducible refine And.intro tyS ?_
  | ((with_reducible refine w_find3 ?_); (first | rw [find3_one] | rw [starts3] | skip))
  | ((with_reducible refine w_2s ?_); (try rw [find_one]))
  | ((with_reducible refine w_inS ?_); rw [S_list])
  | ((with_reducible refine w_lenS ?hz ?_); (case hz => first | assumption | omega | decide); rw [SX.S_len])
  | ((with_reducible refine w_addS ?hz ?_); (case hz => first | assumption | omega | decide); rw [vS_cat])
  | with_reducible refine w_mk ?_
  | with_reducible refine w_me ?_
  | with_reducible refine w_sfld ?_
  | ((with_reducible refine' w_gtup ?hh ?hn ?_); (case hh => first | assumption | exact upd_same); (case hn => rfl))
  | with_reducible refine w_gcons ?_
  | with_reducible refine w_gnil ?_
  | with_reducible refine w_repl ?_
  | with_reducible refine w_star ?_
  | with_reducible refine w_revL ?_
  | with_reducible refine w_isiS ?_
  | with_reducible refine w_isiI ?_
  | with_reducible refine w_isiN ?_
  | with_reducible refine w_chain ?_
  | with_reducible refine w_iEnumT ?_
  | with_reducible refine w_iZip3 ?_
  | with_reducible refine w_iZip ?_
  | with_reducible refine w_lenR3 ?_
  | with_reducible refine w_x1i ?_
  | with_reducible refine w_x1b ?_
  | with_reducible refine w_x1s ?_
  | with_reducible refine w_int1i ?_
  | with_reducible refine w_int1b ?_
  | ((with_reducible refine w_mod ?hc ?_); (case hc => omega))
  | ((with_reducible refine w_fdivW ?hc ?hd ?_); (case hc => omega); (case hd => omega))
  | ((with_reducible refine w_mul ?hc ?_); (case hc => first | exact Or.inr ⟨by decide, by decide⟩ | exact Or.inl ⟨by decide, by decide⟩))
  | ((with_reducible refine w_pow ?hc ?_); (case hc => exact ⟨by decide, by decide, by decide⟩)))
local macro_rules | `(tactic| walk_at "f1") => `(tactic| first
  | ((with_reducible refine' K11.g_block_size ?hW ?hK ?hs ?hx ?_); (case hW => assumption); (case hK => rfl); (case hs => rfl); (case hx => first | assumption | exact upd_same))
  | ((with_reducible refine' K11.g_blocks ?hW ?hK ?hs ?hx ?_); (case hW => assumption); (case hK => rfl); (case hs => rfl); (case hx => first | assumption | exact upd_same))
  | ((with_reducible refine' K11.g_log ?hW ?hK ?hs ?hx ?_); (case hW => assumption); (case hK => rfl); (case hs => rfl); (case hx => first | assumption | exact upd_same))
  | ((with_reducible refine' K11.g_waiting ?hW ?hK ?hs ?hx ?_); (case hW => assumption); (case hK => rfl); (case hs => rfl); (case hx => first | assumption | exact upd_same))
  | ((with_reducible refine' K11.g_written ?hW ?hK ?hs ?hx ?_); (case hW => assumption); (case hK => rfl); (case hs => rfl); (case hx => first | assumption | exact upd_same))
  | ((with_reducible refine' K11.g_log_tail ?hW ?hK ?hs ?hx ?_); (case hW => assumption); (case hK => rfl); (case hs => rfl); (case hx => first | assumption | exact upd_same))
  | ((with_reducible refine' K11.g_fuse ?hW ?hK ?hs ?hx ?_); (case hW => assumption); (case hK => rfl); (case hs => rfl); (case hx => first | assumption | exact upd_same))
  | ((with_reducible refine' K11.g_dead ?hW ?hK ?hs ?hx ?_); (case hW => assumption); (case hK => rfl); (case hs => rfl); (case hx => first | assumption | exact upd_same))
  | ((with_reducible refine' K11.g_steps ?hW ?hK ?hs ?hx ?_); (case hW => assumption); (case hK => rfl); (case hs => rfl); (case hx => first | assumption | exact upd_same))
  | walk_at "e1")
local macro_rules | `(tactic| walk_at "s1") => `(tactic| first
  | with_reducible refine w_seq ?_
  | with_reducible refine w_asg ?_
  | with_reducible refine w_ret ?_
  | with_reducible refine w_par ?_
  | with_reducible refine w_drop ?_
  | with_reducible refine w_next ?_
  | with_reducible refine w_ifs ?_
  | ((with_reducible refine' w_aug ?hv ?_); (case hv => rfl))
  | with_reducible refine w_for ?_
  | walk_at "f1")
local macro_rules | `(tactic| walk_at "e") => `(tactic| repeat walk_at "e1")
local macro_rules | `(tactic| walk_at "g") => `(tactic| repeat walk_at "s1")

namespace K11
open Dc Gk M11
section
variable {P : Program} {w : World} {K : PySem.W.Frag} {mg : Str → Option Value} {base : Heap} {cPF cPg cDF cD aE : Addr}
def spStep (K : PySem.W.Frag) (cDF cD : Addr) : Sp := fun vs H Q E => ∃ (x bA qA wA : Addr) (S : DS), vs = [.ref x] ∧ DskO K cD H x bA qA wA S ∧
  (∀ H', Cs [x] H H' → DskO K cD H' x bA qA wA S.step → S.ok = true → Q .non H') ∧ (∀ H', Cs [x] H H' → DskO K cD H' x bA qA wA S.step → S.ok = false → E (.ref cDF) none H')
theorem mem1 {x : Addr} : x ∈ [x] := List.mem_singleton.mpr rfl
theorem ok_step (W : Wd K mg cPF cPg cDF cD aE) : Me P w K mg base 1 cD "step" (spStep K cDF cD) := by
  refine me_mk W.k_step W.k_cl sc_Disk_step (fun _ _ _ _ _ _ us hl => match us, hl with | [_], _ => rfl) (fun vs H Q E h => ?_) (fun f cdv A outer s H vs Q E hr h => ?_)
  · obtain ⟨x, bA, qA, wA, S, rfl, _⟩ := h; rfl
  obtain ⟨x, bA, qA, wA, ⟨bs, wr, ws, lg, tl, fu, dd, st⟩, rfl, hd, q, qE⟩ := h
  obtain ⟨dx, lA, tA, zs, hx, h2, h3, h4, h5⟩ := hd.ex
  have inc : ∀ H' fu', Cs [x] H H' → H' x = some (.ins cD dx (F9 (.int 96) (.ref bA) (.ref lA) (.ref qA) (.ref wA) (.ref tA) (fuV fu') (.bl false) (.int (st + 1)))) → DskO K cD H' x bA qA wA ⟨bs, wr, ws, lg, tl, fu', false, st + 1⟩ := fun H' fu' s e =>
    hd.upx s e (s.ch.sqT h2) (s.ch.sqT h3) rfl rfl rfl
  refine ⟨_, (pss_cons (ps_if (pt_val (pe_fld (pv 0) rfl))
    (pss_one (ps_raise rfl (takes_of rfl rfl rfl rfl) (pmk_own PySem.F.excBase_ValueError W.e_DiskFault.ox W.e_DiskFault.og W.e_DiskFault.ok (raises_own W.e_DiskFault.ob W.e_DiskFault.ot) rfl)))
    pss_nil)
    (pss_cons (ps_if (PW.pt (pw_and (pt_cmpR op_notN1 (pe_fld (pv 0) rfl) pe_non (nomark _)) (pw_and1 (pt_cmpR op_eq (pe_fld (pv 0) rfl) pe_int (nomark _)))))
    (pss_cons (ps_fld (pv 0) pe_bl rfl)
    (pss_one (ps_raise rfl (takes_of rfl rfl rfl rfl) (pmk_own PySem.F.excBase_ValueError W.e_DiskFault.ox W.e_DiskFault.og W.e_DiskFault.ok (raises_own W.e_DiskFault.ob W.e_DiskFault.ot) rfl))))
    pss_nil)
    (pss_cons (ps_if (pt_cmpR op_notN1 (pe_fld (pv 0) rfl) pe_non (nomark _))
    (pss_one (ps_fldaug (pv 0) pe_int in_sub))
    pss_nil)
    (pss_one (ps_fldaug (pv 0) pe_int in_add))))), ?_⟩
  walk_at "g"
  cases dd with
  | true =>
    walk_at "g"
    exact qE H (Cs.refl _ _) hd rfl
  | false =>
    cases fu with
    | none =>
      change H x = some (.ins cD dx (F9 (.int 96) (.ref bA) (.ref lA) (.ref qA) (.ref wA) (.ref tA) .non (.bl false) (.int st))) at hx
      walk_at "g"
      refine ⟨_, _, _, _, _, rfl, hx, W.k_cl, W.k_steps, l_steps, ?_⟩
      walk_at "g"
      refine ⟨_, _, hx, by show 9 < 1000; decide, ?_⟩
      rw [put_steps]
      have s := (Cs.refl [x] H).wr (o := .ins cD dx (F9 (.int 96) (.ref bA) (.ref lA) (.ref qA) (.ref wA) (.ref tA) .non (.bl false) (.int (st + 1)))) mem1 hx trivial
      exact q _ s (inc _ none s upd_same) rfl
    | some i =>
      change H x = some (.ins cD dx (F9 (.int 96) (.ref bA) (.ref lA) (.ref qA) (.ref wA) (.ref tA) (.int i) (.bl false) (.int st))) at hx
      walk_at "g"
      refine w_iteD (fun c1 => ?_) (fun c1 => ?_)
      · subst c1
        walk_at "g"
        refine ⟨_, _, _, _, rfl, hx, W.k_cl, W.k_dead, by show 9 < 1000; decide, ?_⟩
        rw [put_dead]
        have s := (Cs.refl [x] H).wr (o := .ins cD dx (F9 (.int 96) (.ref bA) (.ref lA) (.ref qA) (.ref wA) (.ref tA) (.int 0) (.bl true) (.int st))) mem1 hx trivial
        exact qE _ s (hd.upx s (S' := ⟨bs, wr, ws, lg, tl, some 0, true, st⟩) upd_same (s.ch.sqT h2) (s.ch.sqT h3) rfl rfl rfl) rfl
      · walk_at "g"
        refine ⟨_, _, _, _, _, rfl, hx, W.k_cl, W.k_fuse, l_fuse, ?_⟩
        walk_at "g"
        refine ⟨_, _, hx, by show 9 < 1000; decide, ?_⟩
        rw [put_fuse]
        have s := (Cs.refl [x] H).wr (o := .ins cD dx (F9 (.int 96) (.ref bA) (.ref lA) (.ref qA) (.ref wA) (.ref tA) (.int (i - 1)) (.bl false) (.int st))) mem1 hx trivial
        have hx1 : upd H x (.ins cD dx (F9 (.int 96) (.ref bA) (.ref lA) (.ref qA) (.ref wA) (.ref tA) (.int (i - 1)) (.bl false) (.int st))) x = _ := upd_same
        generalize upd H x (.ins cD dx (F9 (.int 96) (.ref bA) (.ref lA) (.ref qA) (.ref wA) (.ref tA) (.int (i - 1)) (.bl false) (.int st))) = H1 at s hx1
        walk_at "g"
        refine ⟨_, _, _, _, _, rfl, hx1, W.k_cl, W.k_steps, l_steps, ?_⟩
        walk_at "g"
        refine ⟨_, _, hx1, by show 9 < 1000; decide, ?_⟩
        rw [put_steps]
        have s2 := s.wr (o := .ins cD dx (F9 (.int 96) (.ref bA) (.ref lA) (.ref qA) (.ref wA) (.ref tA) (.int (i - 1)) (.bl false) (.int (st + 1)))) mem1 hx1 trivial
        have e1 : DS.step ⟨bs, wr, ws, lg, tl, some i, false, st⟩ = ⟨bs, wr, ws, lg, tl, some (i - 1), false, st + 1⟩ := by
          unfold DS.step
          rw [if_neg Bool.false_ne_true, if_neg (fun z => c1 (Option.some.inj z))]
          rfl
        have e2 : DS.ok ⟨bs, wr, ws, lg, tl, some i, false, st⟩ = true := by
          unfold DS.ok
          rw [decide_eq_false (fun z => c1 (Option.some.inj z))]
          rfl
        exact q _ s2 (e1 ▸ inc _ (some (i - 1)) s2 upd_same) e2
end
end K11
end

section
-- part K11H
set_option Elab.async false
set_option linter.all false
set_option maxRecDepth 100000
set_option maxHeartbeats 800000
open PySem PySem.Spec PyProof.Rows L2 Fw
local macro_rules | `(tactic| walk_at "e1") => `(tactic| first
  | ((with_reducible refine' w_var ?hv ?_); (case hv => rfl))
  | with_reducible refine w_c ?_
  | with_reducible refine w_op ?_
  | with_reducible refine w_un ?_
  | with_reducible refine w_cons ?_
  | with_reducible refine w_nil ?_
  | with_reducible refine w_cl ?_
  | with_reducible refine w_cb ?_
  | with_reducible refine w_gname ?_
  | with_reducible refine w_gsub ?_
  | with_reducible refine w_test ?_
  | with_reducible refine w_B ?_
  | with_reducible refine w_bl ?_
  | with_reducible refine w_and ?_
  | with_reducible refine w_or ?_
  | with_reducible refine w_not ?_
  | with_reducible refine w_if ?_
  | with_reducible refine w_I0 ?_
  | with_reducible refine Gk.w_rU ?_
  | with_reducible refine Dq.w_orV ?_
  | with_reducible refine Dq.w_js ?_
  | with_reducible refine Dq.w_js0 ?_
  | with_reducible refine Dq.w_fm ?_
  | with_reducible refine Dq.w_andV ?_
  | with_reducible refine Gk.w_iEnum ?_
  | with_reducible refine Dq.w_dget ?_
  | with_reducible refine Dq.w_din ?_
  | with_reducible refine Dq.w_dnotin ?_
  | with_reducible refine Dq.w_dget2 ?_
  | with_reducible refine Dq.w_dnew ?_
  | with_reducible refine Dq.w_fldaug ?_
  | with_reducible refine Dq.w_aSub ?_
  | with_reducible refine Dq.w_aAdd ?_
  | with_reducible refine Dq.w_mkd ?_
  | with_reducible refine Dq.w_notN0 ?_
  | with_reducible refine Dq.w_isN0 ?_
  | with_reducible refine Dq.w_notNR ?_
  | with_reducible refine Dq.w_isNR ?_
  | with_reducible refine Dq.w_notNI ?_
  | with_reducible refine Dq.w_isNI ?_
  | with_reducible refine L2.w_neOs ?_
  | with_reducible refine w_ipI ?_
  | with_reducible refine w_eqS ?_
  | with_reducible refine w_neS ?_
  | with_reducible refine w_eqI ?_
  | with_reducible refine w_neI ?_
  | with_reducible refine w_eqB ?_
  | with_reducible refine w_neB ?_
  | ((with_reducible refine w_eq ?hs ?_); (case hs => rfl))
  | ((with_reducible refine w_ne ?hs ?_); (case hs => rfl))
  | with_reducible refine w_fld ?_
  | with_reducible refine w_bm ?_
  | with_reducible refine w_bm0 ?_
  | with_reducible refine w_sl ?_
  | with_reducible refine w_part ?_
  | with_reducible refine w_partI ?_
  | with_reducible refine w_nopart ?_
  | ((with_reducible refine' w_ixL ?hh ?ha ?_); (case hh => first | assumption | exact upd_same); (case ha => rfl))
  | ((with_reducible refine' w_setLu ?ha ?_); (case ha => rfl))
  | ((with_reducible refine' w_setL ?hh ?ha ?_); (case hh => first | assumption | exact upd_same); (case ha => rfl))
  | with_reducible refine w_iteT ?_
  | with_reducible refine w_iteF ?_
  | with_reducible refine w_lst ?_
  | with_reducible refine w_tup ?_
  | ((with_reducible refine w_new ?hz ?_); (case hz => rfl))
  | with_reducible refine w_lc ?_
  | with_reducible refine w_iL ?_
  | with_reducible refine w_iT ?_
  | with_reducible refine w_iR1 ?_
  | with_reducible refine w_iR2 ?_
  | with_reducible refine w_yes ?_
  | with_reducible refine w_iStr ?_
  | with_reducible exact tyS
  | with_reducible refine And.intro tyS ?_
  | ((with_reducible refine w_find3 ?_); (first | rw [find3_one] | rw [starts3] | skip))
  | ((with_reducible refine w_2s ?_); (try rw [find_one]))
  | ((with_reducible refine w_inS ?_); rw [S_list])
  | ((with_reducible refine w_lenS ?hz ?_); (case hz => first | assumption | omega | decide); rw [SX.S_len])
  | ((with_reducible refine w_addS ?hz ?_); (case hz => first | assumption | omega | decide); rw [vS_cat])
  | with_reducible refine w_mk ?_
  | with_reducible refine w_me ?_
  | with_reducible refine w_sfld ?_
  | ((with_reducible refine' w_gtup ?hh ?hn ?_); (case hh => first | assumption | exact upd_same); (case hn => rfl))
  | with_reducible refine w_gcons ?_
  | with_reducible refine w_gnil ?_
  | with_reducible refine w_repl ?_
  | with_reducible refine w_star ?_
  | with_reducible refine w_revL ?_
  | with_reducible refine w_isiS ?_
  | with_reducible refine w_isiI ?_
  | with_reducible refine w_isiN ?_
  | with_reducible refine w_chain ?_
  | with_reducible refine w_iEnumT ?_
  | with_reducible refine w_iZip3 ?_
  | with_reducible refine w_iZip ?_
  | with_reducible refine w_lenR3 ?_
  | with_reducible refine w_x1i ?_
  | with_reducible refine w_x1b ?_
  | with_reducible refine w_x1s ?_
  | with_reducible refine w_int1i ?_
  | with_reducible refine w_int1b ?_
  | ((with_reducible refine w_mod ?hc ?_); (case hc => omega))
  | ((with_reducible refine w_fdivW ?hc ?hd ?_); (case hc => omega); (case hd => omega))
  | ((with_reducible refine w_mul ?hc ?_); (case hc => first | exact Or.inr ⟨by decide, by decide⟩ | exact Or.inl ⟨by decide, by decide⟩))
  | ((with_reducible refine w_pow ?hc ?_); (case hc => exact ⟨by decide, by decide, by decide⟩)))
local macro_rules | `(tactic| walk_at "f1") => `(tactic| first
  | ((with_reducible refine' K11.g_block_size ?hW ?hK ?hs ?hx ?_); (case hW => assumption); (case hK => rfl); (case hs => rfl); (case hx => first | assumption | exact upd_same))
  | ((with_reducible refine' K11.g_blocks ?hW ?hK ?hs ?hx ?_); (case hW => assumption); (case hK => rfl); (case hs => rfl); (case hx => first | assumption | exact upd_same))
  | ((with_reducible refine' K11.g_log ?hW ?hK ?hs ?hx ?_); (case hW => assumption); (case hK => rfl); (case hs => rfl); (case hx => first | assumption | exact upd_same))
  | ((with_reducible refine' K11.g_waiting ?hW ?hK ?hs ?hx ?_); (case hW => assumption); (case hK => rfl); (case hs => rfl); (case hx => first | assumption | exact upd_same))
  | ((with_reducible refine' K11.g_written ?hW ?hK ?hs ?hx ?_); (case hW => assumption); (case hK => rfl); (case hs => rfl); (case hx => first | assumption | exact upd_same))
  | ((with_reducible refine' K11.g_log_tail ?hW ?hK ?hs ?hx ?_); (case hW => assumption); (case hK => rfl); (case hs => rfl); (case hx => first | assumption | exact upd_same))
  | ((with_reducible refine' K11.g_fuse ?hW ?hK ?hs ?hx ?_); (case hW => assumption); (case hK => rfl); (case hs => rfl); (case hx => first | assumption | exact upd_same))
  | ((with_reducible refine' K11.g_dead ?hW ?hK ?hs ?hx ?_); (case hW => assumption); (case hK => rfl); (case hs => rfl); (case hx => first | assumption | exact upd_same))
  | ((with_reducible refine' K11.g_steps ?hW ?hK ?hs ?hx ?_); (case hW => assumption); (case hK => rfl); (case hs => rfl); (case hx => first | assumption | exact upd_same))
  | walk_at "e1")
local macro_rules | `(tactic| walk_at "s1") => `(tactic| first
  | with_reducible refine w_seq ?_
  | with_reducible refine w_asg ?_
  | with_reducible refine w_ret ?_
  | with_reducible refine w_par ?_
  | with_reducible refine w_drop ?_
  | with_reducible refine w_next ?_
  | with_reducible refine w_ifs ?_
  | ((with_reducible refine' w_aug ?hv ?_); (case hv => rfl))
  | with_reducible refine w_for ?_
  | walk_at "f1")
local macro_rules | `(tactic| walk_at "e") => `(tactic| repeat walk_at "e1")
local macro_rules | `(tactic| walk_at "g") => `(tactic| repeat walk_at "s1")

namespace K11
open Dc Gk M11
section
variable {P : Program} {w : World} {K : PySem.W.Frag} {mg : Str → Option Value} {base : Heap} {cPF cPg cDF cD aE : Addr}
theorem or_some {o u : Option V} : (o.or u).isSome = (u.isSome || o.isSome) := by cases o <;> cases u <;> rfl
def spRead (K : PySem.W.Frag) (cDF cD : Addr) : Sp := fun vs H Q E => ∃ (x bA qA wA : Addr) (S : DS) (n : Nat), vs = [.ref x, .int n] ∧ n < 100 ∧ DskO K cD H x bA qA wA S ∧ (S.dd = true → Fails H E cDF) ∧
  (S.dd = false → match (valV S.wr (.inl n)).or (valV S.bs (.inl n)) with | none => Fails H E cDF | some v => Q v H)
theorem ok_read_block (W : Wd K mg cPF cPg cDF cD aE) : Me P w K mg base 1 cD "read_block" (spRead K cDF cD) := by
  refine me_mk W.k_read_block W.k_cl sc_Disk_read_block (fun _ _ _ _ _ _ us hl => match us, hl with | [_, _], _ => rfl) (fun vs H Q E h => ?_) (fun f cdv A outer s H vs Q E hr h => ?_)
  · obtain ⟨x, bA, qA, wA, S, n, rfl, _⟩ := h; rfl
  obtain ⟨x, bA, qA, wA, S, n, rfl, hn, hd, qd, q⟩ := h
  obtain ⟨dx, lA, tA, zs, hx, h2, h3, h4, h5⟩ := hd.ex
  refine ⟨_, (pss_cons (ps_if (pt_val (pe_fld (pv 0) rfl))
    (pss_one (ps_raise rfl (takes_of rfl rfl rfl rfl) (pmk_own PySem.F.excBase_ValueError W.e_DiskFault.ox W.e_DiskFault.og W.e_DiskFault.ok (raises_own W.e_DiskFault.ob W.e_DiskFault.ot) rfl)))
    pss_nil)
    (pss_cons (ps_if (pt_cmp (pc_din (hu_of hr) (pv 1) (pe_fld (pv 0) rfl)) (by with_unfolding_all rfl))
    (pss_one (ps_ret (pe_dget (hu_of hr) (pe_fld (pv 0) rfl) (pv 1) (fun _ _ => rfl))))
    pss_nil)
    (pss_cons (ps_if (pt_cmp (pc_dnotin (hu_of hr) (pv 1) (pe_fld (pv 0) rfl)) (by with_unfolding_all rfl))
    (pss_one (ps_raise rfl (takes_of rfl rfl rfl rfl) (SkE.pmk_own1 PySem.F.excBase_ValueError W.e_DiskFault.ox W.e_DiskFault.og W.e_DiskFault.ok (raises_own W.e_DiskFault.ob W.e_DiskFault.ot) rfl (pe_joined (PJ.cons pe_str (PJ.cons (pe_fmt (pv 1)) PJ.nil))))))
    pss_nil)
    (pss_one (ps_ret (pe_dget (hu_of hr) (pe_fld (pv 0) rfl) (pv 1) (fun _ _ => rfl))))))), ?_⟩
  walk_at "g"
  refine w_ite (fun c => ?_) (fun c => ?_)
  · exact qd c H (Same.refl H)
  replace q := q c
  walk_at "g"
  refine ⟨wA, _, rfl, DGet.k (k := .inl n) hd.wr, ?_⟩
  cases ew : valV S.wr (.inl n) with
  | some v =>
    rw [ew] at q
    rw [Option.isSome_some]
    walk_at "g"
    exact ⟨wA, v, rfl, ew ▸ DGet.k (k := .inl n) hd.wr, q⟩
  | none =>
    rw [ew] at q
    rw [Option.isSome_none]
    walk_at "g"
    refine ⟨bA, _, rfl, DGet.k (k := .inl n) hd.bs, ?_⟩
    cases eb : valV S.bs (.inl n) with
    | none =>
      rw [eb] at q
      rw [Option.isSome_none, Bool.not_false]
      walk_at "g"
      refine ⟨_, rfl, by decide +kernel, ?_⟩
      walk_at "g"
      refine Dq.fmt_j (Nat.lt_trans hn (by decide)) ?_ fun z => ?_
      · decide +kernel
      walk_at "g"
      exact q H (Same.refl H)
    | some v =>
      rw [eb] at q
      rw [Option.isSome_some, Bool.not_true]
      walk_at "g"
      exact ⟨bA, v, rfl, eb ▸ DGet.k (k := .inl n) hd.bs, q⟩
def spWrite (K : PySem.W.Frag) (cDF cD : Addr) : Sp := fun vs H Q E => ∃ (x bA qA wA : Addr) (S : DS) (n : Int) (a : Addr) (d : List Int), vs = [.ref x, .int n, .ref a] ∧ DskO K cD H x bA qA wA S ∧ SqT K H a (d.map V.int) ∧ S.ws.length ≤ 1000 ∧ S.wr.length ≤ 1000 ∧
  (d.length ≠ 96 → Fails H E cDF) ∧ (d.length = 96 → (∀ H', Cs [x, qA, wA] H H' → DskO K cD H' x bA qA wA (S.write n a) → S.ok = true → Q .non H') ∧ ∀ H', Cs [x, qA, wA] H H' → DskO K cD H' x bA qA wA S.step → S.ok = false → E (.ref cDF) none H')
theorem ok_write_block (W : Wd K mg cPF cPg cDF cD aE) (c_Disk_step : Me P w K mg base 1 cD "step" (spStep K cDF cD)) : Me P w K mg base 2 cD "write_block" (spWrite K cDF cD) := by
  refine me_mk W.k_write_block W.k_cl sc_Disk_write_block (fun _ _ _ _ _ _ us hl => match us, hl with | [_, _, _], _ => rfl) (fun vs H Q E h => ?_) (fun f cdv A outer s H vs Q E hr h => ?_)
  · obtain ⟨x, bA, qA, wA, S, n, a, d, rfl, _⟩ := h; rfl
  obtain ⟨x, bA, qA, wA, S, n, a, d, rfl, hd, ha, hw, hv, qn, q⟩ := h
  obtain ⟨dx, lA, tA, zs, hx, h2, h3, h4, h5⟩ := hd.ex
  refine ⟨_, (pss_cons (ps_if (pt_cmpR op_ne (pe_callB call_len_seq rfl W.n_len PySem.boot_len (pa_cons (pv 2) pa_nil)) (pe_fld (pv 0) rfl) (nomark _))
    (pss_one (ps_raise rfl (takes_of rfl rfl rfl rfl) (SkE.pmk_own1 PySem.F.excBase_ValueError W.e_DiskFault.ox W.e_DiskFault.og W.e_DiskFault.ok (raises_own W.e_DiskFault.ob W.e_DiskFault.ot) rfl (pe_joined (PJ.cons pe_str (PJ.cons (pe_fmt (pe_fld (pv 0) rfl)) (PJ.cons pe_str PJ.nil)))))))
    pss_nil)
    (pss_cons (ps_expr (pe_me0 c_Disk_step hr (by decide) passD (pv 0)))
    (pss_cons (ps_expr (pe_bm PySem.F.plainAttrs_list PySem.F.slot_list_append PySem.F.type_list_append mt_append (pe_fld (pv 0) rfl) (pa_cons (pe_tup (pa_cons (pv 1) (pa_cons (pe_callTy call_tuple_of rfl W.n_tuple (by decide +kernel) (pa_cons (pv 2) pa_nil)) pa_nil))) pa_nil)))
    (pss_one (ps_asg (pe_callTy call_tuple_of rfl W.n_tuple (by decide +kernel) (pa_cons (pv 2) pa_nil)) (pg_sub (pe_fld (pv 0) rfl) (pv 1) (set_dict (hu_of hr)))))))), ?_⟩
  walk_at "g"
  refine ⟨a, _, rfl, .inr ha, ?_⟩
  rw [List.length_map]
  walk_at "g"
  refine w_iteN (fun c => ?_) (fun c => ?_)
  · have c2 : d.length ≠ 96 := fun z => c (by rw [z]; rfl)
    walk_at "g"
    refine ⟨_, rfl, by decide +kernel, ?_⟩
    walk_at "g"
    refine .inr ⟨96, rfl, by decide, ⟨_, rfl, by decide +kernel, ?_⟩⟩
    walk_at "g"
    refine ⟨_, rfl, by decide +kernel, ?_⟩
    walk_at "g"
    exact qn c2 H (Same.refl H)
  have c2 : d.length = 96 := by
    have c3 : (d.length : Int) = 96 := c
    omega
  obtain ⟨q, qE⟩ := q c2
  walk_at "g"
  refine ⟨x, dx, _, rfl, hx, m_none (by decide +kernel), ?_⟩
  walk_at "g"
  refine ⟨x, bA, qA, wA, S, rfl, hd, fun H1 s1 d1 ok => ?_, fun H1 s1 d1 ok => qE H1 (s1.le (fun b hb => by rw [List.mem_singleton.mp hb]; exact List.mem_cons_self)) d1 ok⟩
  replace q := fun H' s h => q H' s h ok
  obtain ⟨dx1, lA1, tA1, zs1, hx1, g2, g3, g4, g5⟩ := id d1.ex
  replace s1 : Cs [x, qA, wA] H H1 := s1.le (fun b hb => by rw [List.mem_singleton.mp hb]; exact List.mem_cons_self)
  rw [step_ws] at g5
  have hzl : zs1.length = S.ws.length := Paired.length g5
  have ha1 := s1.ch.sqT ha
  walk_at "g"
  refine ⟨tyL g4, ?_⟩
  walk_at "g"
  refine ⟨a, _, rfl, .inr ⟨ha1, ?_⟩⟩
  walk_at "g"
  intro z hz
  have sz := same_new hz (.tup [.int n, .ref a])
  have ez : upd H1 z (.tup [.int n, .ref a]) z = some (.tup [.int n, .ref a]) := upd_same
  generalize upd H1 z (.tup [.int n, .ref a]) = H2 at sz ez
  replace s1 : Cs [x, qA, wA] H H2 := s1.trans (Cs.of sz)
  replace g5 : Prs K H2 (zs1 ++ [z]) (S.ws ++ [(n, a)]) := Paired.snoc (g5.ch (M := []) (Ch.of sz)) (SqT.of ez)
  have g4' := sz _ _ g4
  have hx2 := sz _ _ hx1
  have d2 := d1.sm sz
  have ha2 := s1.ch.sqT ha
  clear ha1 hx1 g4 ez
  walk_at "g"
  refine w_app g4' (by rw [List.length_map]; exact Nat.lt_of_le_of_lt (by omega : zs1.length ≤ 1000) (by decide)) ?_
  have s3 : Cs [x, qA, wA] H2 (upd H2 qA (.lst (zs1.map V.ref ++ [.ref z]))) := (Cs.refl _ _).wr (by simp) g4' trivial
  have e3 : upd H2 qA (.lst (zs1.map V.ref ++ [.ref z])) qA = some (.lst ((zs1 ++ [z]).map V.ref)) := by rw [upd_same, List.map_append]; rfl
  have hx3 : upd H2 qA (.lst (zs1.map V.ref ++ [.ref z])) x = some _ := (upd_ne (ne_of hx2 g4' (fun z => by cases z))).trans hx2
  have hw3 : upd H2 qA (.lst (zs1.map V.ref ++ [.ref z])) wA = some _ := (upd_ne (ne_of d2.wr g4' (fun z => by cases z))).trans d2.wr
  have hb3 : upd H2 qA (.lst (zs1.map V.ref ++ [.ref z])) bA = some _ := (upd_ne (ne_of d2.bs g4' (fun z => by cases z))).trans d2.bs
  generalize upd H2 qA (.lst (zs1.map V.ref ++ [.ref z])) = H3 at s3 e3 hx3 hw3 hb3
  walk_at "g"
  refine ⟨a, _, rfl, .inr ⟨s3.ch.sqT ha2, ?_⟩⟩
  walk_at "g"
  rw [step_wr] at hw3
  refine ⟨wA, _, rfl, DPut.k (k := .inl n) hw3 (Nat.lt_of_le_of_lt hv (by decide)), ?_⟩
  have s4 : Cs [x, qA, wA] H3 (upd H3 wA (.dK (putK S.wr (.inl n) (.ref a)))) := (Cs.refl _ _).wr (by simp) hw3 trivial
  have s13 := (s1.trans s3).trans s4
  have s34 := s3.trans s4
  refine q _ s13 ⟨⟨dx1, lA1, tA1, zs1 ++ [z], ?_, ?_, ?_, ?_, ?_⟩, ?_, upd_same, d2.ne, ?_, ?_, ?_, ?_⟩
  · exact (upd_ne (ne_of hx3 hw3 (fun z => by cases z))).trans hx3
  · exact s34.ch.sqT ((Cs.of (M := [x, qA, wA]) sz).ch.sqT g2)
  · exact s34.ch.sqT ((Cs.of (M := [x, qA, wA]) sz).ch.sqT g3)
  · exact (upd_ne (ne_of e3 hw3 (fun z => by cases z))).trans e3
  · exact g5.ch s34.ch
  · exact (upd_ne d2.ne).trans hb3
  · exact d2.ab.ch s34.ch
  · have := (d2.aw.ch s34.ch).put (k := .inl n) (a := a) (d := d) ⟨s34.ch.sqT ha2, c2⟩
    rw [step_wr] at this
    exact this
  · intro p hp
    rcases List.mem_append.mp hp with hp | hp
    · exact (d2.aq.ch s34.ch) p (by rw [step_ws]; exact hp)
    · rw [List.mem_singleton.mp hp]
      exact ⟨d, s34.ch.sqT ha2, c2⟩
  · exact d2.nd
def spSync (K : PySem.W.Frag) (cDF cD : Addr) : Sp := fun vs H Q E => ∃ (x bA qA wA : Addr) (S : DS), vs = [.ref x] ∧ DskO K cD H x bA qA wA S ∧ S.bs.length + S.ws.length ≤ 1000 ∧
  (∀ q' w' H', Cs [x, bA] H H' → H q' = none → H w' = none → q' ≠ w' → DskO K cD H' x bA q' w' S.sync → S.ok = true → Q .non H') ∧ ∀ H', Cs [x, bA] H H' → DskO K cD H' x bA qA wA S.step → S.ok = false → E (.ref cDF) none H'
theorem ok_sync_blocks (W : Wd K mg cPF cPg cDF cD aE) (c_Disk_step : Me P w K mg base 1 cD "step" (spStep K cDF cD)) : Me P w K mg base 2 cD "sync_blocks" (spSync K cDF cD) := by
  refine me_mk W.k_sync_blocks W.k_cl sc_Disk_sync_blocks (fun _ _ _ _ _ _ us hl => match us, hl with | [_], _ => rfl) (fun vs H Q E h => ?_) (fun f cdv A outer s H vs Q E hr h => ?_)
  · obtain ⟨x, bA, qA, wA, S, rfl, _⟩ := h; rfl
  obtain ⟨x, bA, qA, wA, S, rfl, hd, hl, q, qE⟩ := h
  obtain ⟨dx, lA, tA, zs, hx, h2, h3, h4, h5⟩ := hd.ex
  refine ⟨_, (pss_cons (ps_expr (pe_me0 c_Disk_step hr (by decide) passD (pv 0)))
    (pss_cons (ps_for (passes_of rfl) rfl (pi_list (pe_fld (pv 0) rfl)) (pg_tup rfl (pgs_cons (pg_name (i := 1) sc_Disk_sync_blocks.nd rfl (Or.inl rfl)) (pgs_cons (pg_name (i := 2) sc_Disk_sync_blocks.nd rfl (Or.inl rfl)) pgs_nil)))
    (pss_one (ps_asg (pv 2) (pg_sub (pe_fld (pv 0) rfl) (pv 1) (set_dict (hu_of hr))))))
    (pss_cons (ps_fld (pv 0) (pe_lst pa_nil) rfl)
    (pss_one (ps_fld (pv 0) pe_dnewK rfl))))), ?_⟩
  walk_at "g"
  refine ⟨x, dx, _, rfl, hx, m_none (by decide +kernel), ?_⟩
  walk_at "g"
  refine ⟨x, bA, qA, wA, S, rfl, hd, fun H1 s1 d1 ok => ?_, fun H1 s1 d1 ok => qE H1 (s1.le (fun b hb => by rw [List.mem_singleton.mp hb]; exact List.mem_cons_self)) d1 ok⟩
  replace q := fun q' w' H' s e1 e2 e3 h => q q' w' H' s e1 e2 e3 h ok
  obtain ⟨dx1, lA1, tA1, zs1, hx1, g2, g3, g4, g5⟩ := id d1.ex
  replace s1 : Cs [x, bA] H H1 := s1.le (fun b hb => by rw [List.mem_singleton.mp hb]; exact List.mem_cons_self)
  have hb1 := d1.bs
  rw [step_bs] at hb1
  rw [step_ws] at g5
  have nq : qA ∉ [x, bA] := fun z => by
    rcases List.mem_cons.mp z with z | z
    · exact absurd z (ne_of g4 hx1 (fun z => by cases z))
    · exact absurd (List.mem_singleton.mp z) (ne_of g4 hb1 (fun z => by cases z))
  have nxb : x ≠ bA := ne_of hx1 hb1 (fun z => by cases z)
  have hzl : zs1.length = S.ws.length := Paired.length g5
  walk_at "g"
  refine w_forL (SqL.of g4) (fun i σ Hc => ∃ v1 v2 : Option V, σ = [some (.ref x), v1, v2] ∧ Cs [x, bA] H1 Hc ∧ Hc bA = some (.dK (putW (S.ws.take i) S.bs)) ∧ Hc x = some (.ins cD dx1 (flds bA lA1 qA wA tA1 S.step)))
    ⟨none, none, rfl, Cs.refl _ _, hb1, hx1⟩ (fun i σ Hc _ ⟨_, _, _, s2, _, _⟩ => SqL.of (s2.ch.lst g4 nq)) ?_ ?_
  · rintro i y σ H2 hi ⟨v1, v2, rfl, s2, eb, hx2⟩
    obtain ⟨z, hz, rfl⟩ := map_get hi
    obtain ⟨⟨n, a⟩, hp, gz⟩ := paired_get g5 hz
    have hlt : i < S.ws.length := (List.getElem?_eq_some_iff.mp hp).1
    refine w_gtupS (s2.ch.sqT gz) rfl ?_
    walk_at "g"
    have hlen := len_putW (S.ws.take i) S.bs
    rw [List.length_take] at hlen
    refine ⟨bA, _, rfl, DPut.k (k := .inl n) eb (Nat.lt_of_le_of_lt (by omega : _ ≤ 1000) (by decide)), ?_⟩
    refine ⟨_, _, rfl, s2.wr (by simp) eb trivial, ?_, (upd_ne nxb).trans hx2⟩
    rw [upd_same, List.take_add_one, hp]
    show some (HO.dK _) = some (HO.dK (putW (S.ws.take i ++ [(n, a)]) S.bs))
    rw [putW_snoc]
  · rintro σ H2 ⟨v1, v2, rfl, s2, eb, hx2⟩
    rw [List.length_map, hzl, List.take_length] at eb
    walk_at "g"
    intro q' hq
    have s3 := same_new hq (.lst [])
    have e3 : upd H2 q' (.lst []) q' = some (.lst []) := upd_same
    generalize upd H2 q' (.lst []) = H3 at s3 e3
    have hx3 := s3 _ _ hx2
    have s13 := (s1.trans s2).trans (Cs.of s3)
    walk_at "g"
    refine ⟨_, _, _, _, rfl, hx3, W.k_cl, W.k_waiting, by show 9 < 1000; decide, ?_⟩
    rw [put_waiting]
    have fq : H q' = none := (s1.trans s2).free (fun b hb => by
      rcases List.mem_cons.mp hb with z | z
      · rw [z]; exact ⟨_, hx2⟩
      · rw [List.mem_singleton.mp z]; exact ⟨_, eb⟩) hq
    have s4 := (Cs.refl [x, bA] H3).wr (o := .ins cD dx1 (F9 (.int 96) (.ref bA) (.ref lA1) (.ref q') (.ref wA) (.ref tA1) (fuV S.step.fu) (.bl S.step.dd) (.int S.step.st))) List.mem_cons_self hx3 trivial
    have hx4 : upd H3 x (.ins cD dx1 (F9 (.int 96) (.ref bA) (.ref lA1) (.ref q') (.ref wA) (.ref tA1) (fuV S.step.fu) (.bl S.step.dd) (.int S.step.st))) x = some (.ins cD dx1 (F9 (.int 96) (.ref bA) (.ref lA1) (.ref q') (.ref wA) (.ref tA1) (fuV S.step.fu) (.bl S.step.dd) (.int S.step.st))) := upd_same
    have e4 := (upd_ne (o := .ins cD dx1 (F9 (.int 96) (.ref bA) (.ref lA1) (.ref q') (.ref wA) (.ref tA1) (fuV S.step.fu) (.bl S.step.dd) (.int S.step.st))) (ne_of e3 hx3 (fun z => by cases z))).trans e3
    have eb4 := (upd_ne (o := .ins cD dx1 (F9 (.int 96) (.ref bA) (.ref lA1) (.ref q') (.ref wA) (.ref tA1) (fuV S.step.fu) (.bl S.step.dd) (.int S.step.st))) (ne_of (s3 _ _ eb) hx3 (fun z => by cases z))).trans (s3 _ _ eb)
    generalize upd H3 x (.ins cD dx1 (F9 (.int 96) (.ref bA) (.ref lA1) (.ref q') (.ref wA) (.ref tA1) (fuV S.step.fu) (.bl S.step.dd) (.int S.step.st))) = H4 at s4 hx4 e4 eb4
    walk_at "g"
    intro w' hw
    have s5 := same_new hw (.dK [])
    have e5 : upd H4 w' (.dK []) w' = some (.dK []) := upd_same
    generalize upd H4 w' (.dK []) = H5 at s5 e5
    have hx5 := s5 _ _ hx4
    walk_at "g"
    refine ⟨_, _, _, _, rfl, hx5, W.k_cl, W.k_written, by show 9 < 1000; decide, ?_⟩
    rw [put_written]
    have s14 := s13.trans s4
    have fw : H w' = none := s14.free (fun b hb => by
      rcases List.mem_cons.mp hb with z | z
      · rw [z]; exact ⟨_, hx4⟩
      · rw [List.mem_singleton.mp z]; exact ⟨_, eb4⟩) hw
    have s6 := (Cs.refl [x, bA] H5).wr (o := .ins cD dx1 (flds bA lA1 q' w' tA1 S.sync)) List.mem_cons_self hx5 trivial
    have s16 := (s14.trans (Cs.of s5)).trans s6
    have s26 := ((((s2.trans (Cs.of s3)).trans s4).trans (Cs.of s5)).trans s6).ch
    have ab := d1.ab.ch s26
    rw [step_bs] at ab
    have aq := d1.aq.ch s26
    rw [step_ws] at aq
    have nd := d1.nd
    rw [step_bs] at nd
    refine q q' w' _ s16 fq fw (ne_of_none e4 hw) ⟨⟨dx1, lA1, tA1, [], upd_same, s26.sqT g2, s26.sqT g3, ?_, .nil⟩, ?_, ?_, ?_, ab.putW aq, ⟨[], .nil⟩, (fun p hp => absurd hp List.not_mem_nil), nodup_putW _ nd⟩
    · exact (upd_ne (ne_of (s5 _ _ e4) hx5 (fun z => by cases z))).trans (s5 _ _ e4)
    · exact (upd_ne (ne_of (s5 _ _ eb4) hx5 (fun z => by cases z))).trans (s5 _ _ eb4)
    · exact (upd_ne (ne_of e5 hx5 (fun z => by cases z))).trans e5
    · exact ne_of_none eb4 hw
end
end K11
end

section
-- part K11I
set_option Elab.async false
set_option linter.all false
set_option maxRecDepth 100000
set_option maxHeartbeats 800000
open PySem PySem.Spec PyProof.Rows L2 Fw
local macro_rules | `(tactic| walk_at "e1") => `(tactic| first
  | ((with_reducible refine' w_var ?hv ?_); (case hv => rfl))
  | with_reducible refine w_c ?_
  | with_reducible refine w_op ?_
  | with_reducible refine w_un ?_
  | with_reducible refine w_cons ?_
  | with_reducible refine w_nil ?_
  | with_reducible refine w_cl ?_
  | with_reducible refine w_cb ?_
  | with_reducible refine w_gname ?_
  | with_reducible refine w_gsub ?_
  | with_reducible refine w_test ?_
  | with_reducible refine w_B ?_
  | with_reducible refine w_bl ?_
  | with_reducible refine w_and ?_
  | with_reducible refine w_or ?_
  | with_reducible refine w_not ?_
  | with_reducible refine w_if ?_
  | with_reducible refine w_I0 ?_
  | with_reducible refine Gk.w_rU ?_
  | with_reducible refine Dq.w_orV ?_
  | with_reducible refine Dq.w_js ?_
  | with_reducible refine Dq.w_js0 ?_
  | with_reducible refine Dq.w_fm ?_
  | with_reducible refine Dq.w_andV ?_
  | with_reducible refine Gk.w_iEnum ?_
  | with_reducible refine Dq.w_dget ?_
  | with_reducible refine Dq.w_din ?_
  | with_reducible refine Dq.w_dnotin ?_
  | with_reducible refine Dq.w_dget2 ?_
  | with_reducible refine Dq.w_dnew ?_
  | with_reducible refine Dq.w_fldaug ?_
  | with_reducible refine Dq.w_aSub ?_
  | with_reducible refine Dq.w_aAdd ?_
  | with_reducible refine Dq.w_mkd ?_
  | with_reducible refine Dq.w_notN0 ?_
  | with_reducible refine Dq.w_isN0 ?_
  | with_reducible refine Dq.w_notNR ?_
  | with_reducible refine Dq.w_isNR ?_
  | with_reducible refine Dq.w_notNI ?_
  | with_reducible refine Dq.w_isNI ?_
  | with_reducible refine L2.w_neOs ?_
  | with_reducible refine w_ipI ?_
  | with_reducible refine w_eqS ?_
  | with_reducible refine w_neS ?_
  | with_reducible refine w_eqI ?_
  | with_reducible refine w_neI ?_
  | with_reducible refine w_eqB ?_
  | with_reducible refine w_neB ?_
  | ((with_reducible refine w_eq ?hs ?_); (case hs => rfl))
  | ((with_reducible refine w_ne ?hs ?_); (case hs => rfl))
  | with_reducible refine w_fld ?_
  | with_reducible refine w_bm ?_
  | with_reducible refine w_bm0 ?_
  | with_reducible refine w_sl ?_
  | with_reducible refine w_part ?_
  | with_reducible refine w_partI ?_
  | with_reducible refine w_nopart ?_
  | ((with_reducible refine' w_ixL ?hh ?ha ?_); (case hh => first | assumption | exact upd_same); (case ha => rfl))
  | ((with_reducible refine' w_setLu ?ha ?_); (case ha => rfl))
  | ((with_reducible refine' w_setL ?hh ?ha ?_); (case hh => first | assumption | exact upd_same); (case ha => rfl))
  | with_reducible refine w_iteT ?_
  | with_reducible refine w_iteF ?_
  | with_reducible refine w_lst ?_
  | with_reducible refine w_tup ?_
  | ((with_reducible refine w_new ?hz ?_); (case hz => rfl))
  | with_reducible refine w_lc ?_
  | with_reducible refine w_iL ?_
  | with_reducible refine w_iT ?_
  | with_reducible refine w_iR1 ?_
  | with_reducible refine w_iR2 ?_
  | with_reducible refine w_yes ?_
  | with_reducible refine w_iStr ?_
  | with_reducible exact tyS
  | with_reducible refine And.intro tyS ?_
  | ((with_reducible refine w_find3 ?_); (first | rw [find3_one] | rw [starts3] | skip))
  | ((with_reducible refine w_2s ?_); (try rw [find_one]))
  | ((with_reducible refine w_inS ?_); rw [S_list])
  | ((with_reducible refine w_lenS ?hz ?_); (case hz => first | assumption | omega | decide); rw [SX.S_len])
  | ((with_reducible refine w_addS ?hz ?_); (case hz => first | assumption | omega | decide); rw [vS_cat])
  | with_reducible refine w_mk ?_
  | with_reducible refine w_me ?_
  | with_reducible refine w_sfld ?_
  | ((with_reducible refine' w_gtup ?hh ?hn ?_); (case hh => first | assumption | exact upd_same); (case hn => rfl))
  | with_reducible refine w_gcons ?_
  | with_reducible refine w_gnil ?_
  | with_reducible refine w_repl ?_
  | with_reducible refine w_star ?_
  | with_reducible refine w_revL ?_
  | with_reducible refine w_isiS ?_
  | with_reducible refine w_isiI ?_
  | with_reducible refine w_isiN ?_
  | with_reducible refine w_chain ?_
  | with_reducible refine w_iEnumT ?_
  | with_reducible refine w_iZip3 ?_
  | with_reducible refine w_iZip ?_
  | with_reducible refine w_lenR3 ?_
  | with_reducible refine w_x1i ?_
  | with_reducible refine w_x1b ?_
  | with_reducible refine w_x1s ?_
  | with_reducible refine w_int1i ?_
  | with_reducible refine w_int1b ?_
  | ((with_reducible refine w_mod ?hc ?_); (case hc => omega))
  | ((with_reducible refine w_fdivW ?hc ?hd ?_); (case hc => omega); (case hd => omega))
  | ((with_reducible refine w_mul ?hc ?_); (case hc => first | exact Or.inr ⟨by decide, by decide⟩ | exact Or.inl ⟨by decide, by decide⟩))
  | ((with_reducible refine w_pow ?hc ?_); (case hc => exact ⟨by decide, by decide, by decide⟩)))
local macro_rules | `(tactic| walk_at "f1") => `(tactic| first
  | ((with_reducible refine' K11.g_block_size ?hW ?hK ?hs ?hx ?_); (case hW => assumption); (case hK => rfl); (case hs => rfl); (case hx => first | assumption | exact upd_same))
  | ((with_reducible refine' K11.g_blocks ?hW ?hK ?hs ?hx ?_); (case hW => assumption); (case hK => rfl); (case hs => rfl); (case hx => first | assumption | exact upd_same))
  | ((with_reducible refine' K11.g_log ?hW ?hK ?hs ?hx ?_); (case hW => assumption); (case hK => rfl); (case hs => rfl); (case hx => first | assumption | exact upd_same))
  | ((with_reducible refine' K11.g_waiting ?hW ?hK ?hs ?hx ?_); (case hW => assumption); (case hK => rfl); (case hs => rfl); (case hx => first | assumption | exact upd_same))
  | ((with_reducible refine' K11.g_written ?hW ?hK ?hs ?hx ?_); (case hW => assumption); (case hK => rfl); (case hs => rfl); (case hx => first | assumption | exact upd_same))
  | ((with_reducible refine' K11.g_log_tail ?hW ?hK ?hs ?hx ?_); (case hW => assumption); (case hK => rfl); (case hs => rfl); (case hx => first | assumption | exact upd_same))
  | ((with_reducible refine' K11.g_fuse ?hW ?hK ?hs ?hx ?_); (case hW => assumption); (case hK => rfl); (case hs => rfl); (case hx => first | assumption | exact upd_same))
  | ((with_reducible refine' K11.g_dead ?hW ?hK ?hs ?hx ?_); (case hW => assumption); (case hK => rfl); (case hs => rfl); (case hx => first | assumption | exact upd_same))
  | ((with_reducible refine' K11.g_steps ?hW ?hK ?hs ?hx ?_); (case hW => assumption); (case hK => rfl); (case hs => rfl); (case hx => first | assumption | exact upd_same))
  | walk_at "e1")
local macro_rules | `(tactic| walk_at "s1") => `(tactic| first
  | with_reducible refine w_seq ?_
  | with_reducible refine w_asg ?_
  | with_reducible refine w_ret ?_
  | with_reducible refine w_par ?_
  | with_reducible refine w_drop ?_
  | with_reducible refine w_next ?_
  | with_reducible refine w_ifs ?_
  | ((with_reducible refine' w_aug ?hv ?_); (case hv => rfl))
  | with_reducible refine w_for ?_
  | walk_at "f1")
local macro_rules | `(tactic| walk_at "e") => `(tactic| repeat walk_at "e1")
local macro_rules | `(tactic| walk_at "g") => `(tactic| repeat walk_at "s1")

namespace K11
open Dc Gk M11
section
variable {P : Program} {w : World} {K : PySem.W.Frag} {mg : Str → Option Value} {base : Heap} {cPF cPg cDF cD aE : Addr}
/-- the blocks that are given: none, or a dict of them -/
def BlkIn (K : PySem.W.Frag) (H : Hp) (b : V) (kvs : List (Key × V)) : Prop := (b = .non ∧ kvs = []) ∨ ∃ d, b = .ref d ∧ H d = some (.dK kvs) ∧ (kvs.map (·.1)).Nodup ∧ AllB K H kvs ∧ kvs.length ≤ 1000
def spDisk (K : PySem.W.Frag) (cD : Addr) : Sp := fun vs H Q _ => ∃ (x dx lA : Addr) (lg : List Int) (b : V) (kvs : List (Key × V)), vs = [.ref x, .int 96, b, .ref lA] ∧ H x = some (.ins cD dx []) ∧ SqT K H lA (lg.map V.int) ∧ BlkIn K H b kvs ∧
  ∀ bA qA wA H', Cs [x] H H' → H bA = none → H qA = none → H wA = none → bA ≠ qA → qA ≠ wA → bA ≠ wA → DskO K cD H' x bA qA wA ⟨kvs, [], [], lg, [], none, false, 0⟩ → Q .non H'
theorem bsR_mem {H : Hp} {kvs : List (Key × V)} (h : AllB K H kvs) {p : Key × V} (hp : p ∈ kvs) : ∃ a d, p.2 = .ref a ∧ BlkA K H a d := by
  obtain ⟨ms, r⟩ := h
  obtain ⟨m, _, _, a, e, g⟩ := mem_bsR r hp
  exact ⟨a, m.2, e, g⟩
theorem same_lock {H H' : Hp} {d : Addr} {o : Obj} {u : HO} (hd : H d = some u) (s : Same (upd H d (.frz o u)) H') : Same H (upd H' d u) := fun b v e => by
  by_cases z : b = d
  · rw [z, hd] at e
    cases e
    rw [z, upd_same]
  · rw [upd_ne z]
    exact s b v ((upd_ne z).trans e)
theorem init_body (W : Wd K mg cPF cPg cDF cD aE) (f : Addr) (cdv : Value) (A : Around) (outer : List Env) (s : Shared) (H : Hp) (vs : List V) (Q : VK) (E : XK) (hr : Room 0 (A.deeper (envOfC "Disk.__init__" (defScope s_Disk___init__) s.heap.objs.size f cdv))) (h : spDisk K cD vs H Q E) :
    ∃ t, PSs (cxOf (L2.CX P w) P w K mg base ["self", "block_size", "blocks", "log", "number"] "Disk.__init__" (defScope s_Disk___init__) f cdv A outer s H E) (defBody s_Disk___init__) t ∧ t { nx := fun _ H' => Q .non H', rt := Q } (start ["self", "block_size", "blocks", "log", "number"] vs) H := by
  obtain ⟨x, dx, lA, lg, b, kvs, rfl, hx, hl, hb, q⟩ := h
  have hnd : (kvs.map (·.1)).Nodup := by
    rcases hb with ⟨_, rfl⟩ | ⟨_, _, _, nd, _⟩
    · exact List.nodup_nil
    · exact nd
  have hab : AllB K H kvs := by
    rcases hb with ⟨_, rfl⟩ | ⟨_, _, _, _, ab, _⟩
    · exact ⟨[], .nil⟩
    · exact ab
  refine ⟨_, (pss_cons (ps_fld (pv 0) (pv 1) rfl)
    (pss_cons (ps_fld (pv 0) (pe_ifExp (pt_cmpR op_isN1 (pv 2) pe_non (nomark _)) pe_dnewK (pe_lock (pe_dc (own := [("number", 4)]) rfl sc_Disk___init__.nd (pi_keys (pv 2)) (blkOk_by (own := [("number", 4)]) (N := ["self", "block_size", "blocks", "log", "number"]) (sc := defScope s_Disk___init__) (by decide +kernel)) (fun _ _ _ _ _ => (pg_name (i := 4) sc_Disk___init__.nd rfl (Or.inl rfl))) (fun _ _ _ _ _ => pts_nil) (fun _ _ _ _ _ => (pv 4)) (fun _ _ _ _ _ => (pe_callTy (tuple_ofK K rfl) rfl W.n_tuple (by decide +kernel) (pa_cons (pe_dget (hu_of hr) (pv 2) (pv 4) (fun _ _ => rfl)) pa_nil)))))) rfl)
    (pss_cons (ps_fld (pv 0) (pe_callTy call_tuple_of rfl W.n_tuple (by decide +kernel) (pa_cons (pv 3) pa_nil)) rfl)
    (pss_cons (ps_fld (pv 0) (pe_lst pa_nil) rfl)
    (pss_cons (ps_fld (pv 0) pe_dnewK rfl)
    (pss_cons (ps_fld (pv 0) (pe_tup pa_nil) rfl)
    (pss_cons (ps_fld (pv 0) pe_non rfl)
    (pss_cons (ps_fld (pv 0) pe_bl rfl)
    (pss_one (ps_fld (pv 0) pe_int rfl)))))))))), ?_⟩
  walk_at "g"
  refine ⟨_, _, _, _, rfl, hx, W.k_cl, W.k_block_size, by show 0 < 1000; decide, ?_⟩
  rw [show putF ("block_size" : Str) (.int 96) [] = [(("block_size" : Str), .int 96)] from rfl]
  have s1 := (Cs.refl [x] H).wr (o := .ins cD dx [(("block_size" : Str), .int 96)]) mem1 hx trivial
  have hx1 : upd H x (.ins cD dx [(("block_size" : Str), .int 96)]) x = some (.ins cD dx [(("block_size" : Str), .int 96)]) := upd_same
  generalize upd H x (.ins cD dx [(("block_size" : Str), .int 96)]) = H1 at s1 hx1
  iterate 2 walk_at "s1"
  refine Dq.w_ifV (fun v H2 => ∃ bA, v = .ref bA ∧ Same H1 H2 ∧ H1 bA = none ∧ H2 bA = some (.dK kvs)) (fun R hR => ?_) ?_
  · rcases hb with ⟨rfl, rfl⟩ | ⟨d, rfl, hd, nd, ab, hk⟩
    · walk_at "g"
      intro p hp
      exact hR _ _ ⟨p, rfl, same_new hp _, hp, upd_same⟩
    · have hd1 : H1 d = some (.dK kvs) := s1.ch.dk hd (fun z => absurd (List.mem_singleton.mp z) (ne_of hd hx (fun z => by cases z)))
      have ab1 := ab.ch s1.ch
      walk_at "g"
      refine Dq.w_dcK rfl hd1 fun o D hD => ?_
      have hD1 : H1 D = none := by
        by_cases z : D = d
        · rw [z, upd_same] at hD; cases hD
        · rw [upd_ne z] at hD; exact hD
      have nDd : D ≠ d := fun z => by rw [z, hd1] at hD1; cases hD1
      refine ⟨fun i H2 => Same (upd H1 d (.frz o (.dK kvs))) H2 ∧ H2 D = some (.dK (kvs.take i)), ⟨same_new hD _, upd_same⟩, fun i H2 _ ⟨s2, _⟩ => s2 _ _ upd_same, ?_, ?_⟩
      · rintro i k v H2 hi ⟨s2, eD⟩
        have hm : (k, v) ∈ kvs := List.mem_of_getElem? hi
        have hlt : i < kvs.length := (List.getElem?_eq_some_iff.mp hi).1
        obtain ⟨a, e, ea, be⟩ := bsR_mem ab1 hm
        have ea' : v = .ref a := ea
        subst ea'
        have hv : valV kvs k = some (.ref a) := val_nodup nd _ hm
        have sa : SqT K H2 a (e.map V.int) := by
          refine sqT_same ?_ s2
          rcases be.1 with (h | ⟨o', h⟩) | h
          · exact .inl (.inl ((upd_ne (ne_of h hd1 (fun z => by cases z))).trans h))
          · exact .inl (.inr ⟨o', (upd_ne (ne_of h hd1 (fun z => by cases z))).trans h⟩)
          · exact .inr h
        walk_at "g"
        refine ⟨rfl, ?_⟩
        walk_at "g"
        refine ⟨d, .ref a, rfl, .inl ⟨kvs, k, .inr ⟨o, s2 _ _ upd_same⟩, rfl, hv.symm⟩, ?_⟩
        walk_at "g"
        refine ⟨a, _, rfl, .inr ⟨sa, ?_⟩⟩
        refine ⟨kvs.take i, k, rfl, eD, Nat.lt_of_le_of_lt (by rw [List.length_take]; omega : _ ≤ 1000) (by decide), same_upd s2 hD, ?_⟩
        have hn : valV (kvs.take i) k = none := by
          cases e : valV (kvs.take i) k with
          | none => rfl
          | some u =>
            exfalso
            unfold valV at e
            cases g : (kvs.take i).find? fun kv => decide (kv.1 = k) with
            | none => rw [g] at e; cases e
            | some r =>
              have g1 := List.mem_of_find?_eq_some g
              have g2 : r.1 = k := of_decide_eq_true (List.find?_some (p := fun kv : Key × V => decide (kv.1 = k)) g)
              obtain ⟨j, hj⟩ := List.getElem?_of_mem g1
              rw [List.getElem?_take] at hj
              split at hj
              · rename_i hji
                have e1 : (kvs.map (·.1))[j]? = some k := by rw [List.getElem?_map, hj, ← g2]; rfl
                have e2 : (kvs.map (·.1))[i]? = some k := by rw [List.getElem?_map, hi]; rfl
                have := (List.getElem?_inj (by rw [List.length_map]; omega) nd).mp (e1.trans e2.symm)
                omega
              · cases hj
        rw [upd_same, putK_new _ hn, List.take_add_one, hi]
        rfl
      · rintro H2 ⟨s2, eD⟩
        rw [List.take_length] at eD
        exact hR _ _ ⟨D, rfl, same_lock hd1 s2, hD1, (upd_ne nDd).trans eD⟩
  rintro v H2 ⟨bA, rfl, s2, fb, eb⟩
  have s12 : Cs [x] H H2 := s1.trans (Cs.of s2)
  have hx2 := s2 _ _ hx1
  have fb0 : H bA = none := s1.free (fun b hb => by rw [List.mem_singleton.mp hb]; exact ⟨_, hx1⟩) fb
  clear s1 s2 hx1 fb
  walk_at "g"
  refine ⟨_, _, _, _, rfl, hx2, W.k_cl, W.k_blocks, by show 1 < 1000; decide, ?_⟩
  rw [i_blocks]
  have tH3 := s12.wr (o := .ins cD dx [(("block_size" : Str), V.int 96), (("blocks" : Str), V.ref bA)]) mem1 hx2 trivial
  have hxH3 : upd H2 x (.ins cD dx [(("block_size" : Str), V.int 96), (("blocks" : Str), V.ref bA)]) x = some (.ins cD dx [(("block_size" : Str), V.int 96), (("blocks" : Str), V.ref bA)]) := upd_same
  have eb_H3 := (upd_ne (o := .ins cD dx [(("block_size" : Str), V.int 96), (("blocks" : Str), V.ref bA)]) (ne_of eb hx2 (fun z => by cases z))).trans eb
  generalize upd H2 x (.ins cD dx [(("block_size" : Str), V.int 96), (("blocks" : Str), V.ref bA)]) = H3 at tH3 hxH3 eb_H3
  walk_at "g"
  refine ⟨lA, _, rfl, .inr ⟨tH3.ch.sqT hl, ?_⟩⟩
  walk_at "g"
  refine ⟨_, _, _, _, rfl, hxH3, W.k_cl, W.k_log, by show 2 < 1000; decide, ?_⟩
  rw [i_log]
  have tH4 := tH3.wr (o := .ins cD dx [(("block_size" : Str), V.int 96), (("blocks" : Str), V.ref bA), (("log" : Str), V.ref lA)]) mem1 hxH3 trivial
  have hxH4 : upd H3 x (.ins cD dx [(("block_size" : Str), V.int 96), (("blocks" : Str), V.ref bA), (("log" : Str), V.ref lA)]) x = some (.ins cD dx [(("block_size" : Str), V.int 96), (("blocks" : Str), V.ref bA), (("log" : Str), V.ref lA)]) := upd_same
  have eb_H3_H4 := (upd_ne (o := .ins cD dx [(("block_size" : Str), V.int 96), (("blocks" : Str), V.ref bA), (("log" : Str), V.ref lA)]) (ne_of eb_H3 hxH3 (fun z => by cases z))).trans eb_H3
  generalize upd H3 x (.ins cD dx [(("block_size" : Str), V.int 96), (("blocks" : Str), V.ref bA), (("log" : Str), V.ref lA)]) = H4 at tH4 hxH4 eb_H3_H4
  walk_at "g"
  intro qA fqA
  have uH5 := same_new fqA (.lst [])
  have eqA : upd H4 qA (.lst []) qA = some (.lst []) := upd_same
  generalize upd H4 qA (.lst []) = H5 at uH5 eqA
  have fqA0 : H qA = none := tH4.free (fun b hb => by rw [List.mem_singleton.mp hb]; exact ⟨_, hxH4⟩) fqA
  have hxH5 := uH5 _ _ hxH4
  have tH5 := tH4.trans (Cs.of uH5)
  have eb_H3_H4_H5 := uH5 _ _ eb_H3_H4
  have nbq := ne_of_none eb_H3_H4 fqA
  walk_at "g"
  refine ⟨_, _, _, _, rfl, hxH5, W.k_cl, W.k_waiting, by show 3 < 1000; decide, ?_⟩
  rw [i_waiting]
  have tH6 := tH5.wr (o := .ins cD dx [(("block_size" : Str), V.int 96), (("blocks" : Str), V.ref bA), (("log" : Str), V.ref lA), (("waiting" : Str), V.ref qA)]) mem1 hxH5 trivial
  have hxH6 : upd H5 x (.ins cD dx [(("block_size" : Str), V.int 96), (("blocks" : Str), V.ref bA), (("log" : Str), V.ref lA), (("waiting" : Str), V.ref qA)]) x = some (.ins cD dx [(("block_size" : Str), V.int 96), (("blocks" : Str), V.ref bA), (("log" : Str), V.ref lA), (("waiting" : Str), V.ref qA)]) := upd_same
  have eb_H3_H4_H5_H6 := (upd_ne (o := .ins cD dx [(("block_size" : Str), V.int 96), (("blocks" : Str), V.ref bA), (("log" : Str), V.ref lA), (("waiting" : Str), V.ref qA)]) (ne_of eb_H3_H4_H5 hxH5 (fun z => by cases z))).trans eb_H3_H4_H5
  have eqA_H6 := (upd_ne (o := .ins cD dx [(("block_size" : Str), V.int 96), (("blocks" : Str), V.ref bA), (("log" : Str), V.ref lA), (("waiting" : Str), V.ref qA)]) (ne_of eqA hxH5 (fun z => by cases z))).trans eqA
  generalize upd H5 x (.ins cD dx [(("block_size" : Str), V.int 96), (("blocks" : Str), V.ref bA), (("log" : Str), V.ref lA), (("waiting" : Str), V.ref qA)]) = H6 at tH6 hxH6 eb_H3_H4_H5_H6 eqA_H6
  walk_at "g"
  intro wA fwA
  have uH7 := same_new fwA (.dK [])
  have ewA : upd H6 wA (.dK []) wA = some (.dK []) := upd_same
  generalize upd H6 wA (.dK []) = H7 at uH7 ewA
  have fwA0 : H wA = none := tH6.free (fun b hb => by rw [List.mem_singleton.mp hb]; exact ⟨_, hxH6⟩) fwA
  have hxH7 := uH7 _ _ hxH6
  have tH7 := tH6.trans (Cs.of uH7)
  have eb_H3_H4_H5_H6_H7 := uH7 _ _ eb_H3_H4_H5_H6
  have eqA_H6_H7 := uH7 _ _ eqA_H6
  have nbw := ne_of_none eb_H3_H4_H5_H6 fwA
  have nqw := ne_of_none eqA_H6 fwA
  walk_at "g"
  refine ⟨_, _, _, _, rfl, hxH7, W.k_cl, W.k_written, by show 4 < 1000; decide, ?_⟩
  rw [i_written]
  have tH8 := tH7.wr (o := .ins cD dx [(("block_size" : Str), V.int 96), (("blocks" : Str), V.ref bA), (("log" : Str), V.ref lA), (("waiting" : Str), V.ref qA), (("written" : Str), V.ref wA)]) mem1 hxH7 trivial
  have hxH8 : upd H7 x (.ins cD dx [(("block_size" : Str), V.int 96), (("blocks" : Str), V.ref bA), (("log" : Str), V.ref lA), (("waiting" : Str), V.ref qA), (("written" : Str), V.ref wA)]) x = some (.ins cD dx [(("block_size" : Str), V.int 96), (("blocks" : Str), V.ref bA), (("log" : Str), V.ref lA), (("waiting" : Str), V.ref qA), (("written" : Str), V.ref wA)]) := upd_same
  have eb_H3_H4_H5_H6_H7_H8 := (upd_ne (o := .ins cD dx [(("block_size" : Str), V.int 96), (("blocks" : Str), V.ref bA), (("log" : Str), V.ref lA), (("waiting" : Str), V.ref qA), (("written" : Str), V.ref wA)]) (ne_of eb_H3_H4_H5_H6_H7 hxH7 (fun z => by cases z))).trans eb_H3_H4_H5_H6_H7
  have eqA_H6_H7_H8 := (upd_ne (o := .ins cD dx [(("block_size" : Str), V.int 96), (("blocks" : Str), V.ref bA), (("log" : Str), V.ref lA), (("waiting" : Str), V.ref qA), (("written" : Str), V.ref wA)]) (ne_of eqA_H6_H7 hxH7 (fun z => by cases z))).trans eqA_H6_H7
  have ewA_H8 := (upd_ne (o := .ins cD dx [(("block_size" : Str), V.int 96), (("blocks" : Str), V.ref bA), (("log" : Str), V.ref lA), (("waiting" : Str), V.ref qA), (("written" : Str), V.ref wA)]) (ne_of ewA hxH7 (fun z => by cases z))).trans ewA
  generalize upd H7 x (.ins cD dx [(("block_size" : Str), V.int 96), (("blocks" : Str), V.ref bA), (("log" : Str), V.ref lA), (("waiting" : Str), V.ref qA), (("written" : Str), V.ref wA)]) = H8 at tH8 hxH8 eb_H3_H4_H5_H6_H7_H8 eqA_H6_H7_H8 ewA_H8
  walk_at "g"
  intro tA ftA
  have uH9 := same_new ftA (.tup [])
  have etA : upd H8 tA (.tup []) tA = some (.tup []) := upd_same
  generalize upd H8 tA (.tup []) = H9 at uH9 etA
  have ftA0 : H tA = none := tH8.free (fun b hb => by rw [List.mem_singleton.mp hb]; exact ⟨_, hxH8⟩) ftA
  have hxH9 := uH9 _ _ hxH8
  have tH9 := tH8.trans (Cs.of uH9)
  have eb_H3_H4_H5_H6_H7_H8_H9 := uH9 _ _ eb_H3_H4_H5_H6_H7_H8
  have eqA_H6_H7_H8_H9 := uH9 _ _ eqA_H6_H7_H8
  have ewA_H8_H9 := uH9 _ _ ewA_H8
  walk_at "g"
  refine ⟨_, _, _, _, rfl, hxH9, W.k_cl, W.k_log_tail, by show 5 < 1000; decide, ?_⟩
  rw [i_log_tail]
  have tH10 := tH9.wr (o := .ins cD dx [(("block_size" : Str), V.int 96), (("blocks" : Str), V.ref bA), (("log" : Str), V.ref lA), (("waiting" : Str), V.ref qA), (("written" : Str), V.ref wA), (("log_tail" : Str), V.ref tA)]) mem1 hxH9 trivial
  have hxH10 : upd H9 x (.ins cD dx [(("block_size" : Str), V.int 96), (("blocks" : Str), V.ref bA), (("log" : Str), V.ref lA), (("waiting" : Str), V.ref qA), (("written" : Str), V.ref wA), (("log_tail" : Str), V.ref tA)]) x = some (.ins cD dx [(("block_size" : Str), V.int 96), (("blocks" : Str), V.ref bA), (("log" : Str), V.ref lA), (("waiting" : Str), V.ref qA), (("written" : Str), V.ref wA), (("log_tail" : Str), V.ref tA)]) := upd_same
  have eb_H3_H4_H5_H6_H7_H8_H9_H10 := (upd_ne (o := .ins cD dx [(("block_size" : Str), V.int 96), (("blocks" : Str), V.ref bA), (("log" : Str), V.ref lA), (("waiting" : Str), V.ref qA), (("written" : Str), V.ref wA), (("log_tail" : Str), V.ref tA)]) (ne_of eb_H3_H4_H5_H6_H7_H8_H9 hxH9 (fun z => by cases z))).trans eb_H3_H4_H5_H6_H7_H8_H9
  have eqA_H6_H7_H8_H9_H10 := (upd_ne (o := .ins cD dx [(("block_size" : Str), V.int 96), (("blocks" : Str), V.ref bA), (("log" : Str), V.ref lA), (("waiting" : Str), V.ref qA), (("written" : Str), V.ref wA), (("log_tail" : Str), V.ref tA)]) (ne_of eqA_H6_H7_H8_H9 hxH9 (fun z => by cases z))).trans eqA_H6_H7_H8_H9
  have ewA_H8_H9_H10 := (upd_ne (o := .ins cD dx [(("block_size" : Str), V.int 96), (("blocks" : Str), V.ref bA), (("log" : Str), V.ref lA), (("waiting" : Str), V.ref qA), (("written" : Str), V.ref wA), (("log_tail" : Str), V.ref tA)]) (ne_of ewA_H8_H9 hxH9 (fun z => by cases z))).trans ewA_H8_H9
  have etA_H10 := (upd_ne (o := .ins cD dx [(("block_size" : Str), V.int 96), (("blocks" : Str), V.ref bA), (("log" : Str), V.ref lA), (("waiting" : Str), V.ref qA), (("written" : Str), V.ref wA), (("log_tail" : Str), V.ref tA)]) (ne_of etA hxH9 (fun z => by cases z))).trans etA
  generalize upd H9 x (.ins cD dx [(("block_size" : Str), V.int 96), (("blocks" : Str), V.ref bA), (("log" : Str), V.ref lA), (("waiting" : Str), V.ref qA), (("written" : Str), V.ref wA), (("log_tail" : Str), V.ref tA)]) = H10 at tH10 hxH10 eb_H3_H4_H5_H6_H7_H8_H9_H10 eqA_H6_H7_H8_H9_H10 ewA_H8_H9_H10 etA_H10
  walk_at "g"
  refine ⟨_, _, _, _, rfl, hxH10, W.k_cl, W.k_fuse, by show 6 < 1000; decide, ?_⟩
  rw [i_fuse]
  have tH11 := tH10.wr (o := .ins cD dx [(("block_size" : Str), V.int 96), (("blocks" : Str), V.ref bA), (("log" : Str), V.ref lA), (("waiting" : Str), V.ref qA), (("written" : Str), V.ref wA), (("log_tail" : Str), V.ref tA), (("fuse" : Str), V.non)]) mem1 hxH10 trivial
  have hxH11 : upd H10 x (.ins cD dx [(("block_size" : Str), V.int 96), (("blocks" : Str), V.ref bA), (("log" : Str), V.ref lA), (("waiting" : Str), V.ref qA), (("written" : Str), V.ref wA), (("log_tail" : Str), V.ref tA), (("fuse" : Str), V.non)]) x = some (.ins cD dx [(("block_size" : Str), V.int 96), (("blocks" : Str), V.ref bA), (("log" : Str), V.ref lA), (("waiting" : Str), V.ref qA), (("written" : Str), V.ref wA), (("log_tail" : Str), V.ref tA), (("fuse" : Str), V.non)]) := upd_same
  have eb_H3_H4_H5_H6_H7_H8_H9_H10_H11 := (upd_ne (o := .ins cD dx [(("block_size" : Str), V.int 96), (("blocks" : Str), V.ref bA), (("log" : Str), V.ref lA), (("waiting" : Str), V.ref qA), (("written" : Str), V.ref wA), (("log_tail" : Str), V.ref tA), (("fuse" : Str), V.non)]) (ne_of eb_H3_H4_H5_H6_H7_H8_H9_H10 hxH10 (fun z => by cases z))).trans eb_H3_H4_H5_H6_H7_H8_H9_H10
  have eqA_H6_H7_H8_H9_H10_H11 := (upd_ne (o := .ins cD dx [(("block_size" : Str), V.int 96), (("blocks" : Str), V.ref bA), (("log" : Str), V.ref lA), (("waiting" : Str), V.ref qA), (("written" : Str), V.ref wA), (("log_tail" : Str), V.ref tA), (("fuse" : Str), V.non)]) (ne_of eqA_H6_H7_H8_H9_H10 hxH10 (fun z => by cases z))).trans eqA_H6_H7_H8_H9_H10
  have ewA_H8_H9_H10_H11 := (upd_ne (o := .ins cD dx [(("block_size" : Str), V.int 96), (("blocks" : Str), V.ref bA), (("log" : Str), V.ref lA), (("waiting" : Str), V.ref qA), (("written" : Str), V.ref wA), (("log_tail" : Str), V.ref tA), (("fuse" : Str), V.non)]) (ne_of ewA_H8_H9_H10 hxH10 (fun z => by cases z))).trans ewA_H8_H9_H10
  have etA_H10_H11 := (upd_ne (o := .ins cD dx [(("block_size" : Str), V.int 96), (("blocks" : Str), V.ref bA), (("log" : Str), V.ref lA), (("waiting" : Str), V.ref qA), (("written" : Str), V.ref wA), (("log_tail" : Str), V.ref tA), (("fuse" : Str), V.non)]) (ne_of etA_H10 hxH10 (fun z => by cases z))).trans etA_H10
  generalize upd H10 x (.ins cD dx [(("block_size" : Str), V.int 96), (("blocks" : Str), V.ref bA), (("log" : Str), V.ref lA), (("waiting" : Str), V.ref qA), (("written" : Str), V.ref wA), (("log_tail" : Str), V.ref tA), (("fuse" : Str), V.non)]) = H11 at tH11 hxH11 eb_H3_H4_H5_H6_H7_H8_H9_H10_H11 eqA_H6_H7_H8_H9_H10_H11 ewA_H8_H9_H10_H11 etA_H10_H11
  walk_at "g"
  refine ⟨_, _, _, _, rfl, hxH11, W.k_cl, W.k_dead, by show 7 < 1000; decide, ?_⟩
  rw [i_dead]
  have tH12 := tH11.wr (o := .ins cD dx [(("block_size" : Str), V.int 96), (("blocks" : Str), V.ref bA), (("log" : Str), V.ref lA), (("waiting" : Str), V.ref qA), (("written" : Str), V.ref wA), (("log_tail" : Str), V.ref tA), (("fuse" : Str), V.non), (("dead" : Str), V.bl false)]) mem1 hxH11 trivial
  have hxH12 : upd H11 x (.ins cD dx [(("block_size" : Str), V.int 96), (("blocks" : Str), V.ref bA), (("log" : Str), V.ref lA), (("waiting" : Str), V.ref qA), (("written" : Str), V.ref wA), (("log_tail" : Str), V.ref tA), (("fuse" : Str), V.non), (("dead" : Str), V.bl false)]) x = some (.ins cD dx [(("block_size" : Str), V.int 96), (("blocks" : Str), V.ref bA), (("log" : Str), V.ref lA), (("waiting" : Str), V.ref qA), (("written" : Str), V.ref wA), (("log_tail" : Str), V.ref tA), (("fuse" : Str), V.non), (("dead" : Str), V.bl false)]) := upd_same
  have eb_H3_H4_H5_H6_H7_H8_H9_H10_H11_H12 := (upd_ne (o := .ins cD dx [(("block_size" : Str), V.int 96), (("blocks" : Str), V.ref bA), (("log" : Str), V.ref lA), (("waiting" : Str), V.ref qA), (("written" : Str), V.ref wA), (("log_tail" : Str), V.ref tA), (("fuse" : Str), V.non), (("dead" : Str), V.bl false)]) (ne_of eb_H3_H4_H5_H6_H7_H8_H9_H10_H11 hxH11 (fun z => by cases z))).trans eb_H3_H4_H5_H6_H7_H8_H9_H10_H11
  have eqA_H6_H7_H8_H9_H10_H11_H12 := (upd_ne (o := .ins cD dx [(("block_size" : Str), V.int 96), (("blocks" : Str), V.ref bA), (("log" : Str), V.ref lA), (("waiting" : Str), V.ref qA), (("written" : Str), V.ref wA), (("log_tail" : Str), V.ref tA), (("fuse" : Str), V.non), (("dead" : Str), V.bl false)]) (ne_of eqA_H6_H7_H8_H9_H10_H11 hxH11 (fun z => by cases z))).trans eqA_H6_H7_H8_H9_H10_H11
  have ewA_H8_H9_H10_H11_H12 := (upd_ne (o := .ins cD dx [(("block_size" : Str), V.int 96), (("blocks" : Str), V.ref bA), (("log" : Str), V.ref lA), (("waiting" : Str), V.ref qA), (("written" : Str), V.ref wA), (("log_tail" : Str), V.ref tA), (("fuse" : Str), V.non), (("dead" : Str), V.bl false)]) (ne_of ewA_H8_H9_H10_H11 hxH11 (fun z => by cases z))).trans ewA_H8_H9_H10_H11
  have etA_H10_H11_H12 := (upd_ne (o := .ins cD dx [(("block_size" : Str), V.int 96), (("blocks" : Str), V.ref bA), (("log" : Str), V.ref lA), (("waiting" : Str), V.ref qA), (("written" : Str), V.ref wA), (("log_tail" : Str), V.ref tA), (("fuse" : Str), V.non), (("dead" : Str), V.bl false)]) (ne_of etA_H10_H11 hxH11 (fun z => by cases z))).trans etA_H10_H11
  generalize upd H11 x (.ins cD dx [(("block_size" : Str), V.int 96), (("blocks" : Str), V.ref bA), (("log" : Str), V.ref lA), (("waiting" : Str), V.ref qA), (("written" : Str), V.ref wA), (("log_tail" : Str), V.ref tA), (("fuse" : Str), V.non), (("dead" : Str), V.bl false)]) = H12 at tH12 hxH12 eb_H3_H4_H5_H6_H7_H8_H9_H10_H11_H12 eqA_H6_H7_H8_H9_H10_H11_H12 ewA_H8_H9_H10_H11_H12 etA_H10_H11_H12
  walk_at "g"
  refine ⟨_, _, _, _, rfl, hxH12, W.k_cl, W.k_steps, by show 8 < 1000; decide, ?_⟩
  rw [i_steps]
  have tH13 := tH12.wr (o := .ins cD dx [(("block_size" : Str), V.int 96), (("blocks" : Str), V.ref bA), (("log" : Str), V.ref lA), (("waiting" : Str), V.ref qA), (("written" : Str), V.ref wA), (("log_tail" : Str), V.ref tA), (("fuse" : Str), V.non), (("dead" : Str), V.bl false), (("steps" : Str), V.int 0)]) mem1 hxH12 trivial
  have hxH13 : upd H12 x (.ins cD dx [(("block_size" : Str), V.int 96), (("blocks" : Str), V.ref bA), (("log" : Str), V.ref lA), (("waiting" : Str), V.ref qA), (("written" : Str), V.ref wA), (("log_tail" : Str), V.ref tA), (("fuse" : Str), V.non), (("dead" : Str), V.bl false), (("steps" : Str), V.int 0)]) x = some (.ins cD dx [(("block_size" : Str), V.int 96), (("blocks" : Str), V.ref bA), (("log" : Str), V.ref lA), (("waiting" : Str), V.ref qA), (("written" : Str), V.ref wA), (("log_tail" : Str), V.ref tA), (("fuse" : Str), V.non), (("dead" : Str), V.bl false), (("steps" : Str), V.int 0)]) := upd_same
  have eb_H3_H4_H5_H6_H7_H8_H9_H10_H11_H12_H13 := (upd_ne (o := .ins cD dx [(("block_size" : Str), V.int 96), (("blocks" : Str), V.ref bA), (("log" : Str), V.ref lA), (("waiting" : Str), V.ref qA), (("written" : Str), V.ref wA), (("log_tail" : Str), V.ref tA), (("fuse" : Str), V.non), (("dead" : Str), V.bl false), (("steps" : Str), V.int 0)]) (ne_of eb_H3_H4_H5_H6_H7_H8_H9_H10_H11_H12 hxH12 (fun z => by cases z))).trans eb_H3_H4_H5_H6_H7_H8_H9_H10_H11_H12
  have eqA_H6_H7_H8_H9_H10_H11_H12_H13 := (upd_ne (o := .ins cD dx [(("block_size" : Str), V.int 96), (("blocks" : Str), V.ref bA), (("log" : Str), V.ref lA), (("waiting" : Str), V.ref qA), (("written" : Str), V.ref wA), (("log_tail" : Str), V.ref tA), (("fuse" : Str), V.non), (("dead" : Str), V.bl false), (("steps" : Str), V.int 0)]) (ne_of eqA_H6_H7_H8_H9_H10_H11_H12 hxH12 (fun z => by cases z))).trans eqA_H6_H7_H8_H9_H10_H11_H12
  have ewA_H8_H9_H10_H11_H12_H13 := (upd_ne (o := .ins cD dx [(("block_size" : Str), V.int 96), (("blocks" : Str), V.ref bA), (("log" : Str), V.ref lA), (("waiting" : Str), V.ref qA), (("written" : Str), V.ref wA), (("log_tail" : Str), V.ref tA), (("fuse" : Str), V.non), (("dead" : Str), V.bl false), (("steps" : Str), V.int 0)]) (ne_of ewA_H8_H9_H10_H11_H12 hxH12 (fun z => by cases z))).trans ewA_H8_H9_H10_H11_H12
  have etA_H10_H11_H12_H13 := (upd_ne (o := .ins cD dx [(("block_size" : Str), V.int 96), (("blocks" : Str), V.ref bA), (("log" : Str), V.ref lA), (("waiting" : Str), V.ref qA), (("written" : Str), V.ref wA), (("log_tail" : Str), V.ref tA), (("fuse" : Str), V.non), (("dead" : Str), V.bl false), (("steps" : Str), V.int 0)]) (ne_of etA_H10_H11_H12 hxH12 (fun z => by cases z))).trans etA_H10_H11_H12
  generalize upd H12 x (.ins cD dx [(("block_size" : Str), V.int 96), (("blocks" : Str), V.ref bA), (("log" : Str), V.ref lA), (("waiting" : Str), V.ref qA), (("written" : Str), V.ref wA), (("log_tail" : Str), V.ref tA), (("fuse" : Str), V.non), (("dead" : Str), V.bl false), (("steps" : Str), V.int 0)]) = H13 at tH13 hxH13 eb_H3_H4_H5_H6_H7_H8_H9_H10_H11_H12_H13 eqA_H6_H7_H8_H9_H10_H11_H12_H13 ewA_H8_H9_H10_H11_H12_H13 etA_H10_H11_H12_H13
  exact q bA qA wA H13 tH13 fb0 fqA0 fwA0 nbq nqw nbw ⟨⟨dx, lA, tA, [], hxH13, tH13.ch.sqT hl, SqT.of etA_H10_H11_H12_H13, eqA_H6_H7_H8_H9_H10_H11_H12_H13, .nil⟩, eb_H3_H4_H5_H6_H7_H8_H9_H10_H11_H12_H13, ewA_H8_H9_H10_H11_H12_H13, nbw, hab.ch tH13.ch, ⟨[], .nil⟩, (fun p hp => absurd hp List.not_mem_nil), hnd⟩
theorem init_len (vs : List V) (H : Hp) (Q : VK) (E : XK) (h : spDisk K cD vs H Q E) : vs.length = 4 := by
  obtain ⟨x, dx, lA, lg, b, kvs, rfl, _⟩ := h; rfl
/-- Disk(n) -/
theorem ok_init1 (W : Wd K mg cPF cPg cDF cD aE) : Dq.Mcd P w K mg base 1 "Disk" cD (spDisk K cD) [.non, .ref aE] :=
  Dq.mcd_mk (dvs := [.non, .ref aE]) 2 0 W.k_i W.k_g sc_Disk___init__ (by simp) rfl (fun _ _ _ _ _ _ _ us its h1 h2 => match us, its, h1, h2 with | [_, _], [_, _], _, _ => ⟨_, rfl, rfl⟩) init_len fun f cdv A outer s H vs Q E hr h => init_body W f cdv A outer s H vs Q E hr h
end
end K11
end

section
-- part K11J
set_option Elab.async false
set_option linter.all false
set_option maxRecDepth 100000
set_option maxHeartbeats 800000
open PySem PySem.Spec PyProof.Rows L2 Fw
local macro_rules | `(tactic| walk_at "e1") => `(tactic| first
  | ((with_reducible refine' w_var ?hv ?_); (case hv => rfl))
  | with_reducible refine w_c ?_
  | with_reducible refine w_op ?_
  | with_reducible refine w_un ?_
  | with_reducible refine w_cons ?_
  | with_reducible refine w_nil ?_
  | with_reducible refine w_cl ?_
  | with_reducible refine w_cb ?_
  | with_reducible refine w_gname ?_
  | with_reducible refine w_gsub ?_
  | with_reducible refine w_test ?_
  | with_reducible refine w_B ?_
  | with_reducible refine w_bl ?_
  | with_reducible refine w_and ?_
  | with_reducible refine w_or ?_
  | with_reducible refine w_not ?_
  | with_reducible refine w_if ?_
  | with_reducible refine w_I0 ?_
  | with_reducible refine Gk.w_rU ?_
  | with_reducible refine L2.w_neOs ?_
  | with_reducible refine w_ipI ?_
  | with_reducible refine w_eqS ?_
  | with_reducible refine w_neS ?_
  | with_reducible refine w_eqI ?_
  | with_reducible refine w_neI ?_
  | with_reducible refine w_eqB ?_
  | with_reducible refine w_neB ?_
  | ((with_reducible refine w_eq ?hs ?_); (case hs => rfl))
  | ((with_reducible refine w_ne ?hs ?_); (case hs => rfl))
  | with_reducible refine w_fld ?_
  | with_reducible refine w_bm ?_
  | with_reducible refine w_bm0 ?_
  | with_reducible refine w_sl ?_
  | with_reducible refine w_part ?_
  | with_reducible refine w_partI ?_
  | with_reducible refine w_nopart ?_
  | ((with_reducible refine' w_ixL ?hh ?ha ?_); (case hh => first | assumption | exact upd_same); (case ha => rfl))
  | ((with_reducible refine' w_setLu ?ha ?_); (case ha => rfl))
  | ((with_reducible refine' w_setL ?hh ?ha ?_); (case hh => first | assumption | exact upd_same); (case ha => rfl))
  | with_reducible refine w_iteT ?_
  | with_reducible refine w_iteF ?_
  | with_reducible refine w_lst ?_
  | with_reducible refine w_tup ?_
  | ((with_reducible refine w_new ?hz ?_); (case hz => rfl))
  | with_reducible refine w_lc ?_
  | with_reducible refine w_iL ?_
  | with_reducible refine w_iT ?_
  | with_reducible refine w_iR1 ?_
  | with_reducible refine w_iR2 ?_
  | with_reducible refine w_yes ?_
  | with_reducible refine w_iStr ?_
  | with_reducible exact tyS
  | with_reducible refine And.intro tyS ?_
  | ((with_reducible refine w_find3 ?_); (first | rw [find3_one] | rw [starts3] | skip))
  | ((with_reducible refine w_2s ?_); (try rw [find_one]))
  | ((with_reducible refine w_inS ?_); rw [S_list])
  | ((with_reducible refine w_lenS ?hz ?_); (case hz => first | assumption | omega | decide); rw [SX.S_len])
  | ((with_reducible refine w_addS ?hz ?_); (case hz => first | assumption | omega | decide); rw [vS_cat])
  | with_reducible refine w_mk ?_
  | with_reducible refine w_me ?_
  | with_reducible refine w_sfld ?_
  | ((with_reducible refine' w_gtup ?hh ?hn ?_); (case hh => first | assumption | exact upd_same); (case hn => rfl))
  | with_reducible refine w_gcons ?_
  | with_reducible refine w_gnil ?_
  | with_reducible refine w_repl ?_
  | with_reducible refine w_star ?_
  | with_reducible refine w_revL ?_
  | with_reducible refine w_isiS ?_
  | with_reducible refine w_isiI ?_
  | with_reducible refine w_isiN ?_
  | with_reducible refine w_chain ?_
  | with_reducible refine w_iEnumT ?_
  | with_reducible refine w_iZip3 ?_
  | with_reducible refine w_iZip ?_
  | with_reducible refine w_lenR3 ?_
  | with_reducible refine w_x1i ?_
  | with_reducible refine w_x1b ?_
  | with_reducible refine w_x1s ?_
  | with_reducible refine w_int1i ?_
  | with_reducible refine w_int1b ?_
  | ((with_reducible refine w_mod ?hc ?_); (case hc => omega))
  | ((with_reducible refine w_fdivW ?hc ?hd ?_); (case hc => omega); (case hd => omega))
  | ((with_reducible refine w_mul ?hc ?_); (case hc => first | exact Or.inr ⟨by decide, by decide⟩ | exact Or.inl ⟨by decide, by decide⟩))
  | ((with_reducible refine w_pow ?hc ?_); (case hc => exact ⟨by decide, by decide, by decide⟩)))
local macro_rules | `(tactic| walk_at "s1") => `(tactic| first
  | with_reducible refine w_seq ?_
  | with_reducible refine w_asg ?_
  | with_reducible refine w_ret ?_
  | with_reducible refine w_par ?_
  | with_reducible refine w_drop ?_
  | with_reducible refine w_next ?_
  | with_reducible refine w_ifs ?_
  | ((with_reducible refine' w_aug ?hv ?_); (case hv => rfl))
  | with_reducible refine w_for ?_
  | walk_at "e1")
local macro_rules | `(tactic| walk_at "e") => `(tactic| repeat walk_at "e1")
local macro_rules | `(tactic| walk_at "g") => `(tactic| repeat walk_at "s1")

namespace K11
open Dc Gk M5 M10 M8 M11 LamX
-- Pool.__init__: 0:self 1:disk 2:capacity
abbrev s_Pool___init__ : Stmt := inClass (top 27) 0
theorem sc_Pool___init__ : FnScope ["self", "disk", "capacity"] ["self", "disk", "capacity"] (defScope s_Pool___init__) := ⟨rfl, rfl, rfl, by decide +kernel, rfl, by decide +kernel, by decide +kernel⟩
-- Pool.page: 0:self 1:number 2:page
abbrev s_Pool_page : Stmt := inClass (top 27) 1
theorem sc_Pool_page : FnScope ["self", "number", "page"] ["self", "number"] (defScope s_Pool_page) := ⟨rfl, rfl, rfl, by decide +kernel, rfl, by decide +kernel, by decide +kernel⟩
-- Pool.put: 0:self 1:number 2:page 3:before
abbrev s_Pool_put : Stmt := inClass (top 27) 2
theorem sc_Pool_put : FnScope ["self", "number", "page", "before"] ["self", "number", "page"] (defScope s_Pool_put) := ⟨rfl, rfl, rfl, by decide +kernel, rfl, by decide +kernel, by decide +kernel⟩
-- Pool.group_images: 0:self 1:number
abbrev s_Pool_group_images : Stmt := inClass (top 27) 3
theorem sc_Pool_group_images : FnScope ["self", "number"] ["self"] (defScope s_Pool_group_images) := ⟨rfl, rfl, rfl, by decide +kernel, rfl, by decide +kernel, by decide +kernel⟩
-- Pool.close_group: 0:self
abbrev s_Pool_close_group : Stmt := inClass (top 27) 4
theorem sc_Pool_close_group : FnScope ["self"] ["self"] (defScope s_Pool_close_group) := ⟨rfl, rfl, rfl, by decide +kernel, rfl, by decide +kernel, by decide +kernel⟩
-- Pool.drop_group: 0:self 1:number
abbrev s_Pool_drop_group : Stmt := inClass (top 27) 5
theorem sc_Pool_drop_group : FnScope ["self", "number"] ["self"] (defScope s_Pool_drop_group) := ⟨rfl, rfl, rfl, by decide +kernel, rfl, by decide +kernel, by decide +kernel⟩
-- Pool.leave_group: 0:self 1:number 2:before 3:was_changed
abbrev s_Pool_leave_group : Stmt := inClass (top 27) 6
theorem sc_Pool_leave_group : FnScope ["self", "number", "before", "was_changed"] ["self", "number"] (defScope s_Pool_leave_group) := ⟨rfl, rfl, rfl, by decide +kernel, rfl, by decide +kernel, by decide +kernel⟩
-- Pool.flush: 0:self 1:number
abbrev s_Pool_flush : Stmt := inClass (top 27) 10
theorem sc_Pool_flush : FnScope ["self", "number"] ["self"] (defScope s_Pool_flush) := ⟨rfl, rfl, rfl, by decide +kernel, rfl, by decide +kernel, by decide +kernel⟩
-- Pool.write_page: 0:self 1:number
abbrev s_Pool_write_page : Stmt := inClass (top 27) 11
theorem sc_Pool_write_page : FnScope ["self", "number"] ["self", "number"] (defScope s_Pool_write_page) := ⟨rfl, rfl, rfl, by decide +kernel, rfl, by decide +kernel, by decide +kernel⟩
-- Pool.make_room: 0:self 1:many 2:number
abbrev s_Pool_make_room : Stmt := inClass (top 27) 12
theorem sc_Pool_make_room : FnScope ["self", "many", "number"] ["self", "many"] (defScope s_Pool_make_room) := ⟨rfl, rfl, rfl, by decide +kernel, rfl, by decide +kernel, by decide +kernel⟩
-- Pool.least_used: 0:self 1:number
abbrev s_Pool_least_used : Stmt := inClass (top 27) 13
theorem sc_Pool_least_used : FnScope ["self", "number"] ["self"] (defScope s_Pool_least_used) := ⟨rfl, rfl, rfl, by decide +kernel, rfl, by decide +kernel, by decide +kernel⟩
abbrev F8 (v1 v2 v3 v4 v5 v6 v7 v8 : V) : List (Str × V) := [(("disk" : Str), v1), (("capacity" : Str), v2), (("pages" : Str), v3), (("changed" : Str), v4), (("open_group" : Str), v5), (("parts" : Str), v6), (("reads" : Str), v7), (("writes" : Str), v8)]
structure Wp (K : PySem.W.Frag) (mg : Str → Option Value) (cPF cPg cDF cD aE cP : Addr) : Prop extends Wd K mg cPF cPg cDF cD aE where
  n_sorted : mg "sorted" = none
  q_cl : Cls K cP
  q_disk : NoAttr K cP "disk"
  q_capacity : NoAttr K cP "capacity"
  q_pages : NoAttr K cP "pages"
  q_changed : NoAttr K cP "changed"
  q_open_group : NoAttr K cP "open_group"
  q_parts : NoAttr K cP "parts"
  q_reads : NoAttr K cP "reads"
  q_writes : NoAttr K cP "writes"
  q_g : mg "Pool" = some (.ref cP)
  q_i : ∃ (f : Addr) (fd : FuncData), FunD K "__init__" "Pool.__init__" (defArgs s_Pool___init__) (defBody s_Pool___init__) (defScope s_Pool___init__) [] [] f fd ∧ Mk K cP f
  q_page : FnM K cP "page" "Pool.page" s_Pool_page
  q_put : FnM K cP "put" "Pool.put" s_Pool_put
  q_group_images : FnM K cP "group_images" "Pool.group_images" s_Pool_group_images
  q_close_group : FnM K cP "close_group" "Pool.close_group" s_Pool_close_group
  q_drop_group : FnM K cP "drop_group" "Pool.drop_group" s_Pool_drop_group
  q_leave_group : FnM K cP "leave_group" "Pool.leave_group" s_Pool_leave_group
  q_flush : FnM K cP "flush" "Pool.flush" s_Pool_flush
  q_write_page : FnM K cP "write_page" "Pool.write_page" s_Pool_write_page
  q_make_room : FnM K cP "make_room" "Pool.make_room" s_Pool_make_room
  q_least_used : FnM K cP "least_used" "Pool.least_used" s_Pool_least_used
section
variable {v1 v2 v3 v4 v5 v6 v7 v8 y : V} {K K' : PySem.W.Frag} {mg : Str → Option Value} {cPF cPg cDF cD aE cP : Addr} {H : Hp} {Q : VK} {x dx : Addr} {σ : L2.St} {i : Nat}
theorem l_disk : (F8 v1 v2 v3 v4 v5 v6 v7 v8).lookup ("disk" : Str) = some v1 := Dq.look1 (by decide +kernel)
theorem g_disk (W : Wp K mg cPF cPg cDF cD aE cP) (hK : K' = K) (hs : σ[i]? = some (some (.ref x))) (hx : H x = some (.ins cP dx (F8 v1 v2 v3 v4 v5 v6 v7 v8))) (q : Q v1 H) : tFld K' (tVar i) ("disk" : Str) σ H Q := by
  subst hK
  exact ⟨_, hs, x, cP, dx, _, _, rfl, hx, W.q_cl, W.q_disk, l_disk, q⟩
theorem put_disk : putF ("disk" : Str) y (F8 v1 v2 v3 v4 v5 v6 v7 v8) = F8 y v2 v3 v4 v5 v6 v7 v8 := Dq.putF_eq
theorem i_disk : putF ("disk" : Str) y [] = [(("disk" : Str), y)] := rfl
theorem l_capacity : (F8 v1 v2 v3 v4 v5 v6 v7 v8).lookup ("capacity" : Str) = some v2 := (Dq.look0 (by decide +kernel)).trans (Dq.look1 (by decide +kernel))
theorem g_capacity (W : Wp K mg cPF cPg cDF cD aE cP) (hK : K' = K) (hs : σ[i]? = some (some (.ref x))) (hx : H x = some (.ins cP dx (F8 v1 v2 v3 v4 v5 v6 v7 v8))) (q : Q v2 H) : tFld K' (tVar i) ("capacity" : Str) σ H Q := by
  subst hK
  exact ⟨_, hs, x, cP, dx, _, _, rfl, hx, W.q_cl, W.q_capacity, l_capacity, q⟩
theorem put_capacity : putF ("capacity" : Str) y (F8 v1 v2 v3 v4 v5 v6 v7 v8) = F8 v1 y v3 v4 v5 v6 v7 v8 := (Dq.putF_ne (by decide +kernel)).trans (Dq.pc1 (Dq.putF_eq))
theorem i_capacity : putF ("capacity" : Str) y [(("disk" : Str), v1)] = [(("disk" : Str), v1), (("capacity" : Str), y)] := (Dq.putF_ne (by decide +kernel)).trans (Dq.pc1 (rfl))
theorem l_pages : (F8 v1 v2 v3 v4 v5 v6 v7 v8).lookup ("pages" : Str) = some v3 := (Dq.look0 (by decide +kernel)).trans ((Dq.look0 (by decide +kernel)).trans (Dq.look1 (by decide +kernel)))
theorem g_pages (W : Wp K mg cPF cPg cDF cD aE cP) (hK : K' = K) (hs : σ[i]? = some (some (.ref x))) (hx : H x = some (.ins cP dx (F8 v1 v2 v3 v4 v5 v6 v7 v8))) (q : Q v3 H) : tFld K' (tVar i) ("pages" : Str) σ H Q := by
  subst hK
  exact ⟨_, hs, x, cP, dx, _, _, rfl, hx, W.q_cl, W.q_pages, l_pages, q⟩
theorem put_pages : putF ("pages" : Str) y (F8 v1 v2 v3 v4 v5 v6 v7 v8) = F8 v1 v2 y v4 v5 v6 v7 v8 := (Dq.putF_ne (by decide +kernel)).trans (Dq.pc1 ((Dq.putF_ne (by decide +kernel)).trans (Dq.pc1 (Dq.putF_eq))))
theorem i_pages : putF ("pages" : Str) y [(("disk" : Str), v1), (("capacity" : Str), v2)] = [(("disk" : Str), v1), (("capacity" : Str), v2), (("pages" : Str), y)] := (Dq.putF_ne (by decide +kernel)).trans (Dq.pc1 ((Dq.putF_ne (by decide +kernel)).trans (Dq.pc1 (rfl))))
theorem l_changed : (F8 v1 v2 v3 v4 v5 v6 v7 v8).lookup ("changed" : Str) = some v4 := (Dq.look0 (by decide +kernel)).trans ((Dq.look0 (by decide +kernel)).trans ((Dq.look0 (by decide +kernel)).trans (Dq.look1 (by decide +kernel))))
theorem g_changed (W : Wp K mg cPF cPg cDF cD aE cP) (hK : K' = K) (hs : σ[i]? = some (some (.ref x))) (hx : H x = some (.ins cP dx (F8 v1 v2 v3 v4 v5 v6 v7 v8))) (q : Q v4 H) : tFld K' (tVar i) ("changed" : Str) σ H Q := by
  subst hK
  exact ⟨_, hs, x, cP, dx, _, _, rfl, hx, W.q_cl, W.q_changed, l_changed, q⟩
theorem put_changed : putF ("changed" : Str) y (F8 v1 v2 v3 v4 v5 v6 v7 v8) = F8 v1 v2 v3 y v5 v6 v7 v8 := (Dq.putF_ne (by decide +kernel)).trans (Dq.pc1 ((Dq.putF_ne (by decide +kernel)).trans (Dq.pc1 ((Dq.putF_ne (by decide +kernel)).trans (Dq.pc1 (Dq.putF_eq))))))
theorem i_changed : putF ("changed" : Str) y [(("disk" : Str), v1), (("capacity" : Str), v2), (("pages" : Str), v3)] = [(("disk" : Str), v1), (("capacity" : Str), v2), (("pages" : Str), v3), (("changed" : Str), y)] := (Dq.putF_ne (by decide +kernel)).trans (Dq.pc1 ((Dq.putF_ne (by decide +kernel)).trans (Dq.pc1 ((Dq.putF_ne (by decide +kernel)).trans (Dq.pc1 (rfl))))))
theorem l_open_group : (F8 v1 v2 v3 v4 v5 v6 v7 v8).lookup ("open_group" : Str) = some v5 := (Dq.look0 (by decide +kernel)).trans ((Dq.look0 (by decide +kernel)).trans ((Dq.look0 (by decide +kernel)).trans ((Dq.look0 (by decide +kernel)).trans (Dq.look1 (by decide +kernel)))))
theorem g_open_group (W : Wp K mg cPF cPg cDF cD aE cP) (hK : K' = K) (hs : σ[i]? = some (some (.ref x))) (hx : H x = some (.ins cP dx (F8 v1 v2 v3 v4 v5 v6 v7 v8))) (q : Q v5 H) : tFld K' (tVar i) ("open_group" : Str) σ H Q := by
  subst hK
  exact ⟨_, hs, x, cP, dx, _, _, rfl, hx, W.q_cl, W.q_open_group, l_open_group, q⟩
theorem put_open_group : putF ("open_group" : Str) y (F8 v1 v2 v3 v4 v5 v6 v7 v8) = F8 v1 v2 v3 v4 y v6 v7 v8 := (Dq.putF_ne (by decide +kernel)).trans (Dq.pc1 ((Dq.putF_ne (by decide +kernel)).trans (Dq.pc1 ((Dq.putF_ne (by decide +kernel)).trans (Dq.pc1 ((Dq.putF_ne (by decide +kernel)).trans (Dq.pc1 (Dq.putF_eq))))))))
theorem i_open_group : putF ("open_group" : Str) y [(("disk" : Str), v1), (("capacity" : Str), v2), (("pages" : Str), v3), (("changed" : Str), v4)] = [(("disk" : Str), v1), (("capacity" : Str), v2), (("pages" : Str), v3), (("changed" : Str), v4), (("open_group" : Str), y)] := (Dq.putF_ne (by decide +kernel)).trans (Dq.pc1 ((Dq.putF_ne (by decide +kernel)).trans (Dq.pc1 ((Dq.putF_ne (by decide +kernel)).trans (Dq.pc1 ((Dq.putF_ne (by decide +kernel)).trans (Dq.pc1 (rfl))))))))
theorem l_parts : (F8 v1 v2 v3 v4 v5 v6 v7 v8).lookup ("parts" : Str) = some v6 := (Dq.look0 (by decide +kernel)).trans ((Dq.look0 (by decide +kernel)).trans ((Dq.look0 (by decide +kernel)).trans ((Dq.look0 (by decide +kernel)).trans ((Dq.look0 (by decide +kernel)).trans (Dq.look1 (by decide +kernel))))))
theorem g_parts (W : Wp K mg cPF cPg cDF cD aE cP) (hK : K' = K) (hs : σ[i]? = some (some (.ref x))) (hx : H x = some (.ins cP dx (F8 v1 v2 v3 v4 v5 v6 v7 v8))) (q : Q v6 H) : tFld K' (tVar i) ("parts" : Str) σ H Q := by
  subst hK
  exact ⟨_, hs, x, cP, dx, _, _, rfl, hx, W.q_cl, W.q_parts, l_parts, q⟩
theorem put_parts : putF ("parts" : Str) y (F8 v1 v2 v3 v4 v5 v6 v7 v8) = F8 v1 v2 v3 v4 v5 y v7 v8 := (Dq.putF_ne (by decide +kernel)).trans (Dq.pc1 ((Dq.putF_ne (by decide +kernel)).trans (Dq.pc1 ((Dq.putF_ne (by decide +kernel)).trans (Dq.pc1 ((Dq.putF_ne (by decide +kernel)).trans (Dq.pc1 ((Dq.putF_ne (by decide +kernel)).trans (Dq.pc1 (Dq.putF_eq))))))))))
theorem i_parts : putF ("parts" : Str) y [(("disk" : Str), v1), (("capacity" : Str), v2), (("pages" : Str), v3), (("changed" : Str), v4), (("open_group" : Str), v5)] = [(("disk" : Str), v1), (("capacity" : Str), v2), (("pages" : Str), v3), (("changed" : Str), v4), (("open_group" : Str), v5), (("parts" : Str), y)] := (Dq.putF_ne (by decide +kernel)).trans (Dq.pc1 ((Dq.putF_ne (by decide +kernel)).trans (Dq.pc1 ((Dq.putF_ne (by decide +kernel)).trans (Dq.pc1 ((Dq.putF_ne (by decide +kernel)).trans (Dq.pc1 ((Dq.putF_ne (by decide +kernel)).trans (Dq.pc1 (rfl))))))))))
theorem l_reads : (F8 v1 v2 v3 v4 v5 v6 v7 v8).lookup ("reads" : Str) = some v7 := (Dq.look0 (by decide +kernel)).trans ((Dq.look0 (by decide +kernel)).trans ((Dq.look0 (by decide +kernel)).trans ((Dq.look0 (by decide +kernel)).trans ((Dq.look0 (by decide +kernel)).trans ((Dq.look0 (by decide +kernel)).trans (Dq.look1 (by decide +kernel)))))))
theorem g_reads (W : Wp K mg cPF cPg cDF cD aE cP) (hK : K' = K) (hs : σ[i]? = some (some (.ref x))) (hx : H x = some (.ins cP dx (F8 v1 v2 v3 v4 v5 v6 v7 v8))) (q : Q v7 H) : tFld K' (tVar i) ("reads" : Str) σ H Q := by
  subst hK
  exact ⟨_, hs, x, cP, dx, _, _, rfl, hx, W.q_cl, W.q_reads, l_reads, q⟩
theorem put_reads : putF ("reads" : Str) y (F8 v1 v2 v3 v4 v5 v6 v7 v8) = F8 v1 v2 v3 v4 v5 v6 y v8 := (Dq.putF_ne (by decide +kernel)).trans (Dq.pc1 ((Dq.putF_ne (by decide +kernel)).trans (Dq.pc1 ((Dq.putF_ne (by decide +kernel)).trans (Dq.pc1 ((Dq.putF_ne (by decide +kernel)).trans (Dq.pc1 ((Dq.putF_ne (by decide +kernel)).trans (Dq.pc1 ((Dq.putF_ne (by decide +kernel)).trans (Dq.pc1 (Dq.putF_eq))))))))))))
theorem i_reads : putF ("reads" : Str) y [(("disk" : Str), v1), (("capacity" : Str), v2), (("pages" : Str), v3), (("changed" : Str), v4), (("open_group" : Str), v5), (("parts" : Str), v6)] = [(("disk" : Str), v1), (("capacity" : Str), v2), (("pages" : Str), v3), (("changed" : Str), v4), (("open_group" : Str), v5), (("parts" : Str), v6), (("reads" : Str), y)] := (Dq.putF_ne (by decide +kernel)).trans (Dq.pc1 ((Dq.putF_ne (by decide +kernel)).trans (Dq.pc1 ((Dq.putF_ne (by decide +kernel)).trans (Dq.pc1 ((Dq.putF_ne (by decide +kernel)).trans (Dq.pc1 ((Dq.putF_ne (by decide +kernel)).trans (Dq.pc1 ((Dq.putF_ne (by decide +kernel)).trans (Dq.pc1 (rfl))))))))))))
theorem l_writes : (F8 v1 v2 v3 v4 v5 v6 v7 v8).lookup ("writes" : Str) = some v8 := (Dq.look0 (by decide +kernel)).trans ((Dq.look0 (by decide +kernel)).trans ((Dq.look0 (by decide +kernel)).trans ((Dq.look0 (by decide +kernel)).trans ((Dq.look0 (by decide +kernel)).trans ((Dq.look0 (by decide +kernel)).trans ((Dq.look0 (by decide +kernel)).trans (Dq.look1 (by decide +kernel))))))))
theorem g_writes (W : Wp K mg cPF cPg cDF cD aE cP) (hK : K' = K) (hs : σ[i]? = some (some (.ref x))) (hx : H x = some (.ins cP dx (F8 v1 v2 v3 v4 v5 v6 v7 v8))) (q : Q v8 H) : tFld K' (tVar i) ("writes" : Str) σ H Q := by
  subst hK
  exact ⟨_, hs, x, cP, dx, _, _, rfl, hx, W.q_cl, W.q_writes, l_writes, q⟩
theorem put_writes : putF ("writes" : Str) y (F8 v1 v2 v3 v4 v5 v6 v7 v8) = F8 v1 v2 v3 v4 v5 v6 v7 y := (Dq.putF_ne (by decide +kernel)).trans (Dq.pc1 ((Dq.putF_ne (by decide +kernel)).trans (Dq.pc1 ((Dq.putF_ne (by decide +kernel)).trans (Dq.pc1 ((Dq.putF_ne (by decide +kernel)).trans (Dq.pc1 ((Dq.putF_ne (by decide +kernel)).trans (Dq.pc1 ((Dq.putF_ne (by decide +kernel)).trans (Dq.pc1 ((Dq.putF_ne (by decide +kernel)).trans (Dq.pc1 (Dq.putF_eq))))))))))))))
theorem i_writes : putF ("writes" : Str) y [(("disk" : Str), v1), (("capacity" : Str), v2), (("pages" : Str), v3), (("changed" : Str), v4), (("open_group" : Str), v5), (("parts" : Str), v6), (("reads" : Str), v7)] = [(("disk" : Str), v1), (("capacity" : Str), v2), (("pages" : Str), v3), (("changed" : Str), v4), (("open_group" : Str), v5), (("parts" : Str), v6), (("reads" : Str), v7), (("writes" : Str), y)] := (Dq.putF_ne (by decide +kernel)).trans (Dq.pc1 ((Dq.putF_ne (by decide +kernel)).trans (Dq.pc1 ((Dq.putF_ne (by decide +kernel)).trans (Dq.pc1 ((Dq.putF_ne (by decide +kernel)).trans (Dq.pc1 ((Dq.putF_ne (by decide +kernel)).trans (Dq.pc1 ((Dq.putF_ne (by decide +kernel)).trans (Dq.pc1 ((Dq.putF_ne (by decide +kernel)).trans (Dq.pc1 (rfl))))))))))))))
theorem mp_none {m : Str} (h : ([("disk" : Str), "capacity", "pages", "changed", "open_group", "parts", "reads", "writes"].all fun f => !(m == f)) = true) : (F8 v1 v2 v3 v4 v5 v6 v7 v8).lookup m = none := by
  simp only [List.all_cons, List.all_nil, Bool.and_true, Bool.and_eq_true, Bool.not_eq_true'] at h
  obtain ⟨h1, h2, h3, h4, h5, h6, h7, h8⟩ := h
  exact (Dq.look0 h1).trans ((Dq.look0 h2).trans ((Dq.look0 h3).trans ((Dq.look0 h4).trans ((Dq.look0 h5).trans ((Dq.look0 h6).trans ((Dq.look0 h7).trans ((Dq.look0 h8).trans (rfl))))))))
end
end K11
end

section
-- part K11K
set_option Elab.async false
set_option linter.all false
set_option maxRecDepth 100000
set_option maxHeartbeats 800000
open PySem PySem.Spec PyProof.Rows L2 Fw
local macro_rules | `(tactic| walk_at "e1") => `(tactic| first
  | ((with_reducible refine' w_var ?hv ?_); (case hv => rfl))
  | with_reducible refine w_c ?_
  | with_reducible refine w_op ?_
  | with_reducible refine w_un ?_
  | with_reducible refine w_cons ?_
  | with_reducible refine w_nil ?_
  | with_reducible refine w_cl ?_
  | with_reducible refine w_cb ?_
  | with_reducible refine w_gname ?_
  | with_reducible refine w_gsub ?_
  | with_reducible refine w_test ?_
  | with_reducible refine w_B ?_
  | with_reducible refine w_bl ?_
  | with_reducible refine w_and ?_
  | with_reducible refine w_or ?_
  | with_reducible refine w_not ?_
  | with_reducible refine w_if ?_
  | with_reducible refine w_I0 ?_
  | with_reducible refine Gk.w_rU ?_
  | with_reducible refine Dq.w_orV ?_
  | with_reducible refine Dq.w_js ?_
  | with_reducible refine Dq.w_js0 ?_
  | with_reducible refine Dq.w_fm ?_
  | with_reducible refine Dq.w_andV ?_
  | with_reducible refine Gk.w_iEnum ?_
  | with_reducible refine Dq.w_dget ?_
  | with_reducible refine Dq.w_dpop1 ?_
  | with_reducible refine Dq.w_ddel ?_
  | with_reducible refine Dq.w_din ?_
  | with_reducible refine Dq.w_dnotin ?_
  | with_reducible refine Dq.w_dget2 ?_
  | with_reducible refine Dq.w_dnew ?_
  | with_reducible refine Dq.w_fldaug ?_
  | with_reducible refine Dq.w_aSub ?_
  | with_reducible refine Dq.w_aAdd ?_
  | with_reducible refine Dq.w_mkd ?_
  | with_reducible refine Dq.w_notN0 ?_
  | with_reducible refine Dq.w_isN0 ?_
  | with_reducible refine Dq.w_notNR ?_
  | with_reducible refine Dq.w_isNR ?_
  | with_reducible refine Dq.w_notNI ?_
  | with_reducible refine Dq.w_isNI ?_
  | with_reducible refine L2.w_neOs ?_
  | with_reducible refine w_ipI ?_
  | with_reducible refine w_eqS ?_
  | with_reducible refine w_neS ?_
  | with_reducible refine w_eqI ?_
  | with_reducible refine w_neI ?_
  | with_reducible refine w_eqB ?_
  | with_reducible refine w_neB ?_
  | ((with_reducible refine w_eq ?hs ?_); (case hs => rfl))
  | ((with_reducible refine w_ne ?hs ?_); (case hs => rfl))
  | with_reducible refine w_fld ?_
  | with_reducible refine w_bm ?_
  | with_reducible refine w_bm0 ?_
  | with_reducible refine w_sl ?_
  | with_reducible refine w_part ?_
  | with_reducible refine w_partI ?_
  | with_reducible refine w_nopart ?_
  | ((with_reducible refine' w_ixL ?hh ?ha ?_); (case hh => first | assumption | exact upd_same); (case ha => rfl))
  | ((with_reducible refine' w_setLu ?ha ?_); (case ha => rfl))
  | ((with_reducible refine' w_setL ?hh ?ha ?_); (case hh => first | assumption | exact upd_same); (case ha => rfl))
  | with_reducible refine w_iteT ?_
  | with_reducible refine w_iteF ?_
  | with_reducible refine w_lst ?_
  | with_reducible refine w_tup ?_
  | ((with_reducible refine w_new ?hz ?_); (case hz => rfl))
  | with_reducible refine w_lc ?_
  | with_reducible refine w_iL ?_
  | with_reducible refine w_iT ?_
  | with_reducible refine w_iR1 ?_
  | with_reducible refine w_iR2 ?_
  | with_reducible refine w_yes ?_
  | with_reducible refine w_iStr ?_
  | with_reducible exact tyS
  | with_reducible refine And.intro tyS ?_
  | ((with_reducible refine w_find3 ?_); (first | rw [find3_one] | rw [starts3] | skip))
  | ((with_reducible refine w_2s ?_); (try rw [find_one]))
  | ((with_reducible refine w_inS ?_); rw [S_list])
  | ((with_reducible refine w_lenS ?hz ?_); (case hz => first | assumption | omega | decide); rw [SX.S_len])
  | ((with_reducible refine w_addS ?hz ?_); (case hz => first | assumption | omega | decide); rw [vS_cat])
  | with_reducible refine w_mk ?_
  | with_reducible refine w_me ?_
  | with_reducible refine w_sfld ?_
  | ((with_reducible refine' w_gtup ?hh ?hn ?_); (case hh => first | assumption | exact upd_same); (case hn => rfl))
  | with_reducible refine w_gcons ?_
  | with_reducible refine w_gnil ?_
  | with_reducible refine w_repl ?_
  | with_reducible refine w_star ?_
  | with_reducible refine w_revL ?_
  | with_reducible refine w_isiS ?_
  | with_reducible refine w_isiI ?_
  | with_reducible refine w_isiN ?_
  | with_reducible refine w_chain ?_
  | with_reducible refine w_iEnumT ?_
  | with_reducible refine w_iZip3 ?_
  | with_reducible refine w_iZip ?_
  | with_reducible refine w_lenR3 ?_
  | with_reducible refine w_x1i ?_
  | with_reducible refine w_x1b ?_
  | with_reducible refine w_x1s ?_
  | with_reducible refine w_int1i ?_
  | with_reducible refine w_int1b ?_
  | ((with_reducible refine w_mod ?hc ?_); (case hc => omega))
  | ((with_reducible refine w_fdivW ?hc ?hd ?_); (case hc => omega); (case hd => omega))
  | ((with_reducible refine w_mul ?hc ?_); (case hc => first | exact Or.inr ⟨by decide, by decide⟩ | exact Or.inl ⟨by decide, by decide⟩))
  | ((with_reducible refine w_pow ?hc ?_); (case hc => exact ⟨by decide, by decide, by decide⟩)))
local macro_rules | `(tactic| walk_at "f1") => `(tactic| first
  | ((with_reducible refine' K11.g_disk ?hW ?hK ?hs ?hx ?_); (case hW => assumption); (case hK => rfl); (case hs => rfl); (case hx => first | assumption | exact upd_same))
  | ((with_reducible refine' K11.g_capacity ?hW ?hK ?hs ?hx ?_); (case hW => assumption); (case hK => rfl); (case hs => rfl); (case hx => first | assumption | exact upd_same))
  | ((with_reducible refine' K11.g_pages ?hW ?hK ?hs ?hx ?_); (case hW => assumption); (case hK => rfl); (case hs => rfl); (case hx => first | assumption | exact upd_same))
  | ((with_reducible refine' K11.g_changed ?hW ?hK ?hs ?hx ?_); (case hW => assumption); (case hK => rfl); (case hs => rfl); (case hx => first | assumption | exact upd_same))
  | ((with_reducible refine' K11.g_open_group ?hW ?hK ?hs ?hx ?_); (case hW => assumption); (case hK => rfl); (case hs => rfl); (case hx => first | assumption | exact upd_same))
  | ((with_reducible refine' K11.g_parts ?hW ?hK ?hs ?hx ?_); (case hW => assumption); (case hK => rfl); (case hs => rfl); (case hx => first | assumption | exact upd_same))
  | ((with_reducible refine' K11.g_reads ?hW ?hK ?hs ?hx ?_); (case hW => assumption); (case hK => rfl); (case hs => rfl); (case hx => first | assumption | exact upd_same))
  | ((with_reducible refine' K11.g_writes ?hW ?hK ?hs ?hx ?_); (case hW => assumption); (case hK => rfl); (case hs => rfl); (case hx => first | assumption | exact upd_same))
  | ((with_reducible refine' K11.g_block_size ?hW ?hK ?hs ?hx ?_); (case hW => assumption); (case hK => rfl); (case hs => rfl); (case hx => first | assumption | exact upd_same))
  | ((with_reducible refine' K11.g_blocks ?hW ?hK ?hs ?hx ?_); (case hW => assumption); (case hK => rfl); (case hs => rfl); (case hx => first | assumption | exact upd_same))
  | ((with_reducible refine' K11.g_log ?hW ?hK ?hs ?hx ?_); (case hW => assumption); (case hK => rfl); (case hs => rfl); (case hx => first | assumption | exact upd_same))
  | ((with_reducible refine' K11.g_waiting ?hW ?hK ?hs ?hx ?_); (case hW => assumption); (case hK => rfl); (case hs => rfl); (case hx => first | assumption | exact upd_same))
  | ((with_reducible refine' K11.g_written ?hW ?hK ?hs ?hx ?_); (case hW => assumption); (case hK => rfl); (case hs => rfl); (case hx => first | assumption | exact upd_same))
  | ((with_reducible refine' K11.g_log_tail ?hW ?hK ?hs ?hx ?_); (case hW => assumption); (case hK => rfl); (case hs => rfl); (case hx => first | assumption | exact upd_same))
  | ((with_reducible refine' K11.g_fuse ?hW ?hK ?hs ?hx ?_); (case hW => assumption); (case hK => rfl); (case hs => rfl); (case hx => first | assumption | exact upd_same))
  | ((with_reducible refine' K11.g_dead ?hW ?hK ?hs ?hx ?_); (case hW => assumption); (case hK => rfl); (case hs => rfl); (case hx => first | assumption | exact upd_same))
  | ((with_reducible refine' K11.g_steps ?hW ?hK ?hs ?hx ?_); (case hW => assumption); (case hK => rfl); (case hs => rfl); (case hx => first | assumption | exact upd_same))
  | walk_at "e1")
local macro_rules | `(tactic| walk_at "s1") => `(tactic| first
  | with_reducible refine w_seq ?_
  | with_reducible refine w_asg ?_
  | with_reducible refine w_ret ?_
  | with_reducible refine w_par ?_
  | with_reducible refine w_drop ?_
  | with_reducible refine w_next ?_
  | with_reducible refine w_ifs ?_
  | ((with_reducible refine' w_aug ?hv ?_); (case hv => rfl))
  | with_reducible refine w_for ?_
  | walk_at "f1")
local macro_rules | `(tactic| walk_at "e") => `(tactic| repeat walk_at "e1")
local macro_rules | `(tactic| walk_at "g") => `(tactic| repeat walk_at "s1")

namespace K11
open Dc Gk M5 M10 M8 M11 LamX
/-- the pool as data -/
structure PS where
  pg : List (Key × V)
  ch : List (Key × V)
  og : List (Key × V)
  rd : Int
  wr : Int
structure PoolO (K : PySem.W.Frag) (C : Addr) (H : Hp) (x d : Addr) (cap : Int) (pA cA oA : Addr) (S : PS) : Prop where
  ex : ∃ dx rA : Addr, H x = some (.ins C dx (F8 (.ref d) (.int cap) (.ref pA) (.ref cA) (.ref oA) (.ref rA) (.int S.rd) (.int S.wr))) ∧ H rA = some (.lst [])
  pg : H pA = some (.dK S.pg)
  ch : H cA = some (.dK S.ch)
  og : H oA = some (.dK S.og)
  ne : pA ≠ cA ∧ pA ≠ oA ∧ cA ≠ oA
def IntK (kvs : List (Key × V)) : Prop := ∀ p ∈ kvs, ∃ n : Int, p.1 = .inl n
section
variable {P : Program} {w : World} {K : PySem.W.Frag} {mg : Str → Option Value} {base : Heap} {cPF cPg cDF cD aE cP : Addr}
/-- any page that is not of the open group -/
def spLeast (K : PySem.W.Frag) (cP : Addr) : Sp := fun vs H Q _ => ∃ (x d : Addr) (cap : Int) (pA cA oA : Addr) (S : PS), vs = [.ref x] ∧ PoolO K cP H x d cap pA cA oA S ∧ IntK S.pg ∧ (∃ p ∈ S.pg, valV S.og p.1 = none) ∧
  ∀ (n : Int) (v : V), (.inl n, v) ∈ S.pg → valV S.og (.inl n) = none → Q (.int n) H
theorem ok_least_used (W : Wp K mg cPF cPg cDF cD aE cP) : Me P w K mg base 1 cP "least_used" (spLeast K cP) := by
  refine me_mk W.q_least_used W.q_cl sc_Pool_least_used (fun _ _ _ _ _ _ us hl => match us, hl with | [_], _ => rfl) (fun vs H Q E h => ?_) (fun f cdv A outer s H vs Q E hr h => ?_)
  · obtain ⟨x, d, cap, pA, cA, oA, S, rfl, _⟩ := h; rfl
  obtain ⟨x, d, cap, pA, cA, oA, S, rfl, po, ik, ⟨p0, hp0, hn0⟩, q⟩ := h
  obtain ⟨dx, rA, hx, hr0⟩ := po.ex
  refine ⟨_, (pss_cons (ps_lock (ps_for (passes_of rfl) rfl (pi_keys (pe_fld (pv 0) rfl)) (pg_name (i := 1) sc_Pool_least_used.nd rfl (Or.inl rfl))
    (pss_one (ps_if (pt_cmp (pc_dnotin (hu_of hr) (pv 1) (pe_fld (pv 0) rfl)) (by with_unfolding_all rfl))
    (pss_one (ps_ret (pv 1)))
    pss_nil))))
    (pss_one (ps_ret pe_non))), ?_⟩
  have nxp : x ≠ pA := ne_of hx po.pg (fun z => by cases z)
  have hl : ∀ o : Obj, upd H pA (.frz o (.dK S.pg)) x = some (.ins cP dx (F8 (.ref d) (.int cap) (.ref pA) (.ref cA) (.ref oA) (.ref rA) (.int S.rd) (.int S.wr))) := fun o => (upd_ne nxp).trans hx
  walk_at "g"
  refine Dq.w_forK po.pg (fun o R h => g_pages W rfl rfl (hl o) h) (fun o => ⟨fun i σ' H' => (∃ v1 : Option V, σ' = [some (.ref x), v1]) ∧ H' = upd H pA (.frz o (.dK S.pg)) ∧ ∀ p ∈ S.pg.take i, ∃ v, valV S.og p.1 = some v, ⟨⟨none, rfl⟩, rfl, fun p hp => by simp at hp⟩, ?_, ?_, ?_⟩)
  · rintro i σ' H' _ ⟨_, rfl, _⟩
    exact upd_same
  · rintro i k v σ' H' hi ⟨⟨v1, rfl⟩, rfl, hb⟩
    obtain ⟨n, rfl⟩ : ∃ n, k = .inl n := ik _ (List.mem_of_getElem? hi)
    have hx' := hl o
    have ho' : upd H pA (.frz o (.dK S.pg)) oA = some (.dK S.og) := (upd_ne po.ne.2.1.symm).trans po.og
    walk_at "g"
    refine ⟨oA, _, rfl, DGet.k (k := .inl n) ho', ?_⟩
    cases e : valV S.og (.inl n) with
    | none =>
      rw [Option.isSome_none, Bool.not_false]
      walk_at "g"
      refine ⟨upd_same, ?_⟩
      rw [upd_upd, Dq.upd_id po.pg]
      exact q n v (List.mem_of_getElem? hi) e
    | some u =>
      rw [Option.isSome_some, Bool.not_true]
      walk_at "g"
      refine ⟨⟨_, rfl⟩, rfl, fun p hp => ?_⟩
      rw [List.take_add_one, hi] at hp
      rcases List.mem_append.mp hp with hp | hp
      · exact hb p hp
      · have z : p = (.inl n, v) := by simpa using hp
        rw [z]
        exact ⟨u, e⟩
  · rintro σ' H' ⟨⟨v1, rfl⟩, rfl, hb⟩
    rw [List.take_length] at hb
    obtain ⟨v, z⟩ := hb p0 hp0
    rw [hn0] at z
    cases z
end
end K11
end

section
-- part K11L
set_option Elab.async false
set_option linter.all false
set_option maxRecDepth 100000
set_option maxHeartbeats 800000
open PySem PySem.Spec PyProof.Rows L2 Fw
local macro_rules | `(tactic| walk_at "e1") => `(tactic| first
  | ((with_reducible refine' w_var ?hv ?_); (case hv => rfl))
  | with_reducible refine w_c ?_
  | with_reducible refine w_op ?_
  | with_reducible refine w_un ?_
  | with_reducible refine w_cons ?_
  | with_reducible refine w_nil ?_
  | with_reducible refine w_cl ?_
  | with_reducible refine w_cb ?_
  | with_reducible refine w_gname ?_
  | with_reducible refine w_gsub ?_
  | with_reducible refine w_test ?_
  | with_reducible refine w_B ?_
  | with_reducible refine w_bl ?_
  | with_reducible refine w_and ?_
  | with_reducible refine w_or ?_
  | with_reducible refine w_not ?_
  | with_reducible refine w_if ?_
  | with_reducible refine w_I0 ?_
  | with_reducible refine Gk.w_rU ?_
  | with_reducible refine Dq.w_orV ?_
  | with_reducible refine Dq.w_js ?_
  | with_reducible refine Dq.w_js0 ?_
  | with_reducible refine Dq.w_fm ?_
  | with_reducible refine Dq.w_andV ?_
  | with_reducible refine Gk.w_iEnum ?_
  | with_reducible refine Dq.w_dget ?_
  | with_reducible refine Dq.w_dpop1 ?_
  | with_reducible refine Dq.w_ddel ?_
  | with_reducible refine Dq.w_din ?_
  | with_reducible refine Dq.w_dnotin ?_
  | with_reducible refine Dq.w_dget2 ?_
  | with_reducible refine Dq.w_dnew ?_
  | with_reducible refine Dq.w_fldaug ?_
  | with_reducible refine Dq.w_aSub ?_
  | with_reducible refine Dq.w_aAdd ?_
  | with_reducible refine Dq.w_mkd ?_
  | with_reducible refine Dq.w_notN0 ?_
  | with_reducible refine Dq.w_isN0 ?_
  | with_reducible refine Dq.w_notNR ?_
  | with_reducible refine Dq.w_isNR ?_
  | with_reducible refine Dq.w_notNI ?_
  | with_reducible refine Dq.w_isNI ?_
  | with_reducible refine L2.w_neOs ?_
  | with_reducible refine w_ipI ?_
  | with_reducible refine w_eqS ?_
  | with_reducible refine w_neS ?_
  | with_reducible refine w_eqI ?_
  | with_reducible refine w_neI ?_
  | with_reducible refine w_eqB ?_
  | with_reducible refine w_neB ?_
  | ((with_reducible refine w_eq ?hs ?_); (case hs => rfl))
  | ((with_reducible refine w_ne ?hs ?_); (case hs => rfl))
  | with_reducible refine w_fld ?_
  | with_reducible refine w_bm ?_
  | with_reducible refine w_bm0 ?_
  | with_reducible refine w_sl ?_
  | with_reducible refine w_part ?_
  | with_reducible refine w_partI ?_
  | with_reducible refine w_nopart ?_
  | ((with_reducible refine' w_ixL ?hh ?ha ?_); (case hh => first | assumption | exact upd_same); (case ha => rfl))
  | ((with_reducible refine' w_setLu ?ha ?_); (case ha => rfl))
  | ((with_reducible refine' w_setL ?hh ?ha ?_); (case hh => first | assumption | exact upd_same); (case ha => rfl))
  | with_reducible refine w_iteT ?_
  | with_reducible refine w_iteF ?_
  | with_reducible refine w_lst ?_
  | with_reducible refine w_tup ?_
  | ((with_reducible refine w_new ?hz ?_); (case hz => rfl))
  | with_reducible refine w_lc ?_
  | with_reducible refine w_iL ?_
  | with_reducible refine w_iT ?_
  | with_reducible refine w_iR1 ?_
  | with_reducible refine w_iR2 ?_
  | with_reducible refine w_yes ?_
  | with_reducible refine w_iStr ?_
  | with_reducible exact tyS
  | with_reducible refine And.intro tyS ?_
  | ((with_reducible refine w_find3 ?_); (first | rw [find3_one] | rw [starts3] | skip))
  | ((with_reducible refine w_2s ?_); (try rw [find_one]))
  | ((with_reducible refine w_inS ?_); rw [S_list])
  | ((with_reducible refine w_lenS ?hz ?_); (case hz => first | assumption | omega | decide); rw [SX.S_len])
  | ((with_reducible refine w_addS ?hz ?_); (case hz => first | assumption | omega | decide); rw [vS_cat])
  | with_reducible refine w_mk ?_
  | with_reducible refine w_me ?_
  | with_reducible refine w_sfld ?_
  | ((with_reducible refine' w_gtup ?hh ?hn ?_); (case hh => first | assumption | exact upd_same); (case hn => rfl))
  | with_reducible refine w_gcons ?_
  | with_reducible refine w_gnil ?_
  | with_reducible refine w_repl ?_
  | with_reducible refine w_star ?_
  | with_reducible refine w_revL ?_
  | with_reducible refine w_isiS ?_
  | with_reducible refine w_isiI ?_
  | with_reducible refine w_isiN ?_
  | with_reducible refine w_chain ?_
  | with_reducible refine w_iEnumT ?_
  | with_reducible refine w_iZip3 ?_
  | with_reducible refine w_iZip ?_
  | with_reducible refine w_lenR3 ?_
  | with_reducible refine w_x1i ?_
  | with_reducible refine w_x1b ?_
  | with_reducible refine w_x1s ?_
  | with_reducible refine w_int1i ?_
  | with_reducible refine w_int1b ?_
  | ((with_reducible refine w_mod ?hc ?_); (case hc => omega))
  | ((with_reducible refine w_fdivW ?hc ?hd ?_); (case hc => omega); (case hd => omega))
  | ((with_reducible refine w_mul ?hc ?_); (case hc => first | exact Or.inr ⟨by decide, by decide⟩ | exact Or.inl ⟨by decide, by decide⟩))
  | ((with_reducible refine w_pow ?hc ?_); (case hc => exact ⟨by decide, by decide, by decide⟩)))
local macro_rules | `(tactic| walk_at "f1") => `(tactic| first
  | ((with_reducible refine' K11.g_disk ?hW ?hK ?hs ?hx ?_); (case hW => assumption); (case hK => rfl); (case hs => rfl); (case hx => first | assumption | exact upd_same))
  | ((with_reducible refine' K11.g_capacity ?hW ?hK ?hs ?hx ?_); (case hW => assumption); (case hK => rfl); (case hs => rfl); (case hx => first | assumption | exact upd_same))
  | ((with_reducible refine' K11.g_pages ?hW ?hK ?hs ?hx ?_); (case hW => assumption); (case hK => rfl); (case hs => rfl); (case hx => first | assumption | exact upd_same))
  | ((with_reducible refine' K11.g_changed ?hW ?hK ?hs ?hx ?_); (case hW => assumption); (case hK => rfl); (case hs => rfl); (case hx => first | assumption | exact upd_same))
  | ((with_reducible refine' K11.g_open_group ?hW ?hK ?hs ?hx ?_); (case hW => assumption); (case hK => rfl); (case hs => rfl); (case hx => first | assumption | exact upd_same))
  | ((with_reducible refine' K11.g_parts ?hW ?hK ?hs ?hx ?_); (case hW => assumption); (case hK => rfl); (case hs => rfl); (case hx => first | assumption | exact upd_same))
  | ((with_reducible refine' K11.g_reads ?hW ?hK ?hs ?hx ?_); (case hW => assumption); (case hK => rfl); (case hs => rfl); (case hx => first | assumption | exact upd_same))
  | ((with_reducible refine' K11.g_writes ?hW ?hK ?hs ?hx ?_); (case hW => assumption); (case hK => rfl); (case hs => rfl); (case hx => first | assumption | exact upd_same))
  | ((with_reducible refine' K11.g_block_size ?hW ?hK ?hs ?hx ?_); (case hW => assumption); (case hK => rfl); (case hs => rfl); (case hx => first | assumption | exact upd_same))
  | ((with_reducible refine' K11.g_blocks ?hW ?hK ?hs ?hx ?_); (case hW => assumption); (case hK => rfl); (case hs => rfl); (case hx => first | assumption | exact upd_same))
  | ((with_reducible refine' K11.g_log ?hW ?hK ?hs ?hx ?_); (case hW => assumption); (case hK => rfl); (case hs => rfl); (case hx => first | assumption | exact upd_same))
  | ((with_reducible refine' K11.g_waiting ?hW ?hK ?hs ?hx ?_); (case hW => assumption); (case hK => rfl); (case hs => rfl); (case hx => first | assumption | exact upd_same))
  | ((with_reducible refine' K11.g_written ?hW ?hK ?hs ?hx ?_); (case hW => assumption); (case hK => rfl); (case hs => rfl); (case hx => first | assumption | exact upd_same))
  | ((with_reducible refine' K11.g_log_tail ?hW ?hK ?hs ?hx ?_); (case hW => assumption); (case hK => rfl); (case hs => rfl); (case hx => first | assumption | exact upd_same))
  | ((with_reducible refine' K11.g_fuse ?hW ?hK ?hs ?hx ?_); (case hW => assumption); (case hK => rfl); (case hs => rfl); (case hx => first | assumption | exact upd_same))
  | ((with_reducible refine' K11.g_dead ?hW ?hK ?hs ?hx ?_); (case hW => assumption); (case hK => rfl); (case hs => rfl); (case hx => first | assumption | exact upd_same))
  | ((with_reducible refine' K11.g_steps ?hW ?hK ?hs ?hx ?_); (case hW => assumption); (case hK => rfl); (case hs => rfl); (case hx => first | assumption | exact upd_same))
  | walk_at "e1")
local macro_rules | `(tactic| walk_at "s1") => `(tactic| first
  | with_reducible refine w_seq ?_
  | with_reducible refine w_asg ?_
  | with_reducible refine w_ret ?_
  | with_reducible refine w_par ?_
  | with_reducible refine w_drop ?_
  | with_reducible refine w_next ?_
  | with_reducible refine w_ifs ?_
  | ((with_reducible refine' w_aug ?hv ?_); (case hv => rfl))
  | with_reducible refine w_for ?_
  | walk_at "f1")
local macro_rules | `(tactic| walk_at "e") => `(tactic| repeat walk_at "e1")
local macro_rules | `(tactic| walk_at "g") => `(tactic| repeat walk_at "s1")

namespace K11
open Dc Gk M5 M10 M8 M11 LamX
section
variable {P : Program} {w : World} {K : PySem.W.Frag} {mg : Str → Option Value} {base : Heap} {cPF cPg cDF cD aE cP : Addr}
/-- a page is written to the disk -/
def spWP (K : PySem.W.Frag) (cPg cD cP : Addr) : Sp := fun vs H Q _ => ∃ (x d : Addr) (cap : Int) (pA cA oA : Addr) (S : PS) (bA qA wA : Addr) (D : DS) (n : Int) (p : Addr) (k l : Int) (cs : List Cel), vs = [.ref x, .int n] ∧ PoolO K cP H x d cap pA cA oA S ∧ DskO K cD H d bA qA wA D ∧
  [x, pA, cA, oA, d, bA, qA, wA].Nodup ∧
  valV S.pg (.inl n) = some (.ref p) ∧ PgO K cPg H p k l cs ∧ cs.length ≤ 70000 ∧ sizeL cs ≤ 96 ∧ (valV S.ch (.inl n)).isSome = true ∧ D.ok = true ∧ D.ws.length ≤ 1000 ∧ D.wr.length ≤ 1000 ∧
  ∀ a H', Cs [x, cA, d, qA, wA] H H' → SqT K H' a ((pageB k l cs 96).map V.int) → DskO K cD H' d bA qA wA (D.write n a) → (∀ dx rA, H x = some (.ins cP dx (F8 (.ref d) (.int cap) (.ref pA) (.ref cA) (.ref oA) (.ref rA) (.int S.rd) (.int S.wr))) → H' x = some (.ins cP dx (F8 (.ref d) (.int cap) (.ref pA) (.ref cA) (.ref oA) (.ref rA) (.int S.rd) (.int (S.wr + 1))))) → H' cA = some (.dK (dropK S.ch (.inl n))) → Q .non H'
theorem ok_write_page (W : Wp K mg cPF cPg cDF cD aE cP) (c_page_bytes : Cl P w K mg base 3 "page_bytes" (spBytes K cPg cPF)) (c_Disk_write_block : Me P w K mg base 2 cD "write_block" (spWrite K cDF cD)) : Me P w K mg base 4 cP "write_page" (spWP K cPg cD cP) := by
  refine me_mk W.q_write_page W.q_cl sc_Pool_write_page (fun _ _ _ _ _ _ us hl => match us, hl with | [_, _], _ => rfl) (fun vs H Q E h => ?_) (fun f cdv A outer s H vs Q E hr h => ?_)
  · obtain ⟨x, d, cap, pA, cA, oA, S, bA, qA, wA, D, n, p, k, l, cs, rfl, _⟩ := h; rfl
  obtain ⟨x, d, cap, pA, cA, oA, S, bA, qA, wA, D, n, p, k, l, cs, rfl, po, dk, nd, hp, pgo, hcl, hsz, hch, hok, hw1, hw2, q⟩ := h
  obtain ⟨dx, rA, hx, hr0⟩ := po.ex
  obtain ⟨ddx, lB, tB, zs, hd, h2, h3, h4, h5⟩ := id dk.ex
  refine ⟨_, (pss_cons (ps_expr (pe_me c_Disk_write_block hr (by decide) passD (pe_fld (pv 0) rfl) (pa_cons (pv 1) (pa_cons (pe_cl c_page_bytes hr (by decide) rfl passD (pa_cons (pe_dget (hu_of hr) (pe_fld (pv 0) rfl) (pv 1) (fun _ _ => rfl)) (pa_cons (pe_fld (pe_fld (pv 0) rfl) rfl) pa_nil))) pa_nil))))
    (pss_cons (ps_fldaug (pv 0) pe_int in_add)
    (pss_one (ps_ddel (pe_fld (pv 0) rfl) (pv 1))))), ?_⟩
  walk_at "g"
  refine ⟨d, ddx, _, rfl, hd, m_none (by decide +kernel), ?_⟩
  walk_at "g"
  refine ⟨pA, .ref p, rfl, hp ▸ DGet.k (k := .inl n) po.pg, ?_⟩
  walk_at "g"
  refine ⟨d, cD, ddx, _, _, rfl, hd, W.k_cl, W.k_block_size, l_block_size, ?_⟩
  walk_at "g"
  refine ⟨p, k, l, cs, 96, rfl, pgo, hcl, by decide, fun _ a H1 s1 f1 e1 => ?_, fun z => by omega⟩
  walk_at "g"
  refine ⟨d, bA, qA, wA, D, n, a, pageB k l cs 96, rfl, dk.sm s1, SqT.of e1, hw1, hw2, fun z => absurd (page_len hsz) z, fun _ => ⟨fun H2 s2 d2 _ => ?_, fun H2 s2 d2 z => by rw [hok] at z; cases z⟩⟩
  simp only [List.nodup_cons, List.mem_cons, List.not_mem_nil, or_false, not_or, not_false_eq_true, List.nodup_nil, and_true] at nd
  obtain ⟨⟨n1, n2, n3, n4, n5, n6, n7⟩, _, ⟨_, c3, c4, c5, c6⟩, _⟩ := nd
  have hx2 := s2.ch.ins (s1 _ _ hx) (by simp only [List.mem_cons, List.not_mem_nil, or_false, not_or]; exact ⟨n4, n6, n7⟩)
  have hc2 := s2.ch.dk (s1 _ _ po.ch) (by simp only [List.mem_cons, List.not_mem_nil, or_false, not_or]; exact ⟨c3, c5, c6⟩)
  have s12 : Cs [x, cA, d, qA, wA] H H2 := (Cs.of s1).trans (s2.le fun b hb => by
    simp only [List.mem_cons, List.not_mem_nil, or_false] at hb ⊢
    rcases hb with z | z | z
    · exact .inr (.inr (.inl z))
    · exact .inr (.inr (.inr (.inl z)))
    · exact .inr (.inr (.inr (.inr z))))
  walk_at "g"
  refine ⟨_, _, _, _, _, rfl, hx2, W.q_cl, W.q_writes, l_writes, ?_⟩
  walk_at "g"
  refine ⟨_, _, hx2, by show 8 < 1000; decide, ?_⟩
  rw [put_writes]
  have s3 : Cs [x] H2 (upd H2 x (.ins cP dx (F8 (.ref d) (.int cap) (.ref pA) (.ref cA) (.ref oA) (.ref rA) (.int S.rd) (.int (S.wr + 1))))) := (Cs.refl _ _).wr mem1 hx2 trivial
  have hx3 : upd H2 x (.ins cP dx (F8 (.ref d) (.int cap) (.ref pA) (.ref cA) (.ref oA) (.ref rA) (.int S.rd) (.int (S.wr + 1)))) x = some (.ins cP dx (F8 (.ref d) (.int cap) (.ref pA) (.ref cA) (.ref oA) (.ref rA) (.int S.rd) (.int (S.wr + 1)))) := upd_same
  generalize upd H2 x (.ins cP dx (F8 (.ref d) (.int cap) (.ref pA) (.ref cA) (.ref oA) (.ref rA) (.int S.rd) (.int (S.wr + 1)))) = H3 at s3 hx3
  have hc3 := s3.ch.dk hc2 (fun z => n2 (List.mem_singleton.mp z).symm)
  have nx : ∀ {b}, ¬ x = b → b ∉ [x] := fun h z => h (List.mem_singleton.mp z).symm
  have d3 := d2.ch s3.ch (nx n4) (nx n5) (nx n6) (nx n7)
  walk_at "g"
  refine ⟨cA, _, .inl n, rfl, hc3, rfl, hch, ?_⟩
  have s4 : Cs [cA] H3 (upd H3 cA (.dK (dropK S.ch (.inl n)))) := (Cs.refl _ _).wr mem1 hc3 trivial
  have nc : ∀ {b}, ¬ cA = b → b ∉ [cA] := fun h z => h (List.mem_singleton.mp z).symm
  have s14 : Cs [x, cA, d, qA, wA] H (upd H3 cA (.dK (dropK S.ch (.inl n)))) := (s12.trans (s3.le fun b hb => by rw [List.mem_singleton.mp hb]; simp)).trans (s4.le fun b hb => by rw [List.mem_singleton.mp hb]; simp)
  exact q a _ s14 (s4.ch.sqT (s3.ch.sqT (s2.ch.sqT (SqT.of e1)))) (d3.ch s4.ch (nc c3) (nc c4) (nc c5) (nc c6)) (fun dx' rA' e => by rw [hx] at e; cases e; exact s4.ch.ins hx3 (nc (Ne.symm n2))) upd_same
end
end K11
end

section
-- part K11N
set_option Elab.async false
set_option linter.all false
set_option maxRecDepth 100000
set_option maxHeartbeats 800000
open PySem PySem.Spec PyProof.Rows L2 Fw
local macro_rules | `(tactic| walk_at "e1") => `(tactic| first
  | ((with_reducible refine' w_var ?hv ?_); (case hv => rfl))
  | with_reducible refine w_c ?_
  | with_reducible refine w_op ?_
  | with_reducible refine w_un ?_
  | with_reducible refine w_cons ?_
  | with_reducible refine w_nil ?_
  | with_reducible refine w_cl ?_
  | with_reducible refine w_cb ?_
  | with_reducible refine w_gname ?_
  | with_reducible refine w_gsub ?_
  | with_reducible refine w_test ?_
  | with_reducible refine w_B ?_
  | with_reducible refine w_bl ?_
  | with_reducible refine w_and ?_
  | with_reducible refine w_or ?_
  | with_reducible refine w_not ?_
  | with_reducible refine w_if ?_
  | with_reducible refine w_I0 ?_
  | with_reducible refine Gk.w_rU ?_
  | with_reducible refine Dq.w_orV ?_
  | with_reducible refine Dq.w_js ?_
  | with_reducible refine Dq.w_js0 ?_
  | with_reducible refine Dq.w_fm ?_
  | with_reducible refine Dq.w_andV ?_
  | with_reducible refine Gk.w_iEnum ?_
  | with_reducible refine Dq.w_dget ?_
  | with_reducible refine Dq.w_dpop1 ?_
  | with_reducible refine Dq.w_ddel ?_
  | with_reducible refine Dq.w_din ?_
  | with_reducible refine Dq.w_dnotin ?_
  | with_reducible refine Dq.w_dget2 ?_
  | with_reducible refine Dq.w_dnew ?_
  | with_reducible refine Dq.w_fldaug ?_
  | with_reducible refine Dq.w_aSub ?_
  | with_reducible refine Dq.w_aAdd ?_
  | with_reducible refine Dq.w_mkd ?_
  | with_reducible refine Dq.w_notN0 ?_
  | with_reducible refine Dq.w_isN0 ?_
  | with_reducible refine Dq.w_notNR ?_
  | with_reducible refine Dq.w_isNR ?_
  | with_reducible refine Dq.w_notNI ?_
  | with_reducible refine Dq.w_isNI ?_
  | with_reducible refine L2.w_neOs ?_
  | with_reducible refine w_ipI ?_
  | with_reducible refine w_eqS ?_
  | with_reducible refine w_neS ?_
  | with_reducible refine w_eqI ?_
  | with_reducible refine w_neI ?_
  | with_reducible refine w_eqB ?_
  | with_reducible refine w_neB ?_
  | ((with_reducible refine w_eq ?hs ?_); (case hs => rfl))
  | ((with_reducible refine w_ne ?hs ?_); (case hs => rfl))
  | with_reducible refine w_fld ?_
  | with_reducible refine w_bm ?_
  | with_reducible refine w_bm0 ?_
  | with_reducible refine w_sl ?_
  | with_reducible refine w_part ?_
  | with_reducible refine w_partI ?_
  | with_reducible refine w_nopart ?_
  | ((with_reducible refine' w_ixL ?hh ?ha ?_); (case hh => first | assumption | exact upd_same); (case ha => rfl))
  | ((with_reducible refine' w_setLu ?ha ?_); (case ha => rfl))
  | ((with_reducible refine' w_setL ?hh ?ha ?_); (case hh => first | assumption | exact upd_same); (case ha => rfl))
  | with_reducible refine w_iteT ?_
  | with_reducible refine w_iteF ?_
  | with_reducible refine w_lst ?_
  | with_reducible refine w_tup ?_
  | ((with_reducible refine w_new ?hz ?_); (case hz => rfl))
  | with_reducible refine w_lc ?_
  | with_reducible refine w_iL ?_
  | with_reducible refine w_iT ?_
  | with_reducible refine w_iR1 ?_
  | with_reducible refine w_iR2 ?_
  | with_reducible refine w_yes ?_
  | with_reducible refine w_iStr ?_
  | with_reducible exact tyS
  | with_reducible refine And.intro tyS ?_
  | ((with_reducible refine w_find3 ?_); (first | rw [find3_one] | rw [starts3] | skip))
  | ((with_reducible refine w_2s ?_); (try rw [find_one]))
  | ((with_reducible refine w_inS ?_); rw [S_list])
  | ((with_reducible refine w_lenS ?hz ?_); (case hz => first | assumption | omega | decide); rw [SX.S_len])
  | ((with_reducible refine w_addS ?hz ?_); (case hz => first | assumption | omega | decide); rw [vS_cat])
  | with_reducible refine w_mk ?_
  | with_reducible refine w_me ?_
  | with_reducible refine w_sfld ?_
  | ((with_reducible refine' w_gtup ?hh ?hn ?_); (case hh => first | assumption | exact upd_same); (case hn => rfl))
  | with_reducible refine w_gcons ?_
  | with_reducible refine w_gnil ?_
  | with_reducible refine w_repl ?_
  | with_reducible refine w_star ?_
  | with_reducible refine w_revL ?_
  | with_reducible refine w_isiS ?_
  | with_reducible refine w_isiI ?_
  | with_reducible refine w_isiN ?_
  | with_reducible refine w_chain ?_
  | with_reducible refine w_iEnumT ?_
  | with_reducible refine w_iZip3 ?_
  | with_reducible refine w_iZip ?_
  | with_reducible refine w_lenR3 ?_
  | with_reducible refine w_x1i ?_
  | with_reducible refine w_x1b ?_
  | with_reducible refine w_x1s ?_
  | with_reducible refine w_int1i ?_
  | with_reducible refine w_int1b ?_
  | ((with_reducible refine w_mod ?hc ?_); (case hc => omega))
  | ((with_reducible refine w_fdivW ?hc ?hd ?_); (case hc => omega); (case hd => omega))
  | ((with_reducible refine w_mul ?hc ?_); (case hc => first | exact Or.inr ⟨by decide, by decide⟩ | exact Or.inl ⟨by decide, by decide⟩))
  | ((with_reducible refine w_pow ?hc ?_); (case hc => exact ⟨by decide, by decide, by decide⟩)))
local macro_rules | `(tactic| walk_at "f1") => `(tactic| first
  | ((with_reducible refine' K11.g_disk ?hW ?hK ?hs ?hx ?_); (case hW => assumption); (case hK => rfl); (case hs => rfl); (case hx => first | assumption | exact upd_same))
  | ((with_reducible refine' K11.g_capacity ?hW ?hK ?hs ?hx ?_); (case hW => assumption); (case hK => rfl); (case hs => rfl); (case hx => first | assumption | exact upd_same))
  | ((with_reducible refine' K11.g_pages ?hW ?hK ?hs ?hx ?_); (case hW => assumption); (case hK => rfl); (case hs => rfl); (case hx => first | assumption | exact upd_same))
  | ((with_reducible refine' K11.g_changed ?hW ?hK ?hs ?hx ?_); (case hW => assumption); (case hK => rfl); (case hs => rfl); (case hx => first | assumption | exact upd_same))
  | ((with_reducible refine' K11.g_open_group ?hW ?hK ?hs ?hx ?_); (case hW => assumption); (case hK => rfl); (case hs => rfl); (case hx => first | assumption | exact upd_same))
  | ((with_reducible refine' K11.g_parts ?hW ?hK ?hs ?hx ?_); (case hW => assumption); (case hK => rfl); (case hs => rfl); (case hx => first | assumption | exact upd_same))
  | ((with_reducible refine' K11.g_reads ?hW ?hK ?hs ?hx ?_); (case hW => assumption); (case hK => rfl); (case hs => rfl); (case hx => first | assumption | exact upd_same))
  | ((with_reducible refine' K11.g_writes ?hW ?hK ?hs ?hx ?_); (case hW => assumption); (case hK => rfl); (case hs => rfl); (case hx => first | assumption | exact upd_same))
  | ((with_reducible refine' K11.g_block_size ?hW ?hK ?hs ?hx ?_); (case hW => assumption); (case hK => rfl); (case hs => rfl); (case hx => first | assumption | exact upd_same))
  | ((with_reducible refine' K11.g_blocks ?hW ?hK ?hs ?hx ?_); (case hW => assumption); (case hK => rfl); (case hs => rfl); (case hx => first | assumption | exact upd_same))
  | ((with_reducible refine' K11.g_log ?hW ?hK ?hs ?hx ?_); (case hW => assumption); (case hK => rfl); (case hs => rfl); (case hx => first | assumption | exact upd_same))
  | ((with_reducible refine' K11.g_waiting ?hW ?hK ?hs ?hx ?_); (case hW => assumption); (case hK => rfl); (case hs => rfl); (case hx => first | assumption | exact upd_same))
  | ((with_reducible refine' K11.g_written ?hW ?hK ?hs ?hx ?_); (case hW => assumption); (case hK => rfl); (case hs => rfl); (case hx => first | assumption | exact upd_same))
  | ((with_reducible refine' K11.g_log_tail ?hW ?hK ?hs ?hx ?_); (case hW => assumption); (case hK => rfl); (case hs => rfl); (case hx => first | assumption | exact upd_same))
  | ((with_reducible refine' K11.g_fuse ?hW ?hK ?hs ?hx ?_); (case hW => assumption); (case hK => rfl); (case hs => rfl); (case hx => first | assumption | exact upd_same))
  | ((with_reducible refine' K11.g_dead ?hW ?hK ?hs ?hx ?_); (case hW => assumption); (case hK => rfl); (case hs => rfl); (case hx => first | assumption | exact upd_same))
  | ((with_reducible refine' K11.g_steps ?hW ?hK ?hs ?hx ?_); (case hW => assumption); (case hK => rfl); (case hs => rfl); (case hx => first | assumption | exact upd_same))
  | walk_at "e1")
local macro_rules | `(tactic| walk_at "s1") => `(tactic| first
  | with_reducible refine w_seq ?_
  | with_reducible refine w_asg ?_
  | with_reducible refine w_ret ?_
  | with_reducible refine w_par ?_
  | with_reducible refine w_drop ?_
  | with_reducible refine w_next ?_
  | with_reducible refine w_ifs ?_
  | ((with_reducible refine' w_aug ?hv ?_); (case hv => rfl))
  | with_reducible refine w_for ?_
  | walk_at "f1")
local macro_rules | `(tactic| walk_at "e") => `(tactic| repeat walk_at "e1")
local macro_rules | `(tactic| walk_at "g") => `(tactic| repeat walk_at "s1")

namespace K11
open Dc Gk M5 M10 M8 M11 LamX
section
variable {P : Program} {w : World} {K : PySem.W.Frag} {mg : Str → Option Value} {base : Heap} {cPF cPg cDF cD aE cP : Addr}
def spPool (K : PySem.W.Frag) (cPF cP : Addr) : Sp := fun vs H Q E => ∃ (x dx d : Addr) (cap : Int), vs = [.ref x, .ref d, .int cap] ∧ H x = some (.ins cP dx []) ∧ (cap < 1 → Fails H E cPF) ∧
  (1 ≤ cap → ∀ pA cA oA rA H', Cs [x] H H' → H pA = none → H cA = none → H oA = none → H rA = none → H' x = some (.ins cP dx (F8 (.ref d) (.int cap) (.ref pA) (.ref cA) (.ref oA) (.ref rA) (.int 0) (.int 0))) → H' rA = some (.lst []) → H' pA = some (.dK []) → H' cA = some (.dK []) → H' oA = some (.dK []) → pA ≠ cA → pA ≠ oA → cA ≠ oA → Q .non H')
theorem ok_pool_init (W : Wp K mg cPF cPg cDF cD aE cP) : Mc P w K mg base 1 "Pool" cP (spPool K cPF cP) := by
  refine mc_mk W.q_i W.q_g sc_Pool___init__ (fun _ _ _ _ _ _ us hl => match us, hl with | [_, _, _], _ => rfl) (fun vs H Q E h => ?_) (fun f cdv A outer s H vs Q E hr h => ?_)
  · obtain ⟨x, dx, d, cap, rfl, _⟩ := h; rfl
  obtain ⟨x, dx, d, cap, rfl, hx, qE, q⟩ := h
  refine ⟨_, (pss_cons (ps_if (pt_cmpR op_lt (pv 2) pe_int (nomark _))
    (pss_one (ps_raise rfl (takes_of rfl rfl rfl rfl) (pmk_own PySem.F.excBase_ValueError W.e_PageFault.ox W.e_PageFault.og W.e_PageFault.ok (raises_own W.e_PageFault.ob W.e_PageFault.ot) rfl)))
    pss_nil)
    (pss_cons (ps_fld (pv 0) (pv 1) rfl)
    (pss_cons (ps_fld (pv 0) (pv 2) rfl)
    (pss_cons (ps_fld (pv 0) pe_dnewK rfl)
    (pss_cons (ps_fld (pv 0) pe_dnewK rfl)
    (pss_cons (ps_fld (pv 0) pe_dnewK rfl)
    (pss_cons (ps_fld (pv 0) (pe_lst pa_nil) rfl)
    (pss_cons (ps_fld (pv 0) pe_int rfl)
    (pss_one (ps_fld (pv 0) pe_int rfl)))))))))), ?_⟩
  walk_at "g"
  refine w_iteD (fun c1 => ?_) (fun c1 => ?_)
  · walk_at "g"
    exact qE c1 H (Same.refl H)
  replace q := q (by omega)
  have tH0 := Cs.refl [x] H
  have hxH0 := hx
  walk_at "g"
  refine ⟨_, _, _, _, rfl, hxH0, W.q_cl, W.q_disk, by show 0 < 1000; decide, ?_⟩
  rw [i_disk]
  have tH1 := tH0.wr (o := .ins cP dx [(("disk" : Str), V.ref d)]) mem1 hxH0 trivial
  have hxH1 : upd H x (.ins cP dx [(("disk" : Str), V.ref d)]) x = some (.ins cP dx [(("disk" : Str), V.ref d)]) := upd_same
  generalize upd H x (.ins cP dx [(("disk" : Str), V.ref d)]) = H1 at tH1 hxH1 
  walk_at "g"
  refine ⟨_, _, _, _, rfl, hxH1, W.q_cl, W.q_capacity, by show 1 < 1000; decide, ?_⟩
  rw [i_capacity]
  have tH2 := tH1.wr (o := .ins cP dx [(("disk" : Str), V.ref d), (("capacity" : Str), V.int cap)]) mem1 hxH1 trivial
  have hxH2 : upd H1 x (.ins cP dx [(("disk" : Str), V.ref d), (("capacity" : Str), V.int cap)]) x = some (.ins cP dx [(("disk" : Str), V.ref d), (("capacity" : Str), V.int cap)]) := upd_same
  generalize upd H1 x (.ins cP dx [(("disk" : Str), V.ref d), (("capacity" : Str), V.int cap)]) = H2 at tH2 hxH2 
  walk_at "g"
  intro pA fpA
  have uH3 := same_new fpA (.dK [])
  have epA_H3 : upd H2 pA (.dK []) pA = some (.dK []) := upd_same
  generalize upd H2 pA (.dK []) = H3 at uH3 epA_H3
  have fpA0 : H pA = none := tH2.free (fun b hb => by rw [List.mem_singleton.mp hb]; exact ⟨_, hxH2⟩) fpA
  have hxH3 := uH3 _ _ hxH2
  have tH3 := tH2.trans (Cs.of uH3)
  walk_at "g"
  refine ⟨_, _, _, _, rfl, hxH3, W.q_cl, W.q_pages, by show 2 < 1000; decide, ?_⟩
  rw [i_pages]
  have tH4 := tH3.wr (o := .ins cP dx [(("disk" : Str), V.ref d), (("capacity" : Str), V.int cap), (("pages" : Str), V.ref pA)]) mem1 hxH3 trivial
  have hxH4 : upd H3 x (.ins cP dx [(("disk" : Str), V.ref d), (("capacity" : Str), V.int cap), (("pages" : Str), V.ref pA)]) x = some (.ins cP dx [(("disk" : Str), V.ref d), (("capacity" : Str), V.int cap), (("pages" : Str), V.ref pA)]) := upd_same
  have epA_H4 := (upd_ne (o := .ins cP dx [(("disk" : Str), V.ref d), (("capacity" : Str), V.int cap), (("pages" : Str), V.ref pA)]) (ne_of epA_H3 hxH3 (fun z => by cases z))).trans epA_H3
  generalize upd H3 x (.ins cP dx [(("disk" : Str), V.ref d), (("capacity" : Str), V.int cap), (("pages" : Str), V.ref pA)]) = H4 at tH4 hxH4 epA_H4
  walk_at "g"
  intro cA fcA
  have uH5 := same_new fcA (.dK [])
  have ecA_H5 : upd H4 cA (.dK []) cA = some (.dK []) := upd_same
  generalize upd H4 cA (.dK []) = H5 at uH5 ecA_H5
  have fcA0 : H cA = none := tH4.free (fun b hb => by rw [List.mem_singleton.mp hb]; exact ⟨_, hxH4⟩) fcA
  have hxH5 := uH5 _ _ hxH4
  have tH5 := tH4.trans (Cs.of uH5)
  have npAcA := ne_of_none epA_H4 fcA
  have epA_H5 := uH5 _ _ epA_H4
  walk_at "g"
  refine ⟨_, _, _, _, rfl, hxH5, W.q_cl, W.q_changed, by show 3 < 1000; decide, ?_⟩
  rw [i_changed]
  have tH6 := tH5.wr (o := .ins cP dx [(("disk" : Str), V.ref d), (("capacity" : Str), V.int cap), (("pages" : Str), V.ref pA), (("changed" : Str), V.ref cA)]) mem1 hxH5 trivial
  have hxH6 : upd H5 x (.ins cP dx [(("disk" : Str), V.ref d), (("capacity" : Str), V.int cap), (("pages" : Str), V.ref pA), (("changed" : Str), V.ref cA)]) x = some (.ins cP dx [(("disk" : Str), V.ref d), (("capacity" : Str), V.int cap), (("pages" : Str), V.ref pA), (("changed" : Str), V.ref cA)]) := upd_same
  have epA_H6 := (upd_ne (o := .ins cP dx [(("disk" : Str), V.ref d), (("capacity" : Str), V.int cap), (("pages" : Str), V.ref pA), (("changed" : Str), V.ref cA)]) (ne_of epA_H5 hxH5 (fun z => by cases z))).trans epA_H5
  have ecA_H6 := (upd_ne (o := .ins cP dx [(("disk" : Str), V.ref d), (("capacity" : Str), V.int cap), (("pages" : Str), V.ref pA), (("changed" : Str), V.ref cA)]) (ne_of ecA_H5 hxH5 (fun z => by cases z))).trans ecA_H5
  generalize upd H5 x (.ins cP dx [(("disk" : Str), V.ref d), (("capacity" : Str), V.int cap), (("pages" : Str), V.ref pA), (("changed" : Str), V.ref cA)]) = H6 at tH6 hxH6 epA_H6 ecA_H6
  walk_at "g"
  intro oA foA
  have uH7 := same_new foA (.dK [])
  have eoA_H7 : upd H6 oA (.dK []) oA = some (.dK []) := upd_same
  generalize upd H6 oA (.dK []) = H7 at uH7 eoA_H7
  have foA0 : H oA = none := tH6.free (fun b hb => by rw [List.mem_singleton.mp hb]; exact ⟨_, hxH6⟩) foA
  have hxH7 := uH7 _ _ hxH6
  have tH7 := tH6.trans (Cs.of uH7)
  have npAoA := ne_of_none epA_H6 foA
  have epA_H7 := uH7 _ _ epA_H6
  have ncAoA := ne_of_none ecA_H6 foA
  have ecA_H7 := uH7 _ _ ecA_H6
  walk_at "g"
  refine ⟨_, _, _, _, rfl, hxH7, W.q_cl, W.q_open_group, by show 4 < 1000; decide, ?_⟩
  rw [i_open_group]
  have tH8 := tH7.wr (o := .ins cP dx [(("disk" : Str), V.ref d), (("capacity" : Str), V.int cap), (("pages" : Str), V.ref pA), (("changed" : Str), V.ref cA), (("open_group" : Str), V.ref oA)]) mem1 hxH7 trivial
  have hxH8 : upd H7 x (.ins cP dx [(("disk" : Str), V.ref d), (("capacity" : Str), V.int cap), (("pages" : Str), V.ref pA), (("changed" : Str), V.ref cA), (("open_group" : Str), V.ref oA)]) x = some (.ins cP dx [(("disk" : Str), V.ref d), (("capacity" : Str), V.int cap), (("pages" : Str), V.ref pA), (("changed" : Str), V.ref cA), (("open_group" : Str), V.ref oA)]) := upd_same
  have epA_H8 := (upd_ne (o := .ins cP dx [(("disk" : Str), V.ref d), (("capacity" : Str), V.int cap), (("pages" : Str), V.ref pA), (("changed" : Str), V.ref cA), (("open_group" : Str), V.ref oA)]) (ne_of epA_H7 hxH7 (fun z => by cases z))).trans epA_H7
  have ecA_H8 := (upd_ne (o := .ins cP dx [(("disk" : Str), V.ref d), (("capacity" : Str), V.int cap), (("pages" : Str), V.ref pA), (("changed" : Str), V.ref cA), (("open_group" : Str), V.ref oA)]) (ne_of ecA_H7 hxH7 (fun z => by cases z))).trans ecA_H7
  have eoA_H8 := (upd_ne (o := .ins cP dx [(("disk" : Str), V.ref d), (("capacity" : Str), V.int cap), (("pages" : Str), V.ref pA), (("changed" : Str), V.ref cA), (("open_group" : Str), V.ref oA)]) (ne_of eoA_H7 hxH7 (fun z => by cases z))).trans eoA_H7
  generalize upd H7 x (.ins cP dx [(("disk" : Str), V.ref d), (("capacity" : Str), V.int cap), (("pages" : Str), V.ref pA), (("changed" : Str), V.ref cA), (("open_group" : Str), V.ref oA)]) = H8 at tH8 hxH8 epA_H8 ecA_H8 eoA_H8
  walk_at "g"
  intro rA frA
  have uH9 := same_new frA (.lst [])
  have erA_H9 : upd H8 rA (.lst []) rA = some (.lst []) := upd_same
  generalize upd H8 rA (.lst []) = H9 at uH9 erA_H9
  have frA0 : H rA = none := tH8.free (fun b hb => by rw [List.mem_singleton.mp hb]; exact ⟨_, hxH8⟩) frA
  have hxH9 := uH9 _ _ hxH8
  have tH9 := tH8.trans (Cs.of uH9)
  have npArA := ne_of_none epA_H8 frA
  have epA_H9 := uH9 _ _ epA_H8
  have ncArA := ne_of_none ecA_H8 frA
  have ecA_H9 := uH9 _ _ ecA_H8
  have noArA := ne_of_none eoA_H8 frA
  have eoA_H9 := uH9 _ _ eoA_H8
  walk_at "g"
  refine ⟨_, _, _, _, rfl, hxH9, W.q_cl, W.q_parts, by show 5 < 1000; decide, ?_⟩
  rw [i_parts]
  have tH10 := tH9.wr (o := .ins cP dx [(("disk" : Str), V.ref d), (("capacity" : Str), V.int cap), (("pages" : Str), V.ref pA), (("changed" : Str), V.ref cA), (("open_group" : Str), V.ref oA), (("parts" : Str), V.ref rA)]) mem1 hxH9 trivial
  have hxH10 : upd H9 x (.ins cP dx [(("disk" : Str), V.ref d), (("capacity" : Str), V.int cap), (("pages" : Str), V.ref pA), (("changed" : Str), V.ref cA), (("open_group" : Str), V.ref oA), (("parts" : Str), V.ref rA)]) x = some (.ins cP dx [(("disk" : Str), V.ref d), (("capacity" : Str), V.int cap), (("pages" : Str), V.ref pA), (("changed" : Str), V.ref cA), (("open_group" : Str), V.ref oA), (("parts" : Str), V.ref rA)]) := upd_same
  have epA_H10 := (upd_ne (o := .ins cP dx [(("disk" : Str), V.ref d), (("capacity" : Str), V.int cap), (("pages" : Str), V.ref pA), (("changed" : Str), V.ref cA), (("open_group" : Str), V.ref oA), (("parts" : Str), V.ref rA)]) (ne_of epA_H9 hxH9 (fun z => by cases z))).trans epA_H9
  have ecA_H10 := (upd_ne (o := .ins cP dx [(("disk" : Str), V.ref d), (("capacity" : Str), V.int cap), (("pages" : Str), V.ref pA), (("changed" : Str), V.ref cA), (("open_group" : Str), V.ref oA), (("parts" : Str), V.ref rA)]) (ne_of ecA_H9 hxH9 (fun z => by cases z))).trans ecA_H9
  have eoA_H10 := (upd_ne (o := .ins cP dx [(("disk" : Str), V.ref d), (("capacity" : Str), V.int cap), (("pages" : Str), V.ref pA), (("changed" : Str), V.ref cA), (("open_group" : Str), V.ref oA), (("parts" : Str), V.ref rA)]) (ne_of eoA_H9 hxH9 (fun z => by cases z))).trans eoA_H9
  have erA_H10 := (upd_ne (o := .ins cP dx [(("disk" : Str), V.ref d), (("capacity" : Str), V.int cap), (("pages" : Str), V.ref pA), (("changed" : Str), V.ref cA), (("open_group" : Str), V.ref oA), (("parts" : Str), V.ref rA)]) (ne_of erA_H9 hxH9 (fun z => by cases z))).trans erA_H9
  generalize upd H9 x (.ins cP dx [(("disk" : Str), V.ref d), (("capacity" : Str), V.int cap), (("pages" : Str), V.ref pA), (("changed" : Str), V.ref cA), (("open_group" : Str), V.ref oA), (("parts" : Str), V.ref rA)]) = H10 at tH10 hxH10 epA_H10 ecA_H10 eoA_H10 erA_H10
  walk_at "g"
  refine ⟨_, _, _, _, rfl, hxH10, W.q_cl, W.q_reads, by show 6 < 1000; decide, ?_⟩
  rw [i_reads]
  have tH11 := tH10.wr (o := .ins cP dx [(("disk" : Str), V.ref d), (("capacity" : Str), V.int cap), (("pages" : Str), V.ref pA), (("changed" : Str), V.ref cA), (("open_group" : Str), V.ref oA), (("parts" : Str), V.ref rA), (("reads" : Str), V.int 0)]) mem1 hxH10 trivial
  have hxH11 : upd H10 x (.ins cP dx [(("disk" : Str), V.ref d), (("capacity" : Str), V.int cap), (("pages" : Str), V.ref pA), (("changed" : Str), V.ref cA), (("open_group" : Str), V.ref oA), (("parts" : Str), V.ref rA), (("reads" : Str), V.int 0)]) x = some (.ins cP dx [(("disk" : Str), V.ref d), (("capacity" : Str), V.int cap), (("pages" : Str), V.ref pA), (("changed" : Str), V.ref cA), (("open_group" : Str), V.ref oA), (("parts" : Str), V.ref rA), (("reads" : Str), V.int 0)]) := upd_same
  have epA_H11 := (upd_ne (o := .ins cP dx [(("disk" : Str), V.ref d), (("capacity" : Str), V.int cap), (("pages" : Str), V.ref pA), (("changed" : Str), V.ref cA), (("open_group" : Str), V.ref oA), (("parts" : Str), V.ref rA), (("reads" : Str), V.int 0)]) (ne_of epA_H10 hxH10 (fun z => by cases z))).trans epA_H10
  have ecA_H11 := (upd_ne (o := .ins cP dx [(("disk" : Str), V.ref d), (("capacity" : Str), V.int cap), (("pages" : Str), V.ref pA), (("changed" : Str), V.ref cA), (("open_group" : Str), V.ref oA), (("parts" : Str), V.ref rA), (("reads" : Str), V.int 0)]) (ne_of ecA_H10 hxH10 (fun z => by cases z))).trans ecA_H10
  have eoA_H11 := (upd_ne (o := .ins cP dx [(("disk" : Str), V.ref d), (("capacity" : Str), V.int cap), (("pages" : Str), V.ref pA), (("changed" : Str), V.ref cA), (("open_group" : Str), V.ref oA), (("parts" : Str), V.ref rA), (("reads" : Str), V.int 0)]) (ne_of eoA_H10 hxH10 (fun z => by cases z))).trans eoA_H10
  have erA_H11 := (upd_ne (o := .ins cP dx [(("disk" : Str), V.ref d), (("capacity" : Str), V.int cap), (("pages" : Str), V.ref pA), (("changed" : Str), V.ref cA), (("open_group" : Str), V.ref oA), (("parts" : Str), V.ref rA), (("reads" : Str), V.int 0)]) (ne_of erA_H10 hxH10 (fun z => by cases z))).trans erA_H10
  generalize upd H10 x (.ins cP dx [(("disk" : Str), V.ref d), (("capacity" : Str), V.int cap), (("pages" : Str), V.ref pA), (("changed" : Str), V.ref cA), (("open_group" : Str), V.ref oA), (("parts" : Str), V.ref rA), (("reads" : Str), V.int 0)]) = H11 at tH11 hxH11 epA_H11 ecA_H11 eoA_H11 erA_H11
  walk_at "g"
  refine ⟨_, _, _, _, rfl, hxH11, W.q_cl, W.q_writes, by show 7 < 1000; decide, ?_⟩
  rw [i_writes]
  have tH12 := tH11.wr (o := .ins cP dx [(("disk" : Str), V.ref d), (("capacity" : Str), V.int cap), (("pages" : Str), V.ref pA), (("changed" : Str), V.ref cA), (("open_group" : Str), V.ref oA), (("parts" : Str), V.ref rA), (("reads" : Str), V.int 0), (("writes" : Str), V.int 0)]) mem1 hxH11 trivial
  have hxH12 : upd H11 x (.ins cP dx [(("disk" : Str), V.ref d), (("capacity" : Str), V.int cap), (("pages" : Str), V.ref pA), (("changed" : Str), V.ref cA), (("open_group" : Str), V.ref oA), (("parts" : Str), V.ref rA), (("reads" : Str), V.int 0), (("writes" : Str), V.int 0)]) x = some (.ins cP dx [(("disk" : Str), V.ref d), (("capacity" : Str), V.int cap), (("pages" : Str), V.ref pA), (("changed" : Str), V.ref cA), (("open_group" : Str), V.ref oA), (("parts" : Str), V.ref rA), (("reads" : Str), V.int 0), (("writes" : Str), V.int 0)]) := upd_same
  have epA_H12 := (upd_ne (o := .ins cP dx [(("disk" : Str), V.ref d), (("capacity" : Str), V.int cap), (("pages" : Str), V.ref pA), (("changed" : Str), V.ref cA), (("open_group" : Str), V.ref oA), (("parts" : Str), V.ref rA), (("reads" : Str), V.int 0), (("writes" : Str), V.int 0)]) (ne_of epA_H11 hxH11 (fun z => by cases z))).trans epA_H11
  have ecA_H12 := (upd_ne (o := .ins cP dx [(("disk" : Str), V.ref d), (("capacity" : Str), V.int cap), (("pages" : Str), V.ref pA), (("changed" : Str), V.ref cA), (("open_group" : Str), V.ref oA), (("parts" : Str), V.ref rA), (("reads" : Str), V.int 0), (("writes" : Str), V.int 0)]) (ne_of ecA_H11 hxH11 (fun z => by cases z))).trans ecA_H11
  have eoA_H12 := (upd_ne (o := .ins cP dx [(("disk" : Str), V.ref d), (("capacity" : Str), V.int cap), (("pages" : Str), V.ref pA), (("changed" : Str), V.ref cA), (("open_group" : Str), V.ref oA), (("parts" : Str), V.ref rA), (("reads" : Str), V.int 0), (("writes" : Str), V.int 0)]) (ne_of eoA_H11 hxH11 (fun z => by cases z))).trans eoA_H11
  have erA_H12 := (upd_ne (o := .ins cP dx [(("disk" : Str), V.ref d), (("capacity" : Str), V.int cap), (("pages" : Str), V.ref pA), (("changed" : Str), V.ref cA), (("open_group" : Str), V.ref oA), (("parts" : Str), V.ref rA), (("reads" : Str), V.int 0), (("writes" : Str), V.int 0)]) (ne_of erA_H11 hxH11 (fun z => by cases z))).trans erA_H11
  generalize upd H11 x (.ins cP dx [(("disk" : Str), V.ref d), (("capacity" : Str), V.int cap), (("pages" : Str), V.ref pA), (("changed" : Str), V.ref cA), (("open_group" : Str), V.ref oA), (("parts" : Str), V.ref rA), (("reads" : Str), V.int 0), (("writes" : Str), V.int 0)]) = H12 at tH12 hxH12 epA_H12 ecA_H12 eoA_H12 erA_H12
  exact q pA cA oA rA H12 tH12 fpA0 fcA0 foA0 frA0 hxH12 erA_H12 epA_H12 ecA_H12 eoA_H12 npAcA npAoA ncAoA
end
end K11
end

section
-- part K11O
set_option Elab.async false
set_option linter.all false
set_option maxRecDepth 100000
set_option maxHeartbeats 800000
open PySem PySem.Spec PyProof.Rows L2 Fw
local macro_rules | `(tactic| walk_at "e1") => `(tactic| first
  | ((with_reducible refine' w_var ?hv ?_); (case hv => rfl))
  | with_reducible refine w_c ?_
  | with_reducible refine w_op ?_
  | with_reducible refine w_un ?_
  | with_reducible refine w_cons ?_
  | with_reducible refine w_nil ?_
  | with_reducible refine w_cl ?_
  | with_reducible refine w_cb ?_
  | with_reducible refine w_gname ?_
  | with_reducible refine w_gsub ?_
  | with_reducible refine w_test ?_
  | with_reducible refine w_B ?_
  | with_reducible refine w_bl ?_
  | with_reducible refine w_and ?_
  | with_reducible refine w_or ?_
  | with_reducible refine w_not ?_
  | with_reducible refine w_if ?_
  | with_reducible refine w_I0 ?_
  | with_reducible refine Gk.w_rU ?_
  | with_reducible refine Dq.w_orV ?_
  | with_reducible refine Dq.w_js ?_
  | with_reducible refine Dq.w_js0 ?_
  | with_reducible refine Dq.w_fm ?_
  | with_reducible refine Dq.w_andV ?_
  | with_reducible refine Gk.w_iEnum ?_
  | with_reducible refine Dq.w_dget ?_
  | with_reducible refine Dq.w_dpop1 ?_
  | with_reducible refine Dq.w_ddel ?_
  | with_reducible refine Dq.w_din ?_
  | with_reducible refine Dq.w_dnotin ?_
  | with_reducible refine Dq.w_dget2 ?_
  | with_reducible refine Dq.w_dnew ?_
  | with_reducible refine Dq.w_fldaug ?_
  | with_reducible refine Dq.w_aSub ?_
  | with_reducible refine Dq.w_aAdd ?_
  | with_reducible refine Dq.w_mkd ?_
  | with_reducible refine Dq.w_notN0 ?_
  | with_reducible refine Dq.w_isN0 ?_
  | with_reducible refine Dq.w_notNR ?_
  | with_reducible refine Dq.w_isNR ?_
  | with_reducible refine Dq.w_notNI ?_
  | with_reducible refine Dq.w_isNI ?_
  | with_reducible refine L2.w_neOs ?_
  | with_reducible refine w_ipI ?_
  | with_reducible refine w_eqS ?_
  | with_reducible refine w_neS ?_
  | with_reducible refine w_eqI ?_
  | with_reducible refine w_neI ?_
  | with_reducible refine w_eqB ?_
  | with_reducible refine w_neB ?_
  | ((with_reducible refine w_eq ?hs ?_); (case hs => rfl))
  | ((with_reducible refine w_ne ?hs ?_); (case hs => rfl))
  | with_reducible refine w_fld ?_
  | with_reducible refine w_bm ?_
  | with_reducible refine w_bm0 ?_
  | with_reducible refine w_sl ?_
  | with_reducible refine w_part ?_
  | with_reducible refine w_partI ?_
  | with_reducible refine w_nopart ?_
  | ((with_reducible refine' w_ixL ?hh ?ha ?_); (case hh => first | assumption | exact upd_same); (case ha => rfl))
  | ((with_reducible refine' w_setLu ?ha ?_); (case ha => rfl))
  | ((with_reducible refine' w_setL ?hh ?ha ?_); (case hh => first | assumption | exact upd_same); (case ha => rfl))
  | with_reducible refine w_iteT ?_
  | with_reducible refine w_iteF ?_
  | with_reducible refine w_lst ?_
  | with_reducible refine w_tup ?_
  | ((with_reducible refine w_new ?hz ?_); (case hz => rfl))
  | with_reducible refine w_lc ?_
  | with_reducible refine w_iL ?_
  | with_reducible refine w_iT ?_
  | with_reducible refine w_iR1 ?_
  | with_reducible refine w_iR2 ?_
  | with_reducible refine w_yes ?_
  | with_reducible refine w_iStr ?_
  | with_reducible exact tyS
  | with_reducible refine And.intro tyS ?_
  | ((with_reducible refine w_find3 ?_); (first | rw [find3_one] | rw [starts3] | skip))
  | ((with_reducible refine w_2s ?_); (try rw [find_one]))
  | ((with_reducible refine w_inS ?_); rw [S_list])
  | ((with_reducible refine w_lenS ?hz ?_); (case hz => first | assumption | omega | decide); rw [SX.S_len])
  | ((with_reducible refine w_addS ?hz ?_); (case hz => first | assumption | omega | decide); rw [vS_cat])
  | with_reducible refine w_mk ?_
  | with_reducible refine w_me ?_
  | with_reducible refine w_sfld ?_
  | ((with_reducible refine' w_gtup ?hh ?hn ?_); (case hh => first | assumption | exact upd_same); (case hn => rfl))
  | with_reducible refine w_gcons ?_
  | with_reducible refine w_gnil ?_
  | with_reducible refine w_repl ?_
  | with_reducible refine w_star ?_
  | with_reducible refine w_revL ?_
  | with_reducible refine w_isiS ?_
  | with_reducible refine w_isiI ?_
  | with_reducible refine w_isiN ?_
  | with_reducible refine w_chain ?_
  | with_reducible refine w_iEnumT ?_
  | with_reducible refine w_iZip3 ?_
  | with_reducible refine w_iZip ?_
  | with_reducible refine w_lenR3 ?_
  | with_reducible refine w_x1i ?_
  | with_reducible refine w_x1b ?_
  | with_reducible refine w_x1s ?_
  | with_reducible refine w_int1i ?_
  | with_reducible refine w_int1b ?_
  | ((with_reducible refine w_mod ?hc ?_); (case hc => omega))
  | ((with_reducible refine w_fdivW ?hc ?hd ?_); (case hc => omega); (case hd => omega))
  | ((with_reducible refine w_mul ?hc ?_); (case hc => first | exact Or.inr ⟨by decide, by decide⟩ | exact Or.inl ⟨by decide, by decide⟩))
  | ((with_reducible refine w_pow ?hc ?_); (case hc => exact ⟨by decide, by decide, by decide⟩)))
local macro_rules | `(tactic| walk_at "f1") => `(tactic| first
  | ((with_reducible refine' K11.g_disk ?hW ?hK ?hs ?hx ?_); (case hW => assumption); (case hK => rfl); (case hs => rfl); (case hx => first | assumption | exact upd_same))
  | ((with_reducible refine' K11.g_capacity ?hW ?hK ?hs ?hx ?_); (case hW => assumption); (case hK => rfl); (case hs => rfl); (case hx => first | assumption | exact upd_same))
  | ((with_reducible refine' K11.g_pages ?hW ?hK ?hs ?hx ?_); (case hW => assumption); (case hK => rfl); (case hs => rfl); (case hx => first | assumption | exact upd_same))
  | ((with_reducible refine' K11.g_changed ?hW ?hK ?hs ?hx ?_); (case hW => assumption); (case hK => rfl); (case hs => rfl); (case hx => first | assumption | exact upd_same))
  | ((with_reducible refine' K11.g_open_group ?hW ?hK ?hs ?hx ?_); (case hW => assumption); (case hK => rfl); (case hs => rfl); (case hx => first | assumption | exact upd_same))
  | ((with_reducible refine' K11.g_parts ?hW ?hK ?hs ?hx ?_); (case hW => assumption); (case hK => rfl); (case hs => rfl); (case hx => first | assumption | exact upd_same))
  | ((with_reducible refine' K11.g_reads ?hW ?hK ?hs ?hx ?_); (case hW => assumption); (case hK => rfl); (case hs => rfl); (case hx => first | assumption | exact upd_same))
  | ((with_reducible refine' K11.g_writes ?hW ?hK ?hs ?hx ?_); (case hW => assumption); (case hK => rfl); (case hs => rfl); (case hx => first | assumption | exact upd_same))
  | ((with_reducible refine' K11.g_block_size ?hW ?hK ?hs ?hx ?_); (case hW => assumption); (case hK => rfl); (case hs => rfl); (case hx => first | assumption | exact upd_same))
  | ((with_reducible refine' K11.g_blocks ?hW ?hK ?hs ?hx ?_); (case hW => assumption); (case hK => rfl); (case hs => rfl); (case hx => first | assumption | exact upd_same))
  | ((with_reducible refine' K11.g_log ?hW ?hK ?hs ?hx ?_); (case hW => assumption); (case hK => rfl); (case hs => rfl); (case hx => first | assumption | exact upd_same))
  | ((with_reducible refine' K11.g_waiting ?hW ?hK ?hs ?hx ?_); (case hW => assumption); (case hK => rfl); (case hs => rfl); (case hx => first | assumption | exact upd_same))
  | ((with_reducible refine' K11.g_written ?hW ?hK ?hs ?hx ?_); (case hW => assumption); (case hK => rfl); (case hs => rfl); (case hx => first | assumption | exact upd_same))
  | ((with_reducible refine' K11.g_log_tail ?hW ?hK ?hs ?hx ?_); (case hW => assumption); (case hK => rfl); (case hs => rfl); (case hx => first | assumption | exact upd_same))
  | ((with_reducible refine' K11.g_fuse ?hW ?hK ?hs ?hx ?_); (case hW => assumption); (case hK => rfl); (case hs => rfl); (case hx => first | assumption | exact upd_same))
  | ((with_reducible refine' K11.g_dead ?hW ?hK ?hs ?hx ?_); (case hW => assumption); (case hK => rfl); (case hs => rfl); (case hx => first | assumption | exact upd_same))
  | ((with_reducible refine' K11.g_steps ?hW ?hK ?hs ?hx ?_); (case hW => assumption); (case hK => rfl); (case hs => rfl); (case hx => first | assumption | exact upd_same))
  | walk_at "e1")
local macro_rules | `(tactic| walk_at "s1") => `(tactic| first
  | with_reducible refine w_seq ?_
  | with_reducible refine w_asg ?_
  | with_reducible refine w_ret ?_
  | with_reducible refine w_par ?_
  | with_reducible refine w_drop ?_
  | with_reducible refine w_next ?_
  | with_reducible refine w_ifs ?_
  | ((with_reducible refine' w_aug ?hv ?_); (case hv => rfl))
  | with_reducible refine w_for ?_
  | walk_at "f1")
local macro_rules | `(tactic| walk_at "e") => `(tactic| repeat walk_at "e1")
local macro_rules | `(tactic| walk_at "g") => `(tactic| repeat walk_at "s1")

namespace K11
open Dc Gk M5 M10 M8 M11 LamX
theorem PoolO.at_ {K : PySem.W.Frag} {C : Addr} {H H' : Hp} {x d : Addr} {cap : Int} {pA cA oA : Addr} {S S' : PS} (h : PoolO K C H x d cap pA cA oA S) (s : Cs [pA, cA, oA] H H') (e1 : H' pA = some (.dK S'.pg)) (e2 : H' cA = some (.dK S'.ch)) (e3 : H' oA = some (.dK S'.og)) (r1 : S'.rd = S.rd) (r2 : S'.wr = S.wr) : PoolO K C H' x d cap pA cA oA S' := by
  obtain ⟨⟨dx, rA, hx, hr⟩, a, b, c, ne⟩ := h
  have k : ∀ {y : Addr} {o : HO}, H y = some o → (∀ kvs, o ≠ .dK kvs) → y ∉ [pA, cA, oA] := fun e n z => by
    simp only [List.mem_cons, List.not_mem_nil, or_false] at z
    rcases z with z | z | z
    · rw [z, a] at e; cases e; exact n _ rfl
    · rw [z, b] at e; cases e; exact n _ rfl
    · rw [z, c] at e; cases e; exact n _ rfl
  refine ⟨⟨dx, rA, ?_, s.ch.lst hr (k hr fun _ z => by cases z)⟩, e1, e2, e3, ne⟩
  rw [r1, r2]
  exact s.ch.ins hx (k hx fun _ z => by cases z)
def PS.leave (S : PS) (n : Int) (bf : Option Addr) (was : Bool) : PS := { S with
  pg := match bf with | none => dropK S.pg (.inl n) | some p => putK S.pg (.inl n) (.ref p)
  ch := if was = true then S.ch else dropK S.ch (.inl n)
  og := dropK S.og (.inl n) }
def bfV : Option Addr → V
  | none => .non
  | some p => .ref p
section
variable {P : Program} {w : World} {K : PySem.W.Frag} {mg : Str → Option Value} {base : Heap} {cPF cPg cDF cD aE cP : Addr}
def spLeave (K : PySem.W.Frag) (cP : Addr) : Sp := fun vs H Q _ => ∃ (x d : Addr) (cap : Int) (pA cA oA : Addr) (S : PS) (n : Int) (t : Addr) (bf : Option Addr) (was : Bool), vs = [.ref x, .int n] ∧ PoolO K cP H x d cap pA cA oA S ∧ valV S.og (.inl n) = some (.ref t) ∧ SqT K H t [bfV bf, .bl was] ∧
  (valV S.pg (.inl n)).isSome = true ∧ (valV S.ch (.inl n)).isSome = true ∧ S.pg.length ≤ 1000 ∧ ∀ H', Cs [pA, cA, oA] H H' → PoolO K cP H' x d cap pA cA oA (S.leave n bf was) → Q .non H'
theorem ok_leave_group (W : Wp K mg cPF cPg cDF cD aE cP) : Me P w K mg base 1 cP "leave_group" (spLeave K cP) := by
  refine me_mk W.q_leave_group W.q_cl sc_Pool_leave_group (fun _ _ _ _ _ _ us hl => match us, hl with | [_, _], _ => rfl) (fun vs H Q E h => ?_) (fun f cdv A outer s H vs Q E hr h => ?_)
  · obtain ⟨x, d, cap, pA, cA, oA, S, n, t, bf, was, rfl, _⟩ := h; rfl
  obtain ⟨x, d, cap, pA, cA, oA, S, n, t, bf, was, rfl, po, hog, ht, hpg, hch, hz, q⟩ := h
  obtain ⟨dx, rA, hx, hr0⟩ := po.ex
  obtain ⟨n1, n2, n3⟩ := po.ne
  refine ⟨_, (pss_cons (ps_asg (pe_dpop1 (pe_fld (pv 0) rfl) (pv 1) ⟨rfl, rfl, rfl, rfl⟩) (pg_tup rfl (pgs_cons (pg_name (i := 2) sc_Pool_leave_group.nd rfl (Or.inl rfl)) (pgs_cons (pg_name (i := 3) sc_Pool_leave_group.nd rfl (Or.inl rfl)) pgs_nil))))
    (pss_cons (ps_if (pt_cmpR op_isN1 (pv 2) pe_non (nomark _))
    (pss_one (ps_ddel (pe_fld (pv 0) rfl) (pv 1)))
    (pss_one (ps_asg (pv 2) (pg_sub (pe_fld (pv 0) rfl) (pv 1) (set_dict (hu_of hr))))))
    (pss_one (ps_if (pt_not (pt_val (pv 3)))
    (pss_one (ps_ddel (pe_fld (pv 0) rfl) (pv 1)))
    pss_nil)))), ?_⟩
  walk_at "g"
  refine ⟨oA, rfl, .inl ⟨_, .inl po.og⟩, ?_⟩
  walk_at "g"
  refine ⟨S.og, .inl n, .ref t, po.og, rfl, hog, ?_⟩
  have s1 : Cs [pA, cA, oA] H (upd H oA (.dK (dropK S.og (.inl n)))) := (Cs.refl _ _).wr (by simp) po.og trivial
  have o1 : upd H oA (.dK (dropK S.og (.inl n))) oA = some (.dK (dropK S.og (.inl n))) := upd_same
  have p1 : upd H oA (.dK (dropK S.og (.inl n))) pA = some (.dK S.pg) := (upd_ne n2).trans po.pg
  have c1 : upd H oA (.dK (dropK S.og (.inl n))) cA = some (.dK S.ch) := (upd_ne n3).trans po.ch
  have x1 : upd H oA (.dK (dropK S.og (.inl n))) x = _ := (upd_ne (ne_of hx po.og (fun z => by cases z))).trans hx
  generalize upd H oA (.dK (dropK S.og (.inl n))) = H1 at s1 o1 p1 c1 x1
  refine w_gtupS (s1.ch.sqT ht) rfl ?_
  cases bf with
  | none =>
    rw [show bfV none = V.non from rfl]
    walk_at "g"
    refine ⟨pA, _, .inl n, rfl, p1, rfl, hpg, ?_⟩
    have s2 : Cs [pA, cA, oA] H (upd H1 pA (.dK (dropK S.pg (.inl n)))) := s1.wr (by simp) p1 trivial
    have p2 : upd H1 pA (.dK (dropK S.pg (.inl n))) pA = some (.dK (dropK S.pg (.inl n))) := upd_same
    have c2 : upd H1 pA (.dK (dropK S.pg (.inl n))) cA = some (.dK S.ch) := (upd_ne n1.symm).trans c1
    have o2 : upd H1 pA (.dK (dropK S.pg (.inl n))) oA = some (.dK (dropK S.og (.inl n))) := (upd_ne n2.symm).trans o1
    have x2 : upd H1 pA (.dK (dropK S.pg (.inl n))) x = _ := (upd_ne (ne_of x1 p1 (fun z => by cases z))).trans x1
    generalize upd H1 pA (.dK (dropK S.pg (.inl n))) = H2 at s2 p2 c2 o2 x2
    cases was with
    | true =>
      walk_at "g"
      exact q H2 s2 (po.at_ (S' := S.leave n none true) s2 p2 c2 o2 rfl rfl)
    | false =>
      walk_at "g"
      rw [Bool.not_false]
      walk_at "g"
      refine ⟨cA, _, .inl n, rfl, c2, rfl, hch, ?_⟩
      exact q _ (s2.wr (by simp) c2 trivial) (po.at_ (S' := S.leave n none false) (s2.wr (by simp) c2 trivial) ((upd_ne n1).trans p2) upd_same ((upd_ne n3.symm).trans o2) rfl rfl)
  | some b =>
    rw [show bfV (some b) = V.ref b from rfl]
    walk_at "g"
    refine ⟨pA, _, rfl, DPut.k (k := .inl n) p1 (Nat.lt_of_le_of_lt hz (by decide)), ?_⟩
    have s2 : Cs [pA, cA, oA] H (upd H1 pA (.dK (putK S.pg (.inl n) (.ref b)))) := s1.wr (by simp) p1 trivial
    have p2 : upd H1 pA (.dK (putK S.pg (.inl n) (.ref b))) pA = some (.dK (putK S.pg (.inl n) (.ref b))) := upd_same
    have c2 : upd H1 pA (.dK (putK S.pg (.inl n) (.ref b))) cA = some (.dK S.ch) := (upd_ne n1.symm).trans c1
    have o2 : upd H1 pA (.dK (putK S.pg (.inl n) (.ref b))) oA = some (.dK (dropK S.og (.inl n))) := (upd_ne n2.symm).trans o1
    have x2 : upd H1 pA (.dK (putK S.pg (.inl n) (.ref b))) x = _ := (upd_ne (ne_of x1 p1 (fun z => by cases z))).trans x1
    generalize upd H1 pA (.dK (putK S.pg (.inl n) (.ref b))) = H2 at s2 p2 c2 o2 x2
    cases was with
    | true =>
      walk_at "g"
      exact q H2 s2 (po.at_ (S' := S.leave n (some b) true) s2 p2 c2 o2 rfl rfl)
    | false =>
      walk_at "g"
      rw [Bool.not_false]
      walk_at "g"
      refine ⟨cA, _, .inl n, rfl, c2, rfl, hch, ?_⟩
      exact q _ (s2.wr (by simp) c2 trivial) (po.at_ (S' := S.leave n (some b) false) (s2.wr (by simp) c2 trivial) ((upd_ne n1).trans p2) upd_same ((upd_ne n3.symm).trans o2) rfl rfl)
end
end K11
end

section
-- part K11P
set_option Elab.async false
set_option linter.all false
set_option maxRecDepth 100000
set_option maxHeartbeats 800000
open PySem PySem.Spec PyProof.Rows L2 Fw
local macro_rules | `(tactic| walk_at "e1") => `(tactic| first
  | ((with_reducible refine' w_var ?hv ?_); (case hv => rfl))
  | with_reducible refine w_c ?_
  | with_reducible refine w_op ?_
  | with_reducible refine w_un ?_
  | with_reducible refine w_cons ?_
  | with_reducible refine w_nil ?_
  | with_reducible refine w_cl ?_
  | with_reducible refine w_cb ?_
  | with_reducible refine w_gname ?_
  | with_reducible refine w_gsub ?_
  | with_reducible refine w_test ?_
  | with_reducible refine w_B ?_
  | with_reducible refine w_bl ?_
  | with_reducible refine w_and ?_
  | with_reducible refine w_or ?_
  | with_reducible refine w_not ?_
  | with_reducible refine w_if ?_
  | with_reducible refine w_I0 ?_
  | with_reducible refine Gk.w_rU ?_
  | with_reducible refine Dq.w_orV ?_
  | with_reducible refine Dq.w_js ?_
  | with_reducible refine Dq.w_js0 ?_
  | with_reducible refine Dq.w_fm ?_
  | with_reducible refine Dq.w_andV ?_
  | with_reducible refine Gk.w_iEnum ?_
  | with_reducible refine Dq.w_dget ?_
  | with_reducible refine Dq.w_dpop1 ?_
  | with_reducible refine Dq.w_ddel ?_
  | with_reducible refine Dq.w_din ?_
  | with_reducible refine Dq.w_dnotin ?_
  | with_reducible refine Dq.w_dget2 ?_
  | with_reducible refine Dq.w_dnew ?_
  | with_reducible refine Dq.w_fldaug ?_
  | with_reducible refine Dq.w_aSub ?_
  | with_reducible refine Dq.w_aAdd ?_
  | with_reducible refine Dq.w_mkd ?_
  | with_reducible refine Dq.w_notN0 ?_
  | with_reducible refine Dq.w_isN0 ?_
  | with_reducible refine Dq.w_notNR ?_
  | with_reducible refine Dq.w_isNR ?_
  | with_reducible refine Dq.w_notNI ?_
  | with_reducible refine Dq.w_isNI ?_
  | with_reducible refine L2.w_neOs ?_
  | with_reducible refine w_ipI ?_
  | with_reducible refine w_eqS ?_
  | with_reducible refine w_neS ?_
  | with_reducible refine w_eqI ?_
  | with_reducible refine w_neI ?_
  | with_reducible refine w_eqB ?_
  | with_reducible refine w_neB ?_
  | ((with_reducible refine w_eq ?hs ?_); (case hs => rfl))
  | ((with_reducible refine w_ne ?hs ?_); (case hs => rfl))
  | with_reducible refine w_fld ?_
  | with_reducible refine w_bm ?_
  | with_reducible refine w_bm0 ?_
  | with_reducible refine w_sl ?_
  | with_reducible refine w_part ?_
  | with_reducible refine w_partI ?_
  | with_reducible refine w_nopart ?_
  | ((with_reducible refine' w_ixL ?hh ?ha ?_); (case hh => first | assumption | exact upd_same); (case ha => rfl))
  | ((with_reducible refine' w_setLu ?ha ?_); (case ha => rfl))
  | ((with_reducible refine' w_setL ?hh ?ha ?_); (case hh => first | assumption | exact upd_same); (case ha => rfl))
  | with_reducible refine w_iteT ?_
  | with_reducible refine w_iteF ?_
  | with_reducible refine w_lst ?_
  | with_reducible refine w_tup ?_
  | ((with_reducible refine w_new ?hz ?_); (case hz => rfl))
  | with_reducible refine w_lc ?_
  | with_reducible refine w_iL ?_
  | with_reducible refine w_iT ?_
  | with_reducible refine w_iR1 ?_
  | with_reducible refine w_iR2 ?_
  | with_reducible refine w_yes ?_
  | with_reducible refine w_iStr ?_
  | with_reducible exact tyS
  | with_reducible refine And.intro tyS ?_
  | ((with_reducible refine w_find3 ?_); (first | rw [find3_one] | rw [starts3] | skip))
  | ((with_reducible refine w_2s ?_); (try rw [find_one]))
  | ((with_reducible refine w_inS ?_); rw [S_list])
  | ((with_reducible refine w_lenS ?hz ?_); (case hz => first | assumption | omega | decide); rw [SX.S_len])
  | ((with_reducible refine w_addS ?hz ?_); (case hz => first | assumption | omega | decide); rw [vS_cat])
  | with_reducible refine w_mk ?_
  | with_reducible refine w_me ?_
  | with_reducible refine w_sfld ?_
  | ((with_reducible refine' w_gtup ?hh ?hn ?_); (case hh => first | assumption | exact upd_same); (case hn => rfl))
  | with_reducible refine w_gcons ?_
  | with_reducible refine w_gnil ?_
  | with_reducible refine w_repl ?_
  | with_reducible refine w_star ?_
  | with_reducible refine w_revL ?_
  | with_reducible refine w_isiS ?_
  | with_reducible refine w_isiI ?_
  | with_reducible refine w_isiN ?_
  | with_reducible refine w_chain ?_
  | with_reducible refine w_iEnumT ?_
  | with_reducible refine w_iZip3 ?_
  | with_reducible refine w_iZip ?_
  | with_reducible refine w_lenR3 ?_
  | with_reducible refine w_x1i ?_
  | with_reducible refine w_x1b ?_
  | with_reducible refine w_x1s ?_
  | with_reducible refine w_int1i ?_
  | with_reducible refine w_int1b ?_
  | ((with_reducible refine w_mod ?hc ?_); (case hc => omega))
  | ((with_reducible refine w_fdivW ?hc ?hd ?_); (case hc => omega); (case hd => omega))
  | ((with_reducible refine w_mul ?hc ?_); (case hc => first | exact Or.inr ⟨by decide, by decide⟩ | exact Or.inl ⟨by decide, by decide⟩))
  | ((with_reducible refine w_pow ?hc ?_); (case hc => exact ⟨by decide, by decide, by decide⟩)))
local macro_rules | `(tactic| walk_at "f1") => `(tactic| first
  | ((with_reducible refine' K11.g_disk ?hW ?hK ?hs ?hx ?_); (case hW => assumption); (case hK => rfl); (case hs => rfl); (case hx => first | assumption | exact upd_same))
  | ((with_reducible refine' K11.g_capacity ?hW ?hK ?hs ?hx ?_); (case hW => assumption); (case hK => rfl); (case hs => rfl); (case hx => first | assumption | exact upd_same))
  | ((with_reducible refine' K11.g_pages ?hW ?hK ?hs ?hx ?_); (case hW => assumption); (case hK => rfl); (case hs => rfl); (case hx => first | assumption | exact upd_same))
  | ((with_reducible refine' K11.g_changed ?hW ?hK ?hs ?hx ?_); (case hW => assumption); (case hK => rfl); (case hs => rfl); (case hx => first | assumption | exact upd_same))
  | ((with_reducible refine' K11.g_open_group ?hW ?hK ?hs ?hx ?_); (case hW => assumption); (case hK => rfl); (case hs => rfl); (case hx => first | assumption | exact upd_same))
  | ((with_reducible refine' K11.g_parts ?hW ?hK ?hs ?hx ?_); (case hW => assumption); (case hK => rfl); (case hs => rfl); (case hx => first | assumption | exact upd_same))
  | ((with_reducible refine' K11.g_reads ?hW ?hK ?hs ?hx ?_); (case hW => assumption); (case hK => rfl); (case hs => rfl); (case hx => first | assumption | exact upd_same))
  | ((with_reducible refine' K11.g_writes ?hW ?hK ?hs ?hx ?_); (case hW => assumption); (case hK => rfl); (case hs => rfl); (case hx => first | assumption | exact upd_same))
  | ((with_reducible refine' K11.g_block_size ?hW ?hK ?hs ?hx ?_); (case hW => assumption); (case hK => rfl); (case hs => rfl); (case hx => first | assumption | exact upd_same))
  | ((with_reducible refine' K11.g_blocks ?hW ?hK ?hs ?hx ?_); (case hW => assumption); (case hK => rfl); (case hs => rfl); (case hx => first | assumption | exact upd_same))
  | ((with_reducible refine' K11.g_log ?hW ?hK ?hs ?hx ?_); (case hW => assumption); (case hK => rfl); (case hs => rfl); (case hx => first | assumption | exact upd_same))
  | ((with_reducible refine' K11.g_waiting ?hW ?hK ?hs ?hx ?_); (case hW => assumption); (case hK => rfl); (case hs => rfl); (case hx => first | assumption | exact upd_same))
  | ((with_reducible refine' K11.g_written ?hW ?hK ?hs ?hx ?_); (case hW => assumption); (case hK => rfl); (case hs => rfl); (case hx => first | assumption | exact upd_same))
  | ((with_reducible refine' K11.g_log_tail ?hW ?hK ?hs ?hx ?_); (case hW => assumption); (case hK => rfl); (case hs => rfl); (case hx => first | assumption | exact upd_same))
  | ((with_reducible refine' K11.g_fuse ?hW ?hK ?hs ?hx ?_); (case hW => assumption); (case hK => rfl); (case hs => rfl); (case hx => first | assumption | exact upd_same))
  | ((with_reducible refine' K11.g_dead ?hW ?hK ?hs ?hx ?_); (case hW => assumption); (case hK => rfl); (case hs => rfl); (case hx => first | assumption | exact upd_same))
  | ((with_reducible refine' K11.g_steps ?hW ?hK ?hs ?hx ?_); (case hW => assumption); (case hK => rfl); (case hs => rfl); (case hx => first | assumption | exact upd_same))
  | walk_at "e1")
local macro_rules | `(tactic| walk_at "s1") => `(tactic| first
  | with_reducible refine w_seq ?_
  | with_reducible refine w_asg ?_
  | with_reducible refine w_ret ?_
  | with_reducible refine w_par ?_
  | with_reducible refine w_drop ?_
  | with_reducible refine w_next ?_
  | with_reducible refine w_ifs ?_
  | ((with_reducible refine' w_aug ?hv ?_); (case hv => rfl))
  | with_reducible refine w_for ?_
  | walk_at "f1")
local macro_rules | `(tactic| walk_at "e") => `(tactic| repeat walk_at "e1")
local macro_rules | `(tactic| walk_at "g") => `(tactic| repeat walk_at "s1")

namespace K11
open Dc Gk M5 M10 M8 M11 LamX
/-! ### pages and disks as data, what a pool keeps -/
abbrev Pgc := Int × Int × List Cel
def bytC (c : Pgc) : List Int := pageB c.1 c.2.1 c.2.2 96
structure Pok (c : Pgc) : Prop where
  k : 1 ≤ c.1 ∧ c.1 ≤ 4
  l : 0 ≤ c.2.1 ∧ c.2.1 < 256 ^ 4
  sz : sizeL c.2.2 ≤ 96
  ce : ∀ z ∈ c.2.2, okC z
  by_ : Byt (bytC c)
theorem len_size (cs : List Cel) : cs.length ≤ sizeL cs := by
  have : ∀ cs : List Cel, cs.length ≤ (cs.map fun c => 4 + c.1.length + c.2.length).sum := fun cs => by
    induction cs with
    | nil => exact Nat.le_refl _
    | cons c r ih => rw [List.length_cons, List.map_cons, List.sum_cons]; omega
  have h := this cs
  unfold sizeL
  omega
theorem Pok.len {c : Pgc} (h : Pok c) : c.2.2.length ≤ 96 := Nat.le_trans (len_size _) h.sz
theorem Pok.back {c : Pgc} (h : Pok c) : pageO (bytC c) = some c := pageO_page h.sz h.k h.l (by have := h.len; omega) h.ce
theorem Pok.bl {c : Pgc} (h : Pok c) : (bytC c).length = 96 := page_len h.sz
section
variable {K : PySem.W.Frag} {C cPg cD cP : Addr} {H H' : Hp} {M : List Addr}
theorem CelO.ch {z : Addr} {c : Cel} (h : CelO K H z c) (s : Ch M H H') : CelO K H' z c := by
  obtain ⟨ka, va, h1, h2, h3⟩ := h
  exact ⟨ka, va, s.sqT h1, s.sqT h2, s.sqT h3⟩
theorem CelsO.ch (s : Ch M H H') : ∀ {zs : List Addr} {cs : List Cel}, CelsO K H zs cs → CelsO K H' zs cs
  | _, _, .nil => .nil
  | _, _, .cons h r => .cons (h.ch s) (CelsO.ch s r)
theorem PgO.ch {p : Addr} {k l : Int} {cs : List Cel} (h : PgO K C H p k l cs) (s : Ch M H H') (n : p ∉ M) : PgO K C H' p k l cs := by
  obtain ⟨dx, t, zs, h1, h2, h3⟩ := h
  exact ⟨dx, t, zs, s.ins h1 n, s.tup h2, h3.ch s⟩
def PgC (K : PySem.W.Frag) (C : Addr) (H : Hp) (p : Addr) (c : Pgc) : Prop := PgO K C H p c.1 c.2.1 c.2.2
def PgV (K : PySem.W.Frag) (C : Addr) (H : Hp) (v : V) (c : Pgc) : Prop := ∃ p, v = .ref p ∧ PgC K C H p c
def rdV (D : DS) (n : Int) : Option V := (valV D.wr (.inl n)).or (valV D.bs (.inl n))
def OnD (K : PySem.W.Frag) (H : Hp) (D : DS) (n : Int) (c : Pgc) : Prop := ∃ a, rdV D n = some (.ref a) ∧ SqT K H a ((bytC c).map V.int)
theorem OnD.ch {D : DS} {n : Int} {c : Pgc} (h : OnD K H D n c) (s : Ch M H H') : OnD K H' D n c := h.elim fun a h => ⟨a, h.1, s.sqT h.2⟩
structure Ad where
  dx : Addr
  pA : Addr
  cA : Addr
  oA : Addr
  rA : Addr
  bA : Addr
  qA : Addr
  wA : Addr
def Ad.all (L : Ad) (x d : Addr) : List Addr := [x, L.pA, L.cA, L.oA, L.rA, d, L.bA, L.qA, L.wA]
structure Sys (K : PySem.W.Frag) (cD cP : Addr) (H : Hp) (x d : Addr) (cap : Int) (L : Ad) (S : PS) (D : DS) : Prop where
  hx : H x = some (.ins cP L.dx (F8 (.ref d) (.int cap) (.ref L.pA) (.ref L.cA) (.ref L.oA) (.ref L.rA) (.int S.rd) (.int S.wr)))
  hr : H L.rA = some (.lst [])
  pg : H L.pA = some (.dK S.pg)
  ch : H L.cA = some (.dK S.ch)
  og : H L.oA = some (.dK S.og)
  dk : DskO K cD H d L.bA L.qA L.wA D
  nd : (L.all x d).Nodup
section
variable {x d : Addr} {cap : Int} {L : Ad} {S : PS} {D : DS}
theorem Sys.ne3 (h : Sys K cD cP H x d cap L S D) : L.pA ≠ L.cA ∧ L.pA ≠ L.oA ∧ L.cA ≠ L.oA := by
  have nd := h.nd
  unfold Ad.all at nd
  simp only [List.nodup_cons, List.mem_cons, List.not_mem_nil, or_false, not_or, not_false_eq_true, List.nodup_nil, and_true] at nd
  obtain ⟨_, ⟨a, b, _⟩, ⟨c, _⟩, _⟩ := nd
  exact ⟨a, b, c⟩
theorem Sys.po (h : Sys K cD cP H x d cap L S D) : PoolO K cP H x d cap L.pA L.cA L.oA S := ⟨⟨_, _, h.hx, h.hr⟩, h.pg, h.ch, h.og, h.ne3⟩
theorem Sys.sm (h : Sys K cD cP H x d cap L S D) (s : Same H H') : Sys K cD cP H' x d cap L S D := ⟨s _ _ h.hx, s _ _ h.hr, s _ _ h.pg, s _ _ h.ch, s _ _ h.og, h.dk.sm s, h.nd⟩
theorem Sys.cho (h : Sys K cD cP H x d cap L S D) (s : Ch M H H') (n : ∀ a ∈ L.all x d, a ∉ M) : Sys K cD cP H' x d cap L S D := by
  have m : ∀ a, a ∈ [x, L.pA, L.cA, L.oA, L.rA, d, L.bA, L.qA, L.wA] → a ∉ M := n
  exact ⟨s.ins h.hx (m _ (by simp)), s.lst h.hr (m _ (by simp)), s.dk h.pg (m _ (by simp)), s.dk h.ch (m _ (by simp)), s.dk h.og (m _ (by simp)), h.dk.ch s (m _ (by simp)) (m _ (by simp)) (m _ (by simp)) (m _ (by simp)), h.nd⟩
theorem Sys.pgn (h : Sys K cD cP H x d cap L S D) {p : Addr} {c : Pgc} (hp : PgC K cPg H p c) : p ∉ L.all x d := by
  obtain ⟨dx, t, zs, h1, _⟩ := hp
  obtain ⟨⟨dx2, lA, tA, ys, hd, _, _, hq, _⟩, a2, b2, _⟩ := h.dk
  intro z
  unfold Ad.all at z
  simp only [List.mem_cons, List.not_mem_nil, or_false] at z
  have hx := h.hx
  have h2 := h.hr
  have h3 := h.pg
  have h4 := h.ch
  have h5 := h.og
  rcases z with z | z | z | z | z | z | z | z | z <;> subst z
  · rw [hx] at h1; cases h1
  · rw [h3] at h1; cases h1
  · rw [h4] at h1; cases h1
  · rw [h5] at h1; cases h1
  · rw [h2] at h1; cases h1
  · rw [hd] at h1; cases h1
  · rw [a2] at h1; cases h1
  · rw [hq] at h1; cases h1
  · rw [b2] at h1; cases h1
end
theorem Ad.mem {L : Ad} {x d : Addr} : x ∈ L.all x d ∧ L.pA ∈ L.all x d ∧ L.cA ∈ L.all x d ∧ L.oA ∈ L.all x d ∧ L.rA ∈ L.all x d ∧ d ∈ L.all x d ∧ L.bA ∈ L.all x d ∧ L.qA ∈ L.all x d ∧ L.wA ∈ L.all x d := by
  unfold Ad.all
  simp
section
variable {x d : Addr} {cap : Int} {L : Ad} {S : PS} {D : DS}
theorem Sys.nes (h : Sys K cD cP H x d cap L S D) : (x ≠ L.pA ∧ x ≠ L.cA ∧ x ≠ L.oA ∧ x ≠ L.rA ∧ x ≠ d ∧ x ≠ L.bA ∧ x ≠ L.qA ∧ x ≠ L.wA) ∧ (L.pA ≠ L.cA ∧ L.pA ≠ L.oA ∧ L.pA ≠ L.rA ∧ L.pA ≠ d ∧ L.pA ≠ L.bA ∧ L.pA ≠ L.qA ∧ L.pA ≠ L.wA) ∧ (L.cA ≠ L.oA ∧ L.cA ≠ L.rA ∧ L.cA ≠ d ∧ L.cA ≠ L.bA ∧ L.cA ≠ L.qA ∧ L.cA ≠ L.wA) ∧ (L.oA ≠ L.rA ∧ L.oA ≠ d ∧ L.oA ≠ L.bA ∧ L.oA ≠ L.qA ∧ L.oA ≠ L.wA) ∧ (L.rA ≠ d ∧ L.rA ≠ L.bA ∧ L.rA ≠ L.qA ∧ L.rA ≠ L.wA) := by
  have nd := h.nd
  unfold Ad.all at nd
  simp only [List.nodup_cons, List.mem_cons, List.not_mem_nil, or_false, not_or, not_false_eq_true, List.nodup_nil, and_true] at nd
  obtain ⟨a, b, c, e, f, _⟩ := nd
  exact ⟨a, b, c, e, f⟩
theorem Sys.nd8 (h : Sys K cD cP H x d cap L S D) : [x, L.pA, L.cA, L.oA, d, L.bA, L.qA, L.wA].Nodup := by
  refine List.Nodup.sublist ?_ h.nd
  exact (((((List.Sublist.refl _).cons L.rA).cons₂ L.oA).cons₂ L.cA).cons₂ L.pA).cons₂ x
theorem Sys.write (h : Sys K cD cP H x d cap L S D) {S' : PS} {D' : DS} (s : Cs [x, L.cA, d, L.qA, L.wA] H H') (dk : DskO K cD H' d L.bA L.qA L.wA D')
    (hx : H' x = some (.ins cP L.dx (F8 (.ref d) (.int cap) (.ref L.pA) (.ref L.cA) (.ref L.oA) (.ref L.rA) (.int S'.rd) (.int S'.wr)))) (hc : H' L.cA = some (.dK S'.ch)) (e1 : S'.pg = S.pg) (e2 : S'.og = S.og) : Sys K cD cP H' x d cap L S' D' := by
  obtain ⟨⟨a1, a2, a3, a4, _⟩, ⟨b1, b2, b3, b4, b5, b6, b7⟩, ⟨c1, c2, _⟩, ⟨d1, d2, d3, d4, d5⟩, e3, e4, e5, e6⟩ := h.nes
  refine ⟨hx, s.ch.lst h.hr ?_, e1 ▸ s.ch.dk h.pg ?_, hc, e2 ▸ s.ch.dk h.og ?_, dk, h.nd⟩
  · simp only [List.mem_cons, List.not_mem_nil, or_false, not_or]; exact ⟨a4.symm, c2.symm, e3, e5, e6⟩
  · simp only [List.mem_cons, List.not_mem_nil, or_false, not_or]; exact ⟨a1.symm, b1, b4, b6, b7⟩
  · simp only [List.mem_cons, List.not_mem_nil, or_false, not_or]; exact ⟨a3.symm, c1.symm, d2, d4, d5⟩
theorem Sys.setP (h : Sys K cD cP H x d cap L S D) (kvs : List (Key × V)) : Sys K cD cP (upd H L.pA (.dK kvs)) x d cap L { S with pg := kvs } D := by
  obtain ⟨⟨a1, _⟩, ⟨b1, b2, b3, b4, b5, b6, b7⟩, _⟩ := h.nes
  have s : Cs [L.pA] H (upd H L.pA (.dK kvs)) := (Cs.refl _ _).wr mem1 h.pg trivial
  have n : ∀ {b}, L.pA ≠ b → b ∉ [L.pA] := fun h z => h (List.mem_singleton.mp z).symm
  exact ⟨s.ch.ins h.hx (n a1.symm), s.ch.lst h.hr (n b3), upd_same, s.ch.dk h.ch (n b1), s.ch.dk h.og (n b2), h.dk.ch s.ch (n b4) (n b5) (n b6) (n b7), h.nd⟩
theorem Sys.setC (h : Sys K cD cP H x d cap L S D) (kvs : List (Key × V)) : Sys K cD cP (upd H L.cA (.dK kvs)) x d cap L { S with ch := kvs } D := by
  obtain ⟨⟨_, a2, _⟩, ⟨b1, _⟩, ⟨c1, c2, c3, c4, c5, c6⟩, _⟩ := h.nes
  have s : Cs [L.cA] H (upd H L.cA (.dK kvs)) := (Cs.refl _ _).wr mem1 h.ch trivial
  have n : ∀ {b}, L.cA ≠ b → b ∉ [L.cA] := fun h z => h (List.mem_singleton.mp z).symm
  exact ⟨s.ch.ins h.hx (n a2.symm), s.ch.lst h.hr (n c2), s.ch.dk h.pg (n b1.symm), upd_same, s.ch.dk h.og (n c1), h.dk.ch s.ch (n c3) (n c4) (n c5) (n c6), h.nd⟩
theorem Sys.setO (h : Sys K cD cP H x d cap L S D) (kvs : List (Key × V)) : Sys K cD cP (upd H L.oA (.dK kvs)) x d cap L { S with og := kvs } D := by
  obtain ⟨⟨_, _, a3, _⟩, ⟨_, b2, _⟩, ⟨c1, _⟩, ⟨d1, d2, d3, d4, d5⟩, _⟩ := h.nes
  have s : Cs [L.oA] H (upd H L.oA (.dK kvs)) := (Cs.refl _ _).wr mem1 h.og trivial
  have n : ∀ {b}, L.oA ≠ b → b ∉ [L.oA] := fun h z => h (List.mem_singleton.mp z).symm
  exact ⟨s.ch.ins h.hx (n a3.symm), s.ch.lst h.hr (n d1), s.ch.dk h.pg (n b2.symm), s.ch.dk h.ch (n c1.symm), upd_same, h.dk.ch s.ch (n d2) (n d3) (n d4) (n d5), h.nd⟩
theorem Sys.setR (h : Sys K cD cP H x d cap L S D) (r : Int) : Sys K cD cP (upd H x (.ins cP L.dx (F8 (.ref d) (.int cap) (.ref L.pA) (.ref L.cA) (.ref L.oA) (.ref L.rA) (.int r) (.int S.wr)))) x d cap L { S with rd := r } D := by
  obtain ⟨⟨a1, a2, a3, a4, a5, a6, a7, a8⟩, _⟩ := h.nes
  have s : Cs [x] H (upd H x (.ins cP L.dx (F8 (.ref d) (.int cap) (.ref L.pA) (.ref L.cA) (.ref L.oA) (.ref L.rA) (.int r) (.int S.wr)))) := (Cs.refl _ _).wr mem1 h.hx trivial
  have n : ∀ {b}, x ≠ b → b ∉ [x] := fun h z => h (List.mem_singleton.mp z).symm
  exact ⟨upd_same, s.ch.lst h.hr (n a4), s.ch.dk h.pg (n a1), s.ch.dk h.ch (n a2), s.ch.dk h.og (n a3), h.dk.ch s.ch (n a5) (n a6) (n a7) (n a8), h.nd⟩
theorem Sys.csX (h : Sys K cD cP H x d cap L S D) {o : HO} : Cs (L.all x d) H (upd H x o) := (Cs.refl _ _).wr Ad.mem.1 h.hx trivial
theorem Sys.csP (h : Sys K cD cP H x d cap L S D) {o : HO} : Cs (L.all x d) H (upd H L.pA o) := (Cs.refl _ _).wr Ad.mem.2.1 h.pg trivial
theorem Sys.csC (h : Sys K cD cP H x d cap L S D) {o : HO} : Cs (L.all x d) H (upd H L.cA o) := (Cs.refl _ _).wr Ad.mem.2.2.1 h.ch trivial
theorem Sys.csO (h : Sys K cD cP H x d cap L S D) {o : HO} : Cs (L.all x d) H (upd H L.oA o) := (Cs.refl _ _).wr Ad.mem.2.2.2.1 h.og trivial
end
end
/-! ### dicts -/
section
variable {kvs : List (Key × V)} {k j : Key}
theorem val_drop : ∀ kvs : List (Key × V), valV (dropK kvs k) j = if j = k then none else valV kvs j
  | [] => by
    show valV [] j = _
    rw [valV_nil]
    split <;> rfl
  | p :: r => by
    by_cases e : p.1 = k
    · rw [dropK_pos e, val_drop r]
      by_cases e2 : j = k
      · rw [if_pos e2, if_pos e2]
      · rw [if_neg e2, if_neg e2, valV_neg (fun z => e2 (z.symm.trans e))]
    · rw [dropK_neg e]
      by_cases e3 : p.1 = j
      · rw [valV_pos e3, if_neg (fun z => e (e3.trans z)), valV_pos e3]
      · rw [valV_neg e3, val_drop r, valV_neg e3]
theorem drop_same : valV (dropK kvs k) k = none := by rw [val_drop, if_pos rfl]
theorem drop_ne (h : j ≠ k) : valV (dropK kvs k) j = valV kvs j := by rw [val_drop, if_neg h]
theorem put_same {v : V} : valV (putK kvs k v) k = some v := by rw [valV_put, if_pos rfl]
theorem put_ne {v : V} (h : j ≠ k) : valV (putK kvs k v) j = valV kvs j := by rw [valV_put, if_neg h]
theorem inl_ne {n m : Int} (h : m ≠ n) : (Sum.inl m : Key) ≠ .inl n := fun z => h (Sum.inl.inj z)
/-- keys are page numbers -/
def K5 (kvs : List (Key × V)) : Prop := ∀ p ∈ kvs, ∃ n : Nat, p.1 = .inl (n : Int) ∧ n < 5
theorem K5.drop (h : K5 kvs) : K5 (dropK kvs k) := fun p hp => h p (dropK_mem hp)
theorem K5.put {n : Nat} {v : V} (h : K5 kvs) (hn : n < 5) : K5 (putK kvs (.inl (n : Int)) v) := fun p hp => by
  unfold putK at hp
  split at hp
  · obtain ⟨q, hq, e⟩ := List.mem_map.mp hp
    obtain ⟨m, h1, h2⟩ := h q hq
    split at e
    · rw [← e]; exact ⟨m, h1, h2⟩
    · rw [← e]; exact ⟨m, h1, h2⟩
  · rcases List.mem_append.mp hp with hp | hp
    · exact h p hp
    · rw [List.mem_singleton.mp hp]; exact ⟨n, rfl, hn⟩
theorem K5.at_ (h : K5 kvs) {n : Int} {v : V} (e : valV kvs (.inl n) = some v) : ∃ m : Nat, n = (m : Int) ∧ m < 5 := by
  obtain ⟨p, hp, e2⟩ := List.mem_map.mp (valV_in e)
  obtain ⟨m, h1, h2⟩ := h p hp
  exact ⟨m, Sum.inl.inj (e2.symm.trans h1), h2⟩
theorem K5.int (h : K5 kvs) : IntK kvs := fun p hp => (h p hp).elim fun n h => ⟨n, h.1⟩
/-- the keys as numbers -/
theorem K5.ks (h : K5 kvs) : ∃ ks : List Int, kvs.map (·.1) = ks.map Sum.inl := by
  induction kvs with
  | nil => exact ⟨[], rfl⟩
  | cons p r ih =>
    obtain ⟨ks, e⟩ := ih fun q hq => h q (List.mem_cons_of_mem _ hq)
    obtain ⟨n, e1, _⟩ := h p List.mem_cons_self
    exact ⟨(n : Int) :: ks, by rw [List.map_cons, e1, e]; rfl⟩
theorem mem_ks {ks : List Int} (e : kvs.map (·.1) = ks.map Sum.inl) (n : Int) : n ∈ ks ↔ (valV kvs (.inl n)).isSome = true := by
  constructor
  · intro h
    cases z : valV kvs (.inl n) with
    | some v => rfl
    | none =>
      have := valV_not z
      rw [e] at this
      exact absurd (List.mem_map.mpr ⟨n, h, rfl⟩) this
  · intro h
    obtain ⟨v, hv⟩ := Option.isSome_iff_exists.mp h
    have := valV_in hv
    rw [e] at this
    obtain ⟨m, hm, e2⟩ := List.mem_map.mp this
    rw [← Sum.inl.inj e2]; exact hm
theorem nd_ks {ks : List Int} (e : kvs.map (·.1) = ks.map Sum.inl) (h : (kvs.map (·.1)).Nodup) : ks.Nodup := by
  rw [e] at h
  exact (List.pairwise_map.mp h).imp fun h e => h (by rw [e])
theorem sub_len {α : Type} [DecidableEq α] : ∀ {l m : List α}, l.Nodup → (∀ a ∈ l, a ∈ m) → l.length ≤ m.length
  | [], _, _, _ => Nat.zero_le _
  | a :: l, m, h, s => by
    obtain ⟨h1, h2⟩ := List.nodup_cons.mp h
    have hm := s a List.mem_cons_self
    have := sub_len (m := m.erase a) h2 fun b hb => (List.mem_erase_of_ne (fun z => h1 (by rw [← z]; exact hb))).mpr (s b (List.mem_cons_of_mem _ hb))
    rw [List.length_erase_of_mem hm] at this
    have := List.length_pos_of_mem hm
    rw [List.length_cons]
    omega
theorem K5.len (h : K5 kvs) (nd : (kvs.map (·.1)).Nodup) : kvs.length ≤ 5 := by
  have := sub_len (m := (List.range 5).map fun n : Nat => (Sum.inl (n : Int) : Key)) nd fun a ha => by
    obtain ⟨p, hp, rfl⟩ := List.mem_map.mp ha
    obtain ⟨n, e, hn⟩ := h p hp
    exact List.mem_map.mpr ⟨n, List.mem_range.mpr hn, e.symm⟩
  rw [List.length_map, List.length_map, List.length_range] at this
  exact this
end
/-! ### what a pool keeps -/
abbrev Cont := Int → Option Pgc
def Cont.set (f : Cont) (n : Int) (c : Option Pgc) : Cont := fun m => if m = n then c else f m
structure PI (K : PySem.W.Frag) (cPg : Addr) (H : Hp) (S : PS) (D : DS) (now kept : Cont) : Prop where
  kp : K5 S.pg
  kc : K5 S.ch
  ko : K5 S.og
  np : (S.pg.map (·.1)).Nodup
  nc : (S.ch.map (·.1)).Nodup
  no : (S.og.map (·.1)).Nodup
  pg : ∀ n v, valV S.pg (.inl n) = some v → ∃ c, now n = some c ∧ PgV K cPg H v c
  dk : ∀ n c, now n = some c → (valV S.pg (.inl n) = none ∨ (valV S.og (.inl n) = none ∧ valV S.ch (.inl n) = none)) → OnD K H D n c
  og : ∀ n v, valV S.og (.inl n) = some v → (valV S.pg (.inl n)).isSome = true ∧ (valV S.ch (.inl n)).isSome = true ∧
    ∃ (t : Addr) (bf : Option Addr) (was : Bool), v = .ref t ∧ SqT K H t [bfV bf, .bl was] ∧ (∀ p, bf = some p → ∃ c, kept n = some c ∧ PgC K cPg H p c) ∧ (bf = none → was = false) ∧ (bf = none ∨ was = false → ∀ c, kept n = some c → OnD K H D n c)
  ch : ∀ n, (valV S.ch (.inl n)).isSome = true → (valV S.pg (.inl n)).isSome = true
  eq : ∀ n, valV S.og (.inl n) = none → now n = kept n
  ok : ∀ n c, now n = some c → Pok c
  ok2 : ∀ n c, kept n = some c → Pok c
  wp : D.wr = putW D.ws []
  al : D.dd = false ∧ D.fu = none
  cn : ((D.bs.length + D.ws.length : Nat) : Int) ≤ S.wr
section
variable {K : PySem.W.Frag} {cPg cD cP : Addr} {H H' : Hp} {M : List Addr} {S : PS} {D : DS} {now kept : Cont}
/-- pages and tuples stay -/
structure Kps (K : PySem.W.Frag) (cPg : Addr) (H H' : Hp) : Prop where
  p : ∀ a c, PgC K cPg H a c → PgC K cPg H' a c
  t : ∀ a xs, SqT K H a xs → SqT K H' a xs
theorem Kps.of {x d : Addr} {cap : Int} {L : Ad} (h : Sys K cD cP H x d cap L S D) (s : Ch (L.all x d) H H') : Kps K cPg H H' := ⟨fun _ _ hp => PgO.ch hp s (h.pgn hp), fun _ _ h => s.sqT h⟩
theorem OnD.kp {n : Int} {c : Pgc} (h : OnD K H D n c) (s : Kps K cPg H H') : OnD K H' D n c := h.elim fun a h => ⟨a, h.1, s.t _ _ h.2⟩
theorem PI.kps (h : PI K cPg H S D now kept) (s : Kps K cPg H H') : PI K cPg H' S D now kept where
  kp := h.kp
  kc := h.kc
  ko := h.ko
  np := h.np
  nc := h.nc
  no := h.no
  pg n v e := by
    obtain ⟨c, h1, p, h2, h3⟩ := h.pg n v e
    exact ⟨c, h1, p, h2, s.p _ _ h3⟩
  dk n c e z := (h.dk n c e z).kp s
  og n v e := by
    obtain ⟨h1, h2, t, bf, was, h3, h4, h5, h6, h7⟩ := h.og n v e
    exact ⟨h1, h2, t, bf, was, h3, s.t _ _ h4, fun p hp => (h5 p hp).elim fun c hc => ⟨c, hc.1, s.p _ _ hc.2⟩, h6, fun z c hc => (h7 z c hc).kp s⟩
  ch := h.ch
  eq := h.eq
  ok := h.ok
  ok2 := h.ok2
  wp := h.wp
  al := h.al
  cn := h.cn
theorem PI.alive (h : PI K cPg H S D now kept) : D.ok = true := by
  unfold DS.ok
  rw [h.al.1, h.al.2]
  rfl
theorem step_al (h : D.dd = false ∧ D.fu = none) : D.step.dd = false ∧ D.step.fu = none := by
  unfold DS.step
  rw [h.1, h.2, if_neg Bool.false_ne_true, if_neg (fun z => by cases z)]
  exact ⟨rfl, rfl⟩
theorem PI.wlen (h : PI K cPg H S D now kept) {B : Nat} (b : S.wr ≤ B) : D.ws.length ≤ B ∧ D.wr.length ≤ B ∧ D.bs.length + D.ws.length ≤ B := by
  have := h.cn
  have h2 := len_putW D.ws []
  rw [← h.wp] at h2
  simp only [List.length_nil] at h2
  omega
/-- a changed page is written -/
theorem PI.write (h : PI K cPg H S D now kept) {n : Int} {a : Addr} {c : Pgc} (ho : valV S.og (.inl n) = none) (hv : now n = some c) (ha : SqT K H a ((bytC c).map V.int)) :
    PI K cPg H { S with ch := dropK S.ch (.inl n), wr := S.wr + 1 } (D.write n a) now kept where
  kp := h.kp
  kc := h.kc.drop
  ko := h.ko
  np := h.np
  nc := nd_dropK h.nc
  no := h.no
  pg := h.pg
  dk m c' e z := by
    by_cases e1 : m = n
    · subst e1
      rw [hv] at e
      cases e
      exact ⟨a, by show (valV (putK D.wr _ _) _).or _ = _; rw [put_same]; rfl, ha⟩
    · have z' : valV S.pg (.inl m) = none ∨ (valV S.og (.inl m) = none ∧ valV S.ch (.inl m) = none) := by
        rcases z with z | ⟨z1, z2⟩
        · exact .inl z
        · rw [drop_ne (inl_ne e1)] at z2
          exact .inr ⟨z1, z2⟩
      obtain ⟨b, h1, h2⟩ := h.dk m c' e z'
      refine ⟨b, ?_, h2⟩
      show (valV (putK D.wr _ _) _).or (valV D.step.bs _) = _
      rw [put_ne (inl_ne e1), step_bs]
      exact h1
  og m v e := by
    have e1 : m ≠ n := fun z => by rw [z, ho] at e; cases e
    obtain ⟨h1, h2, t, bf, was, h3, h4, h5, h6, h7⟩ := h.og m v e
    refine ⟨h1, by show (valV (dropK S.ch _) _).isSome = true; rw [drop_ne (inl_ne e1)]; exact h2, t, bf, was, h3, h4, h5, h6, fun z c hc => ?_⟩
    obtain ⟨b, g1, g2⟩ := h7 z c hc
    refine ⟨b, ?_, g2⟩
    show (valV (putK D.wr _ _) _).or (valV D.step.bs _) = _
    rw [put_ne (inl_ne e1), step_bs]
    exact g1
  ch m e := by
    by_cases e1 : m = n
    · subst e1
      have e : (valV (dropK S.ch (.inl m)) (.inl m)).isSome = true := e
      rw [drop_same] at e
      cases e
    · have e : (valV (dropK S.ch (.inl n)) (.inl m)).isSome = true := e
      rw [drop_ne (inl_ne e1)] at e
      exact h.ch m e
  eq := h.eq
  ok := h.ok
  ok2 := h.ok2
  wp := by
    show putK D.wr _ _ = putW (D.ws ++ [(n, a)]) []
    rw [putW_snoc, ← h.wp]
  al := step_al h.al
  cn := by
    have := h.cn
    show ((D.step.bs.length + (D.ws ++ [(n, a)]).length : Nat) : Int) ≤ S.wr + 1
    rw [step_bs, List.length_append, List.length_singleton]
    omega
/-- a page is dropped that is on the disk -/
theorem PI.dropPg (h : PI K cPg H S D now kept) {n : Int} (ho : valV S.og (.inl n) = none) (hc : valV S.ch (.inl n) = none) : PI K cPg H { S with pg := dropK S.pg (.inl n) } D now kept where
  kp := h.kp.drop
  kc := h.kc
  ko := h.ko
  np := nd_dropK h.np
  nc := h.nc
  no := h.no
  pg m v e := by
    by_cases e1 : m = n
    · subst e1
      have e : valV (dropK S.pg (.inl m)) (.inl m) = some v := e
      rw [drop_same] at e
      cases e
    · have e : valV (dropK S.pg (.inl n)) (.inl m) = some v := e
      rw [drop_ne (inl_ne e1)] at e
      exact h.pg m v e
  dk m c e z := by
    by_cases e1 : m = n
    · subst e1
      exact h.dk m c e (.inr ⟨ho, hc⟩)
    · refine h.dk m c e (z.imp (fun z => ?_) id)
      have z : valV (dropK S.pg (.inl n)) (.inl m) = none := z
      rw [drop_ne (inl_ne e1)] at z
      exact z
  og m v e := by
    have e1 : m ≠ n := fun z => by rw [z, ho] at e; cases e
    obtain ⟨h1, h2⟩ := h.og m v e
    exact ⟨by show (valV (dropK S.pg _) _).isSome = true; rw [drop_ne (inl_ne e1)]; exact h1, h2⟩
  ch m e := by
    have e1 : m ≠ n := fun z => by
      have e : (valV S.ch (.inl m)).isSome = true := e
      rw [z, hc] at e
      cases e
    show (valV (dropK S.pg _) _).isSome = true
    rw [drop_ne (inl_ne e1)]
    exact h.ch m e
  eq := h.eq
  ok := h.ok
  ok2 := h.ok2
  wp := h.wp
  al := h.al
  cn := h.cn
/-- a page comes (back) behind the others -/
theorem PI.addPg (h : PI K cPg H S D now kept) {n : Nat} {v : V} {c : Pgc} (hn : n < 5) (hv : now n = some c) (hp : PgV K cPg H v c) (S' : PS) (e1 : S'.pg = putK (dropK S.pg (.inl (n : Int))) (.inl (n : Int)) v) (e2 : S'.ch = S.ch) (e3 : S'.og = S.og) (e4 : S'.wr = S.wr)
    (hd : valV S.pg (.inl (n : Int)) = none → OnD K H D n c) : PI K cPg H S' D now kept where
  kp := by rw [e1]; exact h.kp.drop.put hn
  kc := by rw [e2]; exact h.kc
  ko := by rw [e3]; exact h.ko
  np := by rw [e1]; exact nodup_put (nd_dropK h.np)
  nc := by rw [e2]; exact h.nc
  no := by rw [e3]; exact h.no
  pg m u e := by
    rw [e1] at e
    by_cases z : m = (n : Int)
    · subst z
      rw [put_same] at e
      cases e
      exact ⟨c, hv, hp⟩
    · rw [put_ne (inl_ne z), drop_ne (inl_ne z)] at e
      exact h.pg m u e
  dk m c' e z := by
    rw [e1, e2, e3] at z
    by_cases y : m = (n : Int)
    · subst y
      rcases z with z | z
      · rw [put_same] at z; cases z
      · exact h.dk _ c' e (.inr z)
    · rw [put_ne (inl_ne y), drop_ne (inl_ne y)] at z
      exact h.dk m c' e z
  og m u e := by
    rw [e3] at e
    obtain ⟨h1, h2⟩ := h.og m u e
    rw [e1, e2]
    refine ⟨?_, h2⟩
    by_cases z : m = (n : Int)
    · rw [z, put_same]; rfl
    · rw [put_ne (inl_ne z), drop_ne (inl_ne z)]; exact h1
  ch m e := by
    rw [e2] at e
    rw [e1]
    by_cases z : m = (n : Int)
    · rw [z, put_same]; rfl
    · rw [put_ne (inl_ne z), drop_ne (inl_ne z)]; exact h.ch m e
  eq m e := by rw [e3] at e; exact h.eq m e
  ok := h.ok
  ok2 := h.ok2
  wp := h.wp
  al := h.al
  cn := by rw [e4]; exact h.cn
end
end K11
end

section
-- part K11Q
set_option Elab.async false
set_option linter.all false
set_option maxRecDepth 100000
set_option maxHeartbeats 800000
open PySem PySem.Spec PyProof.Rows L2 Fw
local macro_rules | `(tactic| walk_at "e1") => `(tactic| first
  | ((with_reducible refine' w_var ?hv ?_); (case hv => rfl))
  | with_reducible refine w_c ?_
  | with_reducible refine w_op ?_
  | with_reducible refine w_un ?_
  | with_reducible refine w_cons ?_
  | with_reducible refine w_nil ?_
  | with_reducible refine w_cl ?_
  | with_reducible refine w_cb ?_
  | with_reducible refine w_gname ?_
  | with_reducible refine w_gsub ?_
  | with_reducible refine w_test ?_
  | with_reducible refine w_B ?_
  | with_reducible refine w_bl ?_
  | with_reducible refine w_and ?_
  | with_reducible refine w_or ?_
  | with_reducible refine w_not ?_
  | with_reducible refine w_if ?_
  | with_reducible refine w_I0 ?_
  | with_reducible refine Gk.w_rU ?_
  | with_reducible refine Dq.w_orV ?_
  | with_reducible refine Dq.w_js ?_
  | with_reducible refine Dq.w_js0 ?_
  | with_reducible refine Dq.w_fm ?_
  | with_reducible refine Dq.w_andV ?_
  | with_reducible refine Gk.w_iEnum ?_
  | with_reducible refine Dq.w_dget ?_
  | with_reducible refine Dq.w_dpop1 ?_
  | with_reducible refine Dq.w_ddel ?_
  | with_reducible refine Dq.w_din ?_
  | with_reducible refine Dq.w_dnotin ?_
  | with_reducible refine Dq.w_dget2 ?_
  | with_reducible refine Dq.w_dnew ?_
  | with_reducible refine Dq.w_fldaug ?_
  | with_reducible refine Dq.w_aSub ?_
  | with_reducible refine Dq.w_aAdd ?_
  | with_reducible refine Dq.w_mkd ?_
  | with_reducible refine Dq.w_notN0 ?_
  | with_reducible refine Dq.w_isN0 ?_
  | with_reducible refine Dq.w_notNR ?_
  | with_reducible refine Dq.w_isNR ?_
  | with_reducible refine Dq.w_notNI ?_
  | with_reducible refine Dq.w_isNI ?_
  | with_reducible refine L2.w_neOs ?_
  | with_reducible refine w_ipI ?_
  | with_reducible refine w_eqS ?_
  | with_reducible refine w_neS ?_
  | with_reducible refine w_eqI ?_
  | with_reducible refine w_neI ?_
  | with_reducible refine w_eqB ?_
  | with_reducible refine w_neB ?_
  | ((with_reducible refine w_eq ?hs ?_); (case hs => rfl))
  | ((with_reducible refine w_ne ?hs ?_); (case hs => rfl))
  | with_reducible refine w_fld ?_
  | with_reducible refine w_bm ?_
  | with_reducible refine w_bm0 ?_
  | with_reducible refine w_sl ?_
  | with_reducible refine w_part ?_
  | with_reducible refine w_partI ?_
  | with_reducible refine w_nopart ?_
  | ((with_reducible refine' w_ixL ?hh ?ha ?_); (case hh => first | assumption | exact upd_same); (case ha => rfl))
  | ((with_reducible refine' w_setLu ?ha ?_); (case ha => rfl))
  | ((with_reducible refine' w_setL ?hh ?ha ?_); (case hh => first | assumption | exact upd_same); (case ha => rfl))
  | with_reducible refine w_iteT ?_
  | with_reducible refine w_iteF ?_
  | with_reducible refine w_lst ?_
  | with_reducible refine w_tup ?_
  | ((with_reducible refine w_new ?hz ?_); (case hz => rfl))
  | with_reducible refine w_lc ?_
  | with_reducible refine w_iL ?_
  | with_reducible refine w_iT ?_
  | with_reducible refine w_iR1 ?_
  | with_reducible refine w_iR2 ?_
  | with_reducible refine w_yes ?_
  | with_reducible refine w_iStr ?_
  | with_reducible exact tyS
  | with_reducible refine And.intro tyS ?_
  | ((with_reducible refine w_find3 ?_); (first | rw [find3_one] | rw [starts3] | skip))
  | ((with_reducible refine w_2s ?_); (try rw [find_one]))
  | ((with_reducible refine w_inS ?_); rw [S_list])
  | ((with_reducible refine w_lenS ?hz ?_); (case hz => first | assumption | omega | decide); rw [SX.S_len])
  | ((with_reducible refine w_addS ?hz ?_); (case hz => first | assumption | omega | decide); rw [vS_cat])
  | with_reducible refine w_mk ?_
  | with_reducible refine w_me ?_
  | with_reducible refine w_sfld ?_
  | ((with_reducible refine' w_gtup ?hh ?hn ?_); (case hh => first | assumption | exact upd_same); (case hn => rfl))
  | with_reducible refine w_gcons ?_
  | with_reducible refine w_gnil ?_
  | with_reducible refine w_repl ?_
  | with_reducible refine w_star ?_
  | with_reducible refine w_revL ?_
  | with_reducible refine w_isiS ?_
  | with_reducible refine w_isiI ?_
  | with_reducible refine w_isiN ?_
  | with_reducible refine w_chain ?_
  | with_reducible refine w_iEnumT ?_
  | with_reducible refine w_iZip3 ?_
  | with_reducible refine w_iZip ?_
  | with_reducible refine w_lenR3 ?_
  | with_reducible refine w_x1i ?_
  | with_reducible refine w_x1b ?_
  | with_reducible refine w_x1s ?_
  | with_reducible refine w_int1i ?_
  | with_reducible refine w_int1b ?_
  | ((with_reducible refine w_mod ?hc ?_); (case hc => omega))
  | ((with_reducible refine w_fdivW ?hc ?hd ?_); (case hc => omega); (case hd => omega))
  | ((with_reducible refine w_mul ?hc ?_); (case hc => first | exact Or.inr ⟨by decide, by decide⟩ | exact Or.inl ⟨by decide, by decide⟩))
  | ((with_reducible refine w_pow ?hc ?_); (case hc => exact ⟨by decide, by decide, by decide⟩)))
local macro_rules | `(tactic| walk_at "f1") => `(tactic| first
  | ((with_reducible refine' K11.g_disk ?hW ?hK ?hs ?hx ?_); (case hW => assumption); (case hK => rfl); (case hs => rfl); (case hx => first | assumption | exact upd_same))
  | ((with_reducible refine' K11.g_capacity ?hW ?hK ?hs ?hx ?_); (case hW => assumption); (case hK => rfl); (case hs => rfl); (case hx => first | assumption | exact upd_same))
  | ((with_reducible refine' K11.g_pages ?hW ?hK ?hs ?hx ?_); (case hW => assumption); (case hK => rfl); (case hs => rfl); (case hx => first | assumption | exact upd_same))
  | ((with_reducible refine' K11.g_changed ?hW ?hK ?hs ?hx ?_); (case hW => assumption); (case hK => rfl); (case hs => rfl); (case hx => first | assumption | exact upd_same))
  | ((with_reducible refine' K11.g_open_group ?hW ?hK ?hs ?hx ?_); (case hW => assumption); (case hK => rfl); (case hs => rfl); (case hx => first | assumption | exact upd_same))
  | ((with_reducible refine' K11.g_parts ?hW ?hK ?hs ?hx ?_); (case hW => assumption); (case hK => rfl); (case hs => rfl); (case hx => first | assumption | exact upd_same))
  | ((with_reducible refine' K11.g_reads ?hW ?hK ?hs ?hx ?_); (case hW => assumption); (case hK => rfl); (case hs => rfl); (case hx => first | assumption | exact upd_same))
  | ((with_reducible refine' K11.g_writes ?hW ?hK ?hs ?hx ?_); (case hW => assumption); (case hK => rfl); (case hs => rfl); (case hx => first | assumption | exact upd_same))
  | ((with_reducible refine' K11.g_block_size ?hW ?hK ?hs ?hx ?_); (case hW => assumption); (case hK => rfl); (case hs => rfl); (case hx => first | assumption | exact upd_same))
  | ((with_reducible refine' K11.g_blocks ?hW ?hK ?hs ?hx ?_); (case hW => assumption); (case hK => rfl); (case hs => rfl); (case hx => first | assumption | exact upd_same))
  | ((with_reducible refine' K11.g_log ?hW ?hK ?hs ?hx ?_); (case hW => assumption); (case hK => rfl); (case hs => rfl); (case hx => first | assumption | exact upd_same))
  | ((with_reducible refine' K11.g_waiting ?hW ?hK ?hs ?hx ?_); (case hW => assumption); (case hK => rfl); (case hs => rfl); (case hx => first | assumption | exact upd_same))
  | ((with_reducible refine' K11.g_written ?hW ?hK ?hs ?hx ?_); (case hW => assumption); (case hK => rfl); (case hs => rfl); (case hx => first | assumption | exact upd_same))
  | ((with_reducible refine' K11.g_log_tail ?hW ?hK ?hs ?hx ?_); (case hW => assumption); (case hK => rfl); (case hs => rfl); (case hx => first | assumption | exact upd_same))
  | ((with_reducible refine' K11.g_fuse ?hW ?hK ?hs ?hx ?_); (case hW => assumption); (case hK => rfl); (case hs => rfl); (case hx => first | assumption | exact upd_same))
  | ((with_reducible refine' K11.g_dead ?hW ?hK ?hs ?hx ?_); (case hW => assumption); (case hK => rfl); (case hs => rfl); (case hx => first | assumption | exact upd_same))
  | ((with_reducible refine' K11.g_steps ?hW ?hK ?hs ?hx ?_); (case hW => assumption); (case hK => rfl); (case hs => rfl); (case hx => first | assumption | exact upd_same))
  | walk_at "e1")
local macro_rules | `(tactic| walk_at "s1") => `(tactic| first
  | with_reducible refine w_seq ?_
  | with_reducible refine w_asg ?_
  | with_reducible refine w_ret ?_
  | with_reducible refine w_par ?_
  | with_reducible refine w_drop ?_
  | with_reducible refine w_next ?_
  | with_reducible refine w_ifs ?_
  | ((with_reducible refine' w_aug ?hv ?_); (case hv => rfl))
  | with_reducible refine w_for ?_
  | walk_at "f1")
local macro_rules | `(tactic| walk_at "e") => `(tactic| repeat walk_at "e1")
local macro_rules | `(tactic| walk_at "g") => `(tactic| repeat walk_at "s1")

namespace K11
open Dc Gk M5 M10 M8 M11 LamX
/-- what make_room may do -/
structure Rm (S : PS) (D : DS) (S' : PS) (D' : DS) : Prop where
  og : S'.og = S.og
  rd : S'.rd = S.rd
  pg : ∀ k v, valV S'.pg k = some v → valV S.pg k = some v
  w0 : S.wr ≤ S'.wr
  w1 : S'.wr + S'.pg.length ≤ S.wr + S.pg.length
  bs : D'.bs = D.bs
  ws : ∃ zs, D'.ws = D.ws ++ zs ∧ ∀ p ∈ zs, valV S.og (.inl p.1) = none ∧ (valV S.pg (.inl p.1)).isSome = true
theorem Rm.refl (S : PS) (D : DS) : Rm S D S D := ⟨rfl, rfl, fun _ _ h => h, Int.le_refl _, Int.le_refl _, rfl, [], by simp, fun p hp => absurd hp List.not_mem_nil⟩
section
variable {P : Program} {w : World} {K : PySem.W.Frag} {mg : Str → Option Value} {base : Heap} {cPF cPg cDF cD aE cP : Addr}
def spRoom (K : PySem.W.Frag) (cPg cD cP : Addr) : Sp := fun vs H Q _ => ∃ (x d : Addr) (cap many : Int) (L : Ad) (S : PS) (D : DS) (now kept : Cont), vs = [.ref x, .int many] ∧ Sys K cD cP H x d cap L S D ∧ PI K cPg H S D now kept ∧ 0 ≤ many ∧ S.wr ≤ 900 ∧
  ∀ H' S' D', Cs (L.all x d) H H' → Sys K cD cP H' x d cap L S' D' → PI K cPg H' S' D' now kept → Rm S D S' D' → (S'.pg.length : Int) ≤ max many S.og.length → Q .non H'
theorem more_pg {kvs og : List (Key × V)} (nd : (kvs.map (·.1)).Nodup) (h : og.length < kvs.length) : ∃ p ∈ kvs, valV og p.1 = none := by
  refine Classical.byContradiction fun n => ?_
  have := sub_len (m := og.map (·.1)) nd fun a ha => by
    obtain ⟨p, hp, rfl⟩ := List.mem_map.mp ha
    cases e : valV og p.1 with
    | none => exact absurd ⟨p, hp, e⟩ n
    | some v => exact valV_in e
  rw [List.length_map, List.length_map] at this
  omega
theorem ok_make_room (W : Wp K mg cPF cPg cDF cD aE cP) (c_Pool_write_page : Me P w K mg base 4 cP "write_page" (spWP K cPg cD cP)) (c_Pool_least_used : Me P w K mg base 1 cP "least_used" (spLeast K cP)) : Me P w K mg base 5 cP "make_room" (spRoom K cPg cD cP) := by
  refine me_mk W.q_make_room W.q_cl sc_Pool_make_room (fun _ _ _ _ _ _ us hl => match us, hl with | [_, _], _ => rfl) (fun vs H Q E h => ?_) (fun f cdv A outer s H vs Q E hr h => ?_)
  · obtain ⟨x, d, cap, many, L, S, D, now, kept, rfl, _⟩ := h; rfl
  obtain ⟨x, d, cap, many, L, S, D, now, kept, rfl, sy, pi, hm, hw, q⟩ := h
  refine ⟨_, (pss_one (ps_while (passes_of rfl) (pt_cmpR op_gt (pe_callB L2.call_lenD rfl W.n_len PySem.boot_len (pa_cons (pe_fld (pv 0) rfl) pa_nil)) (pe_callB (call_max2 rfl) rfl W.n_max (by decide +kernel) (pa_cons (pv 1) (pa_cons (pe_callB L2.call_lenD rfl W.n_len PySem.boot_len (pa_cons (pe_fld (pv 0) rfl) pa_nil)) pa_nil))) (nomark _))
    (pss_cons (ps_set (i := 2) sc_Pool_make_room.nd rfl (Or.inl rfl) (pe_me0 c_Pool_least_used hr (by decide) passL (pv 0)))
    (pss_cons (ps_if (pt_cmp (pc_din (hu_of hr) (pv 2) (pe_fld (pv 0) rfl)) (by with_unfolding_all rfl))
    (pss_one (ps_expr (pe_me c_Pool_write_page hr (by decide) passD (pv 0) (pa_cons (pv 2) pa_nil))))
    pss_nil)
    (pss_one (ps_ddel (pe_fld (pv 0) rfl) (pv 2))))))), ?_⟩
  walk_at "g"
  refine w_while (fun m σ H1 => ∃ (S1 : PS) (D1 : DS) (v : Option V), σ = [some (.ref x), some (.int many), v] ∧ Cs (L.all x d) H H1 ∧ Sys K cD cP H1 x d cap L S1 D1 ∧ PI K cPg H1 S1 D1 now kept ∧ Rm S D S1 D1 ∧ m = S1.pg.length) S.pg.length ⟨S, D, none, rfl, Cs.refl _ _, sy, pi, Rm.refl _ _, rfl⟩ ?_
  rintro m σ H1 ⟨S1, D1, v, rfl, s1, sy1, pi1, rm, rfl⟩
  have hx1 := sy1.hx
  walk_at "g"
  refine ⟨_, _, rfl, sy1.pg, ?_⟩
  walk_at "g"
  refine ⟨_, _, rfl, sy1.og, ?_⟩
  walk_at "g"
  refine ⟨_, _, rfl, ?_⟩
  walk_at "g"
  refine w_iteD (fun c1 => ?_) (fun c1 => ?_)
  · have c2 : many < S1.pg.length ∧ S1.og.length < S1.pg.length := by split at c1 <;> omega
    obtain ⟨p0, hp0, hn0⟩ := more_pg pi1.np c2.2
    refine ⟨fun σ' H' => ∃ m', m' < S1.pg.length ∧ ∃ (S1 : PS) (D1 : DS) (v : Option V), σ' = [some (.ref x), some (.int many), v] ∧ Cs (L.all x d) H H' ∧ Sys K cD cP H' x d cap L S1 D1 ∧ PI K cPg H' S1 D1 now kept ∧ Rm S D S1 D1 ∧ m' = S1.pg.length, fun σ' H' h => h, ?_⟩
    walk_at "g"
    refine ⟨x, L.dx, _, rfl, hx1, mp_none (by decide +kernel), ?_⟩
    walk_at "g"
    refine ⟨x, d, cap, L.pA, L.cA, L.oA, S1, rfl, sy1.po, pi1.kp.int, ⟨p0, hp0, hn0⟩, fun n u hnu hon => ?_⟩
    have hpv := val_nodup pi1.np _ hnu
    obtain ⟨c, hc, p, rfl, hpg⟩ := pi1.pg n u hpv
    have pok := pi1.ok n c hc
    have hlen : (dropK S1.pg (.inl n)).length + 1 = S1.pg.length := dropK_len pi1.np (valV_in hpv)
    walk_at "g"
    refine ⟨L.cA, _, rfl, DGet.k (k := .inl n) sy1.ch, ?_⟩
    cases e : valV S1.ch (.inl n) with
    | none =>
      rw [Option.isSome_none]
      walk_at "g"
      refine ⟨L.pA, _, .inl n, rfl, sy1.pg, rfl, by rw [hpv]; rfl, ?_⟩
      have kp : Kps K cPg H1 (upd H1 L.pA (.dK (dropK S1.pg (.inl n)))) := Kps.of sy1 sy1.csP.ch
      refine ⟨_, ?_, { S1 with pg := dropK S1.pg (.inl n) }, D1, _, rfl, s1.trans sy1.csP, sy1.setP _, (pi1.dropPg hon e).kps kp, ⟨rm.og, rm.rd, fun k v h => rm.pg k v ?_, rm.w0, ?_, rm.bs, rm.ws⟩, rfl⟩
      · show (dropK S1.pg (.inl n)).length < S1.pg.length
        omega
      · have h : valV (dropK S1.pg (.inl n)) k = some v := h
        rw [val_drop] at h
        split at h
        · cases h
        · exact h
      · have := rm.w1
        show S1.wr + ((dropK S1.pg (.inl n)).length : Int) ≤ _
        omega
    | some y =>
      rw [Option.isSome_some]
      walk_at "g"
      refine ⟨x, L.dx, _, rfl, hx1, mp_none (by decide +kernel), ?_⟩
      walk_at "g"
      have h5 := pi1.kp.len pi1.np
      have h50 := pi.kp.len pi.np
      have wl := pi1.wlen (B := 910) (by have := rm.w1; omega)
      refine ⟨x, d, cap, L.pA, L.cA, L.oA, S1, L.bA, L.qA, L.wA, D1, n, p, c.1, c.2.1, c.2.2, rfl, sy1.po, sy1.dk, sy1.nd8, hpv, hpg, by have := pok.len; omega, pok.sz, by rw [e]; rfl, pi1.alive, by omega, by omega, fun a H2 s2 ha dk2 hx2 hc2 => ?_⟩
      have s2' : Cs (L.all x d) H1 H2 := s2.le fun b hb => by
        obtain ⟨m1, m2, m3, m4, m5, m6, m7, m8, m9⟩ := Ad.mem (L := L) (x := x) (d := d)
        simp only [List.mem_cons, List.not_mem_nil, or_false] at hb
        rcases hb with z | z | z | z | z <;> rw [z] <;> assumption
      have pi2 := (pi1.kps (Kps.of sy1 s2'.ch)).write hon hc ha
      have sy2 : Sys K cD cP H2 x d cap L { S1 with ch := dropK S1.ch (.inl n), wr := S1.wr + 1 } (D1.write n a) := sy1.write s2 dk2 (hx2 _ _ sy1.hx) hc2 rfl rfl
      have hx2' := sy2.hx
      walk_at "g"
      refine ⟨L.pA, _, .inl n, rfl, sy2.pg, rfl, by show (valV S1.pg _).isSome = true; rw [hpv]; rfl, ?_⟩
      have kp : Kps K cPg H2 (upd H2 L.pA (.dK (dropK S1.pg (.inl n)))) := Kps.of sy2 sy2.csP.ch
      refine ⟨_, ?_, _, _, _, rfl, (s1.trans s2').trans sy2.csP, sy2.setP _, (pi2.dropPg hon drop_same).kps kp, ⟨rm.og, rm.rd, fun k v h => rm.pg k v ?_, ?_, ?_, ?_, ?_⟩, rfl⟩
      · show (dropK S1.pg (.inl n)).length < S1.pg.length
        omega
      · have h : valV (dropK S1.pg (.inl n)) k = some v := h
        rw [val_drop] at h
        split at h
        · cases h
        · exact h
      · have := rm.w0
        show S.wr ≤ S1.wr + 1
        omega
      · have := rm.w1
        show S1.wr + 1 + ((dropK S1.pg (.inl n)).length : Int) ≤ _
        omega
      · show D1.step.bs = D.bs
        rw [step_bs]
        exact rm.bs
      · obtain ⟨zs, z1, z2⟩ := rm.ws
        refine ⟨zs ++ [(n, a)], ?_, fun q hq => ?_⟩
        · show D1.ws ++ [(n, a)] = _
          rw [z1, List.append_assoc]
        · rcases List.mem_append.mp hq with hq | hq
          · exact z2 q hq
          · rw [List.mem_singleton.mp hq, ← rm.og]
            exact ⟨hon, by rw [rm.pg _ _ hpv]; rfl⟩
  · exact q H1 S1 D1 s1 sy1 pi1 rm (by rw [← rm.og]; split at c1 <;> omega)
end
end K11
end

section
-- part K11R
set_option Elab.async false
set_option linter.all false
set_option maxRecDepth 100000
set_option maxHeartbeats 800000
open PySem PySem.Spec PyProof.Rows L2 Fw
local macro_rules | `(tactic| walk_at "e1") => `(tactic| first
  | ((with_reducible refine' w_var ?hv ?_); (case hv => rfl))
  | with_reducible refine w_c ?_
  | with_reducible refine w_op ?_
  | with_reducible refine w_un ?_
  | with_reducible refine w_cons ?_
  | with_reducible refine w_nil ?_
  | with_reducible refine w_cl ?_
  | with_reducible refine w_cb ?_
  | with_reducible refine w_gname ?_
  | with_reducible refine w_gsub ?_
  | with_reducible refine w_test ?_
  | with_reducible refine w_B ?_
  | with_reducible refine w_bl ?_
  | with_reducible refine w_and ?_
  | with_reducible refine w_or ?_
  | with_reducible refine w_not ?_
  | with_reducible refine w_if ?_
  | with_reducible refine w_I0 ?_
  | with_reducible refine Gk.w_rU ?_
  | with_reducible refine Dq.w_orV ?_
  | with_reducible refine Dq.w_js ?_
  | with_reducible refine Dq.w_js0 ?_
  | with_reducible refine Dq.w_fm ?_
  | with_reducible refine Dq.w_andV ?_
  | with_reducible refine Gk.w_iEnum ?_
  | with_reducible refine Dq.w_dget ?_
  | with_reducible refine Dq.w_dpop1 ?_
  | with_reducible refine Dq.w_ddel ?_
  | with_reducible refine Dq.w_din ?_
  | with_reducible refine Dq.w_dnotin ?_
  | with_reducible refine Dq.w_dget2 ?_
  | with_reducible refine Dq.w_dnew ?_
  | with_reducible refine Dq.w_fldaug ?_
  | with_reducible refine Dq.w_aSub ?_
  | with_reducible refine Dq.w_aAdd ?_
  | with_reducible refine Dq.w_mkd ?_
  | with_reducible refine Dq.w_notN0 ?_
  | with_reducible refine Dq.w_isN0 ?_
  | with_reducible refine Dq.w_notNR ?_
  | with_reducible refine Dq.w_isNR ?_
  | with_reducible refine Dq.w_notNI ?_
  | with_reducible refine Dq.w_isNI ?_
  | with_reducible refine L2.w_neOs ?_
  | with_reducible refine w_ipI ?_
  | with_reducible refine w_eqS ?_
  | with_reducible refine w_neS ?_
  | with_reducible refine w_eqI ?_
  | with_reducible refine w_neI ?_
  | with_reducible refine w_eqB ?_
  | with_reducible refine w_neB ?_
  | ((with_reducible refine w_eq ?hs ?_); (case hs => rfl))
  | ((with_reducible refine w_ne ?hs ?_); (case hs => rfl))
  | with_reducible refine w_fld ?_
  | with_reducible refine w_bm ?_
  | with_reducible refine w_bm0 ?_
  | with_reducible refine w_sl ?_
  | with_reducible refine w_part ?_
  | with_reducible refine w_partI ?_
  | with_reducible refine w_nopart ?_
  | ((with_reducible refine' w_ixL ?hh ?ha ?_); (case hh => first | assumption | exact upd_same); (case ha => rfl))
  | ((with_reducible refine' w_setLu ?ha ?_); (case ha => rfl))
  | ((with_reducible refine' w_setL ?hh ?ha ?_); (case hh => first | assumption | exact upd_same); (case ha => rfl))
  | with_reducible refine w_iteT ?_
  | with_reducible refine w_iteF ?_
  | with_reducible refine w_lst ?_
  | with_reducible refine w_tup ?_
  | ((with_reducible refine w_new ?hz ?_); (case hz => rfl))
  | with_reducible refine w_lc ?_
  | with_reducible refine w_iL ?_
  | with_reducible refine w_iT ?_
  | with_reducible refine w_iR1 ?_
  | with_reducible refine w_iR2 ?_
  | with_reducible refine w_yes ?_
  | with_reducible refine w_iStr ?_
  | with_reducible exact tyS
  | with_reducible refine And.intro tyS ?_
  | ((with_reducible refine w_find3 ?_); (first | rw [find3_one] | rw [starts3] | skip))
  | ((with_reducible refine w_2s ?_); (try rw [find_one]))
  | ((with_reducible refine w_inS ?_); rw [S_list])
  | ((with_reducible refine w_lenS ?hz ?_); (case hz => first | assumption | omega | decide); rw [SX.S_len])
  | ((with_reducible refine w_addS ?hz ?_); (case hz => first | assumption | omega | decide); rw [vS_cat])
  | with_reducible refine w_mk ?_
  | with_reducible refine w_me ?_
  | with_reducible refine w_sfld ?_
  | ((with_reducible refine' w_gtup ?hh ?hn ?_); (case hh => first | assumption | exact upd_same); (case hn => rfl))
  | with_reducible refine w_gcons ?_
  | with_reducible refine w_gnil ?_
  | with_reducible refine w_repl ?_
  | with_reducible refine w_star ?_
  | with_reducible refine w_revL ?_
  | with_reducible refine w_isiS ?_
  | with_reducible refine w_isiI ?_
  | with_reducible refine w_isiN ?_
  | with_reducible refine w_chain ?_
  | with_reducible refine w_iEnumT ?_
  | with_reducible refine w_iZip3 ?_
  | with_reducible refine w_iZip ?_
  | with_reducible refine w_lenR3 ?_
  | with_reducible refine w_x1i ?_
  | with_reducible refine w_x1b ?_
  | with_reducible refine w_x1s ?_
  | with_reducible refine w_int1i ?_
  | with_reducible refine w_int1b ?_
  | ((with_reducible refine w_mod ?hc ?_); (case hc => omega))
  | ((with_reducible refine w_fdivW ?hc ?hd ?_); (case hc => omega); (case hd => omega))
  | ((with_reducible refine w_mul ?hc ?_); (case hc => first | exact Or.inr ⟨by decide, by decide⟩ | exact Or.inl ⟨by decide, by decide⟩))
  | ((with_reducible refine w_pow ?hc ?_); (case hc => exact ⟨by decide, by decide, by decide⟩)))
local macro_rules | `(tactic| walk_at "f1") => `(tactic| first
  | ((with_reducible refine' K11.g_disk ?hW ?hK ?hs ?hx ?_); (case hW => assumption); (case hK => rfl); (case hs => rfl); (case hx => first | assumption | exact upd_same))
  | ((with_reducible refine' K11.g_capacity ?hW ?hK ?hs ?hx ?_); (case hW => assumption); (case hK => rfl); (case hs => rfl); (case hx => first | assumption | exact upd_same))
  | ((with_reducible refine' K11.g_pages ?hW ?hK ?hs ?hx ?_); (case hW => assumption); (case hK => rfl); (case hs => rfl); (case hx => first | assumption | exact upd_same))
  | ((with_reducible refine' K11.g_changed ?hW ?hK ?hs ?hx ?_); (case hW => assumption); (case hK => rfl); (case hs => rfl); (case hx => first | assumption | exact upd_same))
  | ((with_reducible refine' K11.g_open_group ?hW ?hK ?hs ?hx ?_); (case hW => assumption); (case hK => rfl); (case hs => rfl); (case hx => first | assumption | exact upd_same))
  | ((with_reducible refine' K11.g_parts ?hW ?hK ?hs ?hx ?_); (case hW => assumption); (case hK => rfl); (case hs => rfl); (case hx => first | assumption | exact upd_same))
  | ((with_reducible refine' K11.g_reads ?hW ?hK ?hs ?hx ?_); (case hW => assumption); (case hK => rfl); (case hs => rfl); (case hx => first | assumption | exact upd_same))
  | ((with_reducible refine' K11.g_writes ?hW ?hK ?hs ?hx ?_); (case hW => assumption); (case hK => rfl); (case hs => rfl); (case hx => first | assumption | exact upd_same))
  | ((with_reducible refine' K11.g_block_size ?hW ?hK ?hs ?hx ?_); (case hW => assumption); (case hK => rfl); (case hs => rfl); (case hx => first | assumption | exact upd_same))
  | ((with_reducible refine' K11.g_blocks ?hW ?hK ?hs ?hx ?_); (case hW => assumption); (case hK => rfl); (case hs => rfl); (case hx => first | assumption | exact upd_same))
  | ((with_reducible refine' K11.g_log ?hW ?hK ?hs ?hx ?_); (case hW => assumption); (case hK => rfl); (case hs => rfl); (case hx => first | assumption | exact upd_same))
  | ((with_reducible refine' K11.g_waiting ?hW ?hK ?hs ?hx ?_); (case hW => assumption); (case hK => rfl); (case hs => rfl); (case hx => first | assumption | exact upd_same))
  | ((with_reducible refine' K11.g_written ?hW ?hK ?hs ?hx ?_); (case hW => assumption); (case hK => rfl); (case hs => rfl); (case hx => first | assumption | exact upd_same))
  | ((with_reducible refine' K11.g_log_tail ?hW ?hK ?hs ?hx ?_); (case hW => assumption); (case hK => rfl); (case hs => rfl); (case hx => first | assumption | exact upd_same))
  | ((with_reducible refine' K11.g_fuse ?hW ?hK ?hs ?hx ?_); (case hW => assumption); (case hK => rfl); (case hs => rfl); (case hx => first | assumption | exact upd_same))
  | ((with_reducible refine' K11.g_dead ?hW ?hK ?hs ?hx ?_); (case hW => assumption); (case hK => rfl); (case hs => rfl); (case hx => first | assumption | exact upd_same))
  | ((with_reducible refine' K11.g_steps ?hW ?hK ?hs ?hx ?_); (case hW => assumption); (case hK => rfl); (case hs => rfl); (case hx => first | assumption | exact upd_same))
  | walk_at "e1")
local macro_rules | `(tactic| walk_at "s1") => `(tactic| first
  | with_reducible refine w_seq ?_
  | with_reducible refine w_asg ?_
  | with_reducible refine w_ret ?_
  | with_reducible refine w_par ?_
  | with_reducible refine w_drop ?_
  | with_reducible refine w_next ?_
  | with_reducible refine w_ifs ?_
  | ((with_reducible refine' w_aug ?hv ?_); (case hv => rfl))
  | with_reducible refine w_for ?_
  | walk_at "f1")
local macro_rules | `(tactic| walk_at "e") => `(tactic| repeat walk_at "e1")
local macro_rules | `(tactic| walk_at "g") => `(tactic| repeat walk_at "s1")

namespace K11
open Dc Gk M5 M10 M8 M11 LamX
/-- what a deed of a pool may do -/
structure Tr (S : PS) (D : DS) (S' : PS) (D' : DS) : Prop where
  rd : S.rd ≤ S'.rd
  w0 : S.wr ≤ S'.wr
  w1 : S'.wr ≤ S.wr + 5
  ws : ∃ zs, D'.ws = D.ws ++ zs ∧ ∀ p ∈ zs, valV S.og (.inl p.1) = none ∧ valV S'.og (.inl p.1) = none
theorem Rm.tr {S S' : PS} {D D' : DS} (h : Rm S D S' D') (l : S.pg.length ≤ 5) : Tr S D S' D' := ⟨by rw [h.rd]; exact Int.le_refl _, h.w0, by have := h.w1; omega, by
  obtain ⟨zs, h1, h2⟩ := h.ws
  exact ⟨zs, h1, fun p hp => ⟨(h2 p hp).1, by rw [h.og]; exact (h2 p hp).1⟩⟩⟩
def SzI (cap : Int) (S : PS) : Prop := (S.pg.length : Int) ≤ max cap (S.og.length + 1)
theorem put_len {kvs : List (Key × V)} {k : Key} {v : V} (h : valV kvs k = none) : (putK kvs k v).length = kvs.length + 1 := by rw [putK_new _ h, List.length_append]; rfl
theorem pop_len {kvs : List (Key × V)} {k : Key} {u v : V} (nd : (kvs.map (·.1)).Nodup) (h : valV kvs k = some u) : (putK (dropK kvs k) k v).length = kvs.length := by
  rw [put_len drop_same]
  exact dropK_len nd (valV_in h)
section
variable {P : Program} {w : World} {K : PySem.W.Frag} {mg : Str → Option Value} {base : Heap} {cPF cPg cDF cD aE cP : Addr} {T : List (Addr × Str)}
def spPage (K : PySem.W.Frag) (cPg cD cP : Addr) (T : List (Addr × Str)) : Sp := fun vs H Q _ => ∃ (x d : Addr) (cap : Int) (L : Ad) (S : PS) (D : DS) (now kept : Cont) (n : Nat) (c : Pgc), vs = [.ref x, .int n] ∧ Sys K cD cP H x d cap L S D ∧ PI K cPg H S D now kept ∧ 1 ≤ cap ∧ n < 5 ∧ now n = some c ∧ S.wr ≤ 900 ∧ SzI cap S ∧ Tabs T H ∧
  ∀ p H' S' D', Ch (L.all x d) H H' → Tabs T H' → Sys K cD cP H' x d cap L S' D' → PI K cPg H' S' D' now kept → Tr S D S' D' → S'.og = S.og → SzI cap S' → PgC K cPg H' p c → Q (.ref p) H'
theorem ok_page (W : Wp K mg cPF cPg cDF cD aE cP) (c_page_from : Cl P w K mg base 3 "page_from" (spFrom K cPg cPF T)) (c_Disk_read_block : Me P w K mg base 1 cD "read_block" (spRead K cDF cD)) (c_Pool_make_room : Me P w K mg base 5 cP "make_room" (spRoom K cPg cD cP)) : Me P w K mg base 6 cP "page" (spPage K cPg cD cP T) := by
  refine me_mk W.q_page W.q_cl sc_Pool_page (fun _ _ _ _ _ _ us hl => match us, hl with | [_, _], _ => rfl) (fun vs H Q E h => ?_) (fun f cdv A outer s H vs Q E hr h => ?_)
  · obtain ⟨x, d, cap, L, S, D, now, kept, n, c, rfl, _⟩ := h; rfl
  obtain ⟨x, d, cap, L, S, D, now, kept, n, ⟨k, l, cs⟩, rfl, sy, pi, hcap, hn, hc, hw, hz, hT, q⟩ := h
  have hx := sy.hx
  have pok := pi.ok _ _ hc
  refine ⟨_, (pss_cons (ps_if (pt_cmp (pc_din (hu_of hr) (pv 1) (pe_fld (pv 0) rfl)) (by with_unfolding_all rfl))
    (pss_one (ps_set (i := 2) sc_Pool_page.nd rfl (Or.inl rfl) (pe_dpop1 (pe_fld (pv 0) rfl) (pv 1) ⟨rfl, rfl, rfl, rfl⟩)))
    (pss_cons (ps_set (i := 2) sc_Pool_page.nd rfl (Or.inl rfl) (pe_cl c_page_from hr (by decide) rfl passD (pa_cons (pe_me c_Disk_read_block hr (by decide) passD (pe_fld (pv 0) rfl) (pa_cons (pv 1) pa_nil)) pa_nil)))
    (pss_cons (ps_expr (pe_me c_Pool_make_room hr (by decide) passD (pv 0) (pa_cons (pe_op op_sub (pe_fld (pv 0) rfl) pe_int) pa_nil)))
    (pss_one (ps_fldaug (pv 0) pe_int in_add)))))
    (pss_cons (ps_asg (pv 2) (pg_sub (pe_fld (pv 0) rfl) (pv 1) (set_dict (hu_of hr))))
    (pss_one (ps_ret (pv 2))))), ?_⟩
  walk_at "g"
  refine ⟨L.pA, _, rfl, DGet.k (k := .inl (n : Int)) sy.pg, ?_⟩
  cases e : valV S.pg (.inl (n : Int)) with
  | some u =>
    obtain ⟨c', hc', p, rfl, hp⟩ := pi.pg _ _ e
    rw [hc] at hc'
    cases hc'
    rw [Option.isSome_some]
    walk_at "g"
    refine ⟨L.pA, rfl, .inl ⟨_, .inl sy.pg⟩, ?_⟩
    walk_at "g"
    refine ⟨S.pg, .inl (n : Int), .ref p, sy.pg, rfl, e, ?_⟩
    have s1 := sy.csP (o := .dK (dropK S.pg (.inl (n : Int))))
    have sy1 := sy.setP (dropK S.pg (.inl (n : Int)))
    generalize upd H L.pA (.dK (dropK S.pg (.inl (n : Int)))) = H1 at s1 sy1
    have hx1 := sy1.hx
    walk_at "g"
    refine ⟨L.pA, _, rfl, DPut.k (k := .inl (n : Int)) sy1.pg ?_, ?_⟩
    · have := dropK_le S.pg (.inl (n : Int))
      have := pi.kp.len pi.np
      exact Nat.lt_of_le_of_lt (by show (dropK S.pg (.inl (n : Int))).length ≤ 5; omega) (by decide)
    have s2 := s1.trans (sy1.csP (o := .dK (putK (dropK S.pg (.inl (n : Int))) (.inl (n : Int)) (.ref p))))
    have sy2 := sy1.setP (putK (dropK S.pg (.inl (n : Int))) (.inl (n : Int)) (.ref p))
    generalize upd H1 L.pA (.dK (putK (dropK S.pg (.inl (n : Int))) (.inl (n : Int)) (.ref p))) = H2 at s2 sy2
    walk_at "g"
    have kp : Kps K cPg H H2 := Kps.of sy s2.ch
    refine q p H2 _ D s2.ch (M11.Tabs.cs hT s2) sy2 ((pi.addPg hn hc ⟨p, rfl, hp⟩ { S with pg := putK (dropK S.pg (.inl (n : Int))) (.inl (n : Int)) (.ref p) } rfl rfl rfl rfl (fun z => by rw [e] at z; cases z)).kps kp) ⟨Int.le_refl _, Int.le_refl _, by show S.wr ≤ S.wr + 5; omega, [], by simp, fun p hp => absurd hp List.not_mem_nil⟩ rfl ?_ (kp.p _ _ hp)
    show ((putK (dropK S.pg (.inl (n : Int))) (.inl (n : Int)) (.ref p)).length : Int) ≤ _
    rw [pop_len pi.np e]
    exact hz
  | none =>
    rw [Option.isSome_none]
    walk_at "g"
    obtain ⟨⟨ddx, lB, tB, zs, hd, g2, g3, g4, g5⟩, _⟩ := id sy.dk
    refine ⟨d, ddx, _, rfl, hd, m_none (by decide +kernel), ?_⟩
    walk_at "g"
    obtain ⟨a, ha, hab⟩ := pi.dk n _ hc (.inl e)
    refine ⟨d, L.bA, L.qA, L.wA, D, n, rfl, by omega, sy.dk, (fun z => by rw [pi.al.1] at z; cases z), fun _ => ?_⟩
    unfold rdV at ha
    rw [ha]
    show tNil _ _ _
    walk_at "g"
    refine ⟨a, bytC (k, l, cs), rfl, hab, pok.by_, by rw [pok.bl]; decide, hT, ?_⟩
    rw [pok.back]
    intro p H1 x1 t1 hp
    have s1 : Ch (L.all x d) H H1 := Ch.ex x1
    have sy1 := sy.cho (M := []) (Ch.ex x1) (fun _ _ z => absurd z List.not_mem_nil)
    have pi1 := pi.kps (Kps.of sy s1)
    have hx1 := sy1.hx
    walk_at "g"
    refine ⟨x, L.dx, _, rfl, hx1, mp_none (by decide +kernel), ?_⟩
    walk_at "g"
    refine ⟨x, d, cap, cap - 1, L, S, D, now, kept, rfl, sy1, pi1, by omega, hw, fun H2 S2 D2 s2 sy2 pi2 rm2 hz2 => ?_⟩
    have hx2 := sy2.hx
    walk_at "g"
    refine ⟨_, _, _, _, _, rfl, hx2, W.q_cl, W.q_reads, l_reads, ?_⟩
    walk_at "g"
    refine ⟨_, _, hx2, by show 8 < 1000; decide, ?_⟩
    rw [put_reads]
    have s3 := sy2.csX (o := .ins cP L.dx (F8 (.ref d) (.int cap) (.ref L.pA) (.ref L.cA) (.ref L.oA) (.ref L.rA) (.int (S2.rd + 1)) (.int S2.wr)))
    have sy3 := sy2.setR (S2.rd + 1)
    generalize upd H2 x (.ins cP L.dx (F8 (.ref d) (.int cap) (.ref L.pA) (.ref L.cA) (.ref L.oA) (.ref L.rA) (.int (S2.rd + 1)) (.int S2.wr))) = H3 at s3 sy3
    have hx3 := sy3.hx
    have e2 : valV S2.pg (.inl (n : Int)) = none := by
      cases z : valV S2.pg (.inl (n : Int)) with
      | none => rfl
      | some v => rw [rm2.pg _ _ z] at e; cases e
    have l2 := pi2.kp.len pi2.np
    walk_at "g"
    refine ⟨L.pA, _, rfl, DPut.k (k := .inl (n : Int)) sy3.pg (Nat.lt_of_le_of_lt (by show S2.pg.length ≤ 5; omega) (by decide)), ?_⟩
    have s4 := s3.trans (sy3.csP (o := .dK (putK S2.pg (.inl (n : Int)) (.ref p))))
    have sy4 := sy3.setP (putK S2.pg (.inl (n : Int)) (.ref p))
    generalize upd H3 L.pA (.dK (putK S2.pg (.inl (n : Int)) (.ref p))) = H4 at s4 sy4
    walk_at "g"
    have kp := Kps.of (cPg := cPg) sy2 s4.ch
    have hp2 : PgC K cPg H2 p (k, l, cs) := (Kps.of sy1 s2.ch).p p (k, l, cs) hp
    have tr := rm2.tr (pi.kp.len pi.np)
    refine q p H4 { S2 with rd := S2.rd + 1, pg := putK S2.pg (.inl (n : Int)) (.ref p) } D2 (s1.trans (s2.trans s4).ch) (M11.Tabs.cs (M11.Tabs.cs t1 s2) s4) sy4
      ((pi2.addPg hn hc ⟨p, rfl, hp2⟩ { S2 with rd := S2.rd + 1, pg := putK S2.pg (.inl (n : Int)) (.ref p) } (by show putK S2.pg _ _ = _; rw [dropK_no (valV_not e2)]) rfl rfl rfl (fun _ => pi2.dk n _ hc (.inl e2))).kps kp)
      ⟨by have := tr.rd; show S.rd ≤ S2.rd + 1; omega, tr.w0, tr.w1, tr.ws⟩ rm2.og ?_ (kp.p _ _ hp2)
    show ((putK S2.pg (.inl (n : Int)) (.ref p)).length : Int) ≤ max cap (S2.og.length + 1)
    rw [put_len e2, rm2.og]
    omega
end
end K11
end

section
-- part K11S
set_option Elab.async false
set_option linter.all false
set_option maxRecDepth 100000
set_option maxHeartbeats 800000
open PySem PySem.Spec PyProof.Rows L2 Fw
local macro_rules | `(tactic| walk_at "e1") => `(tactic| first
  | ((with_reducible refine' w_var ?hv ?_); (case hv => rfl))
  | with_reducible refine w_c ?_
  | with_reducible refine w_op ?_
  | with_reducible refine w_un ?_
  | with_reducible refine w_cons ?_
  | with_reducible refine w_nil ?_
  | with_reducible refine w_cl ?_
  | with_reducible refine w_cb ?_
  | with_reducible refine w_gname ?_
  | with_reducible refine w_gsub ?_
  | with_reducible refine w_test ?_
  | with_reducible refine w_B ?_
  | with_reducible refine w_bl ?_
  | with_reducible refine w_and ?_
  | with_reducible refine w_or ?_
  | with_reducible refine w_not ?_
  | with_reducible refine w_if ?_
  | with_reducible refine w_I0 ?_
  | with_reducible refine Gk.w_rU ?_
  | with_reducible refine Dq.w_orV ?_
  | with_reducible refine Dq.w_js ?_
  | with_reducible refine Dq.w_js0 ?_
  | with_reducible refine Dq.w_fm ?_
  | with_reducible refine Dq.w_andV ?_
  | with_reducible refine Gk.w_iEnum ?_
  | with_reducible refine Dq.w_dget ?_
  | with_reducible refine Dq.w_dpop1 ?_
  | with_reducible refine Dq.w_ddel ?_
  | with_reducible refine Dq.w_din ?_
  | with_reducible refine Dq.w_dnotin ?_
  | with_reducible refine Dq.w_dget2 ?_
  | with_reducible refine Dq.w_dnew ?_
  | with_reducible refine Dq.w_fldaug ?_
  | with_reducible refine Dq.w_aSub ?_
  | with_reducible refine Dq.w_aAdd ?_
  | with_reducible refine Dq.w_mkd ?_
  | with_reducible refine Dq.w_notN0 ?_
  | with_reducible refine Dq.w_isN0 ?_
  | with_reducible refine Dq.w_notNR ?_
  | with_reducible refine Dq.w_isNR ?_
  | with_reducible refine Dq.w_notNI ?_
  | with_reducible refine Dq.w_isNI ?_
  | with_reducible refine L2.w_neOs ?_
  | with_reducible refine w_ipI ?_
  | with_reducible refine w_eqS ?_
  | with_reducible refine w_neS ?_
  | with_reducible refine w_eqI ?_
  | with_reducible refine w_neI ?_
  | with_reducible refine w_eqB ?_
  | with_reducible refine w_neB ?_
  | ((with_reducible refine w_eq ?hs ?_); (case hs => rfl))
  | ((with_reducible refine w_ne ?hs ?_); (case hs => rfl))
  | with_reducible refine w_fld ?_
  | with_reducible refine w_bm ?_
  | with_reducible refine w_bm0 ?_
  | with_reducible refine w_sl ?_
  | with_reducible refine w_part ?_
  | with_reducible refine w_partI ?_
  | with_reducible refine w_nopart ?_
  | ((with_reducible refine' w_ixL ?hh ?ha ?_); (case hh => first | assumption | exact upd_same); (case ha => rfl))
  | ((with_reducible refine' w_setLu ?ha ?_); (case ha => rfl))
  | ((with_reducible refine' w_setL ?hh ?ha ?_); (case hh => first | assumption | exact upd_same); (case ha => rfl))
  | with_reducible refine w_iteT ?_
  | with_reducible refine w_iteF ?_
  | with_reducible refine w_lst ?_
  | with_reducible refine w_tup ?_
  | ((with_reducible refine w_new ?hz ?_); (case hz => rfl))
  | with_reducible refine w_lc ?_
  | with_reducible refine w_iL ?_
  | with_reducible refine w_iT ?_
  | with_reducible refine w_iR1 ?_
  | with_reducible refine w_iR2 ?_
  | with_reducible refine w_yes ?_
  | with_reducible refine w_iStr ?_
  | with_reducible exact tyS
  | with_reducible refine And.intro tyS ?_
  | ((with_reducible refine w_find3 ?_); (first | rw [find3_one] | rw [starts3] | skip))
  | ((with_reducible refine w_2s ?_); (try rw [find_one]))
  | ((with_reducible refine w_inS ?_); rw [S_list])
  | ((with_reducible refine w_lenS ?hz ?_); (case hz => first | assumption | omega | decide); rw [SX.S_len])
  | ((with_reducible refine w_addS ?hz ?_); (case hz => first | assumption | omega | decide); rw [vS_cat])
  | with_reducible refine w_mk ?_
  | with_reducible refine w_me ?_
  | with_reducible refine w_sfld ?_
  | ((with_reducible refine' w_gtup ?hh ?hn ?_); (case hh => first | assumption | exact upd_same); (case hn => rfl))
  | with_reducible refine w_gcons ?_
  | with_reducible refine w_gnil ?_
  | with_reducible refine w_repl ?_
  | with_reducible refine w_star ?_
  | with_reducible refine w_revL ?_
  | with_reducible refine w_isiS ?_
  | with_reducible refine w_isiI ?_
  | with_reducible refine w_isiN ?_
  | with_reducible refine w_chain ?_
  | with_reducible refine w_iEnumT ?_
  | with_reducible refine w_iZip3 ?_
  | with_reducible refine w_iZip ?_
  | with_reducible refine w_lenR3 ?_
  | with_reducible refine w_x1i ?_
  | with_reducible refine w_x1b ?_
  | with_reducible refine w_x1s ?_
  | with_reducible refine w_int1i ?_
  | with_reducible refine w_int1b ?_
  | ((with_reducible refine w_mod ?hc ?_); (case hc => omega))
  | ((with_reducible refine w_fdivW ?hc ?hd ?_); (case hc => omega); (case hd => omega))
  | ((with_reducible refine w_mul ?hc ?_); (case hc => first | exact Or.inr ⟨by decide, by decide⟩ | exact Or.inl ⟨by decide, by decide⟩))
  | ((with_reducible refine w_pow ?hc ?_); (case hc => exact ⟨by decide, by decide, by decide⟩)))
local macro_rules | `(tactic| walk_at "f1") => `(tactic| first
  | ((with_reducible refine' K11.g_disk ?hW ?hK ?hs ?hx ?_); (case hW => assumption); (case hK => rfl); (case hs => rfl); (case hx => first | assumption | exact upd_same))
  | ((with_reducible refine' K11.g_capacity ?hW ?hK ?hs ?hx ?_); (case hW => assumption); (case hK => rfl); (case hs => rfl); (case hx => first | assumption | exact upd_same))
  | ((with_reducible refine' K11.g_pages ?hW ?hK ?hs ?hx ?_); (case hW => assumption); (case hK => rfl); (case hs => rfl); (case hx => first | assumption | exact upd_same))
  | ((with_reducible refine' K11.g_changed ?hW ?hK ?hs ?hx ?_); (case hW => assumption); (case hK => rfl); (case hs => rfl); (case hx => first | assumption | exact upd_same))
  | ((with_reducible refine' K11.g_open_group ?hW ?hK ?hs ?hx ?_); (case hW => assumption); (case hK => rfl); (case hs => rfl); (case hx => first | assumption | exact upd_same))
  | ((with_reducible refine' K11.g_parts ?hW ?hK ?hs ?hx ?_); (case hW => assumption); (case hK => rfl); (case hs => rfl); (case hx => first | assumption | exact upd_same))
  | ((with_reducible refine' K11.g_reads ?hW ?hK ?hs ?hx ?_); (case hW => assumption); (case hK => rfl); (case hs => rfl); (case hx => first | assumption | exact upd_same))
  | ((with_reducible refine' K11.g_writes ?hW ?hK ?hs ?hx ?_); (case hW => assumption); (case hK => rfl); (case hs => rfl); (case hx => first | assumption | exact upd_same))
  | ((with_reducible refine' K11.g_block_size ?hW ?hK ?hs ?hx ?_); (case hW => assumption); (case hK => rfl); (case hs => rfl); (case hx => first | assumption | exact upd_same))
  | ((with_reducible refine' K11.g_blocks ?hW ?hK ?hs ?hx ?_); (case hW => assumption); (case hK => rfl); (case hs => rfl); (case hx => first | assumption | exact upd_same))
  | ((with_reducible refine' K11.g_log ?hW ?hK ?hs ?hx ?_); (case hW => assumption); (case hK => rfl); (case hs => rfl); (case hx => first | assumption | exact upd_same))
  | ((with_reducible refine' K11.g_waiting ?hW ?hK ?hs ?hx ?_); (case hW => assumption); (case hK => rfl); (case hs => rfl); (case hx => first | assumption | exact upd_same))
  | ((with_reducible refine' K11.g_written ?hW ?hK ?hs ?hx ?_); (case hW => assumption); (case hK => rfl); (case hs => rfl); (case hx => first | assumption | exact upd_same))
  | ((with_reducible refine' K11.g_log_tail ?hW ?hK ?hs ?hx ?_); (case hW => assumption); (case hK => rfl); (case hs => rfl); (case hx => first | assumption | exact upd_same))
  | ((with_reducible refine' K11.g_fuse ?hW ?hK ?hs ?hx ?_); (case hW => assumption); (case hK => rfl); (case hs => rfl); (case hx => first | assumption | exact upd_same))
  | ((with_reducible refine' K11.g_dead ?hW ?hK ?hs ?hx ?_); (case hW => assumption); (case hK => rfl); (case hs => rfl); (case hx => first | assumption | exact upd_same))
  | ((with_reducible refine' K11.g_steps ?hW ?hK ?hs ?hx ?_); (case hW => assumption); (case hK => rfl); (case hs => rfl); (case hx => first | assumption | exact upd_same))
  | walk_at "e1")
local macro_rules | `(tactic| walk_at "s1") => `(tactic| first
  | with_reducible refine w_seq ?_
  | with_reducible refine w_asg ?_
  | with_reducible refine w_ret ?_
  | with_reducible refine w_par ?_
  | with_reducible refine w_drop ?_
  | with_reducible refine w_next ?_
  | with_reducible refine w_ifs ?_
  | ((with_reducible refine' w_aug ?hv ?_); (case hv => rfl))
  | with_reducible refine w_for ?_
  | walk_at "f1")
local macro_rules | `(tactic| walk_at "e") => `(tactic| repeat walk_at "e1")
local macro_rules | `(tactic| walk_at "g") => `(tactic| repeat walk_at "s1")

namespace K11
open Dc Gk M5 M10 M8 M11 LamX
theorem w_ifRest {c : TT} {a b : TS} {D : Ends} {σ : L2.St} {H : Hp} (I : L2.St → Hp → Prop) (h1 : ∀ N : L2.St → Hp → Prop, (∀ σ' H', I σ' H' → N σ' H') → tIfS c a b { D with nx := N } σ H) (h2 : ∀ σ' H', I σ' H' → D.nx σ' H') : tIfS c a b D σ H := h1 D.nx h2
section
variable {K : PySem.W.Frag} {cPg cD cP : Addr} {H H' : Hp} {S : PS} {D : DS} {now kept : Cont}
theorem w_ne00 {a b : Addr} {Q : VK} (ha : H a = some (.lst [])) (hb : H b = some (.lst [])) (q : Q (.bl false) H) : rNeD K (.ref a) (.ref b) H Q := ⟨_, _, .lst (SqL.of ha) .nil, .lst (SqL.of hb) .nil, rfl, rfl, q⟩
theorem set_same {f : Cont} {n : Int} {c : Option Pgc} : f.set n c n = c := if_pos rfl
theorem set_ne {f : Cont} {n m : Int} {c : Option Pgc} (h : m ≠ n) : f.set n c m = f m := if_neg h
/-- a page is put -/
theorem PI.put (h : PI K cPg H S D now kept) {n : Nat} {p : Addr} {c : Pgc} {bf : Option Addr} (hn : n < 5) (hp : PgC K cPg H p c) (hk : Pok c) (hb : valV S.pg (.inl (n : Int)) = bf.map V.ref) (S' : PS)
    (e1 : S'.pg = putK (dropK S.pg (.inl (n : Int))) (.inl (n : Int)) (.ref p)) (e2 : S'.ch = putK S.ch (.inl (n : Int)) (.bl true))
    (e3 : ((valV S.og (.inl (n : Int))).isSome = true ∧ S'.og = S.og) ∨ (valV S.og (.inl (n : Int)) = none ∧ ∃ t, S'.og = putK S.og (.inl (n : Int)) (.ref t) ∧ SqT K H t [bfV bf, .bl (valV S.ch (.inl (n : Int))).isSome])) (e4 : S'.wr = S.wr) : PI K cPg H S' D (now.set n (some c)) kept := by
  have ogs : ∀ m, m ≠ (n : Int) → valV S'.og (.inl m) = valV S.og (.inl m) := fun m z => by
    rcases e3 with ⟨_, e⟩ | ⟨_, t, e, _⟩
    · rw [e]
    · rw [e, put_ne (inl_ne z)]
  have ogn : (valV S'.og (.inl (n : Int))).isSome = true := by
    rcases e3 with ⟨z, e⟩ | ⟨_, t, e, _⟩
    · rw [e]; exact z
    · rw [e, put_same]; rfl
  have pgs : ∀ m, m ≠ (n : Int) → valV S'.pg (.inl m) = valV S.pg (.inl m) := fun m z => by rw [e1, put_ne (inl_ne z), drop_ne (inl_ne z)]
  have pgn : valV S'.pg (.inl (n : Int)) = some (.ref p) := by rw [e1, put_same]
  have chs : ∀ m, m ≠ (n : Int) → valV S'.ch (.inl m) = valV S.ch (.inl m) := fun m z => by rw [e2, put_ne (inl_ne z)]
  have chn : valV S'.ch (.inl (n : Int)) = some (.bl true) := by rw [e2, put_same]
  exact {
    kp := by rw [e1]; exact h.kp.drop.put hn
    kc := by rw [e2]; exact h.kc.put hn
    ko := by
      rcases e3 with ⟨z, e⟩ | ⟨_, t, e, _⟩
      · rw [e]; exact h.ko
      · rw [e]; exact h.ko.put hn
    np := by rw [e1]; exact nodup_put (nd_dropK h.np)
    nc := by rw [e2]; exact nodup_put h.nc
    no := by
      rcases e3 with ⟨z, e⟩ | ⟨_, t, e, _⟩
      · rw [e]; exact h.no
      · rw [e]; exact nodup_put h.no
    pg := fun m u e => by
      by_cases z : m = (n : Int)
      · subst z
        rw [pgn] at e
        cases e
        exact ⟨c, set_same, p, rfl, hp⟩
      · rw [pgs m z] at e
        rw [set_ne z]
        exact h.pg m u e
    dk := fun m c' e y => by
      by_cases z : m = (n : Int)
      · subst z
        rw [pgn, chn] at y
        rcases y with y | ⟨_, y⟩ <;> cases y
      · rw [set_ne z] at e
        rw [pgs m z, chs m z, ogs m z] at y
        exact h.dk m c' e y
    og := fun m u e => by
      by_cases z : m = (n : Int)
      · subst z
        refine ⟨by rw [pgn]; rfl, by rw [chn]; rfl, ?_⟩
        rcases e3 with ⟨_, e3⟩ | ⟨z, t, e3, ht⟩
        · rw [e3] at e
          obtain ⟨_, _, r⟩ := h.og _ u e
          exact r
        · rw [e3, put_same] at e
          cases e
          refine ⟨t, bf, _, rfl, ht, fun b hb' => ?_, fun hb' => ?_, fun y c' hc' => ?_⟩
          · rw [hb'] at hb
            obtain ⟨c0, hc0, b', e5, hb5⟩ := h.pg _ _ hb
            cases e5
            exact ⟨c0, by rw [← h.eq _ z]; exact hc0, hb5⟩
          · rw [hb'] at hb
            cases q : (valV S.ch (.inl (n : Int))).isSome with
            | false => rfl
            | true =>
              have := h.ch _ q
              rw [hb] at this
              cases this
          · rw [← h.eq _ z] at hc'
            refine h.dk _ c' hc' ?_
            rcases y with y | y
            · rw [y] at hb
              exact .inl hb
            · exact .inr ⟨z, Option.not_isSome_iff_eq_none.mp (by rw [y]; exact Bool.false_ne_true)⟩
      · rw [ogs m z] at e
        rw [pgs m z, chs m z]
        exact h.og m u e
    ch := fun m e => by
      by_cases z : m = (n : Int)
      · rw [z, pgn]; rfl
      · rw [chs m z] at e
        rw [pgs m z]
        exact h.ch m e
    eq := fun m e => by
      by_cases z : m = (n : Int)
      · rw [z] at e
        rw [e] at ogn
        cases ogn
      · rw [ogs m z] at e
        rw [set_ne z]
        exact h.eq m e
    ok := fun m c' e => by
      by_cases z : m = (n : Int)
      · rw [z, set_same] at e
        cases e
        exact hk
      · rw [set_ne z] at e
        exact h.ok m c' e
    ok2 := h.ok2
    wp := h.wp
    al := h.al
    cn := by rw [e4]; exact h.cn }
end
section
variable {P : Program} {w : World} {K : PySem.W.Frag} {mg : Str → Option Value} {base : Heap} {cPF cPg cDF cD aE cP : Addr}
def spPut (K : PySem.W.Frag) (cPF cPg cD cP : Addr) : Sp := fun vs H Q E => ∃ (x d : Addr) (cap : Int) (L : Ad) (S : PS) (D : DS) (now kept : Cont) (n : Nat) (p : Addr) (c : Pgc), vs = [.ref x, .int n, .ref p] ∧ Sys K cD cP H x d cap L S D ∧ PI K cPg H S D now kept ∧ 1 ≤ cap ∧ n < 5 ∧ S.wr ≤ 900 ∧ SzI cap S ∧ PgC K cPg H p c ∧ c.2.2.length ≤ 70000 ∧
  (96 < sizeL c.2.2 → Fails H E cPF) ∧ (sizeL c.2.2 ≤ 96 → Pok c ∧
  ∀ H' S' D', Cs (L.all x d) H H' → Sys K cD cP H' x d cap L S' D' → PI K cPg H' S' D' (now.set n (some c)) kept → Tr S D S' D' → (∀ m : Int, (valV S'.og (.inl m)).isSome = true ↔ m = n ∨ (valV S.og (.inl m)).isSome = true) → SzI cap S' → Q .non H')
theorem ok_put (W : Wp K mg cPF cPg cDF cD aE cP) (c_Page_size : Me P w K mg base 1 cPg "size" (spSize K cPg)) (c_Pool_make_room : Me P w K mg base 5 cP "make_room" (spRoom K cPg cD cP)) : Me P w K mg base 6 cP "put" (spPut K cPF cPg cD cP) := by
  refine me_mk W.q_put W.q_cl sc_Pool_put (fun _ _ _ _ _ _ us hl => match us, hl with | [_, _, _], _ => rfl) (fun vs H Q E h => ?_) (fun f cdv A outer s H vs Q E hr h => ?_)
  · obtain ⟨x, d, cap, L, S, D, now, kept, n, p, c, rfl, _⟩ := h; rfl
  obtain ⟨x, d, cap, L, S, D, now, kept, n, p, c, rfl, sy, pi, hcap, hn, hw, hz, hp, hcl, qF, q⟩ := h
  have hx := sy.hx
  obtain ⟨⟨ddx, lB, tB, zs, hd, g2, g3, g4, g5⟩, _⟩ := id sy.dk
  obtain ⟨pdx, pt, pzs, hpp, _⟩ := id hp
  refine ⟨_, (pss_cons (ps_if (pt_cmpR op_gt (pe_me0 c_Page_size hr (by decide) passL (pv 2)) (pe_fld (pe_fld (pv 0) rfl) rfl) (nomark _))
    (pss_one (ps_raise rfl (takes_of rfl rfl rfl rfl) (pmk_own PySem.F.excBase_ValueError W.e_PageFault.ox W.e_PageFault.og W.e_PageFault.ok (raises_own W.e_PageFault.ob W.e_PageFault.ot) rfl)))
    pss_nil)
    (pss_cons (ps_set (i := 3) sc_Pool_put.nd rfl (Or.inl rfl) pe_non)
    (pss_cons (ps_if (pt_cmp (pc_dnotin (hu_of hr) (pv 1) (pe_fld (pv 0) rfl)) (by with_unfolding_all rfl))
    (pss_one (ps_expr (pe_me c_Pool_make_room hr (by decide) passD (pv 0) (pa_cons (pe_op op_sub (pe_fld (pv 0) rfl) pe_int) pa_nil))))
    (pss_one (ps_set (i := 3) sc_Pool_put.nd rfl (Or.inl rfl) (pe_dpop1 (pe_fld (pv 0) rfl) (pv 1) ⟨rfl, rfl, rfl, rfl⟩))))
    (pss_cons (ps_if (PW.pt (pw_and (pt_cmpR (op_neD (hu64 hr)) (pe_fld (pv 0) rfl) (pe_lst pa_nil) (nomark _)) (pw_and1 (pt_cmp (pc_dnotin (hu_of hr) (pv 1) (pe_ix ix_list (pe_fld (pv 0) rfl) (pe_un un_neg pe_int) (fun _ _ => rfl))) (by with_unfolding_all rfl)))))
    (pss_one (ps_asg (pe_ifExp (pt_cmp (pc_din (hu_of hr) (pv 1) (pe_fld (pv 0) rfl)) (by with_unfolding_all rfl)) (pv 3) pe_non) (pg_sub (pe_ix ix_list (pe_fld (pv 0) rfl) (pe_un un_neg pe_int) (fun _ _ => rfl)) (pv 1) (set_dict (hu_of hr)))))
    pss_nil)
    (pss_cons (ps_if (pt_cmp (pc_dnotin (hu_of hr) (pv 1) (pe_fld (pv 0) rfl)) (by with_unfolding_all rfl))
    (pss_one (ps_asg (pe_tup (pa_cons (pv 3) (pa_cons (pe_cmp (pc_din (hu_of hr) (pv 1) (pe_fld (pv 0) rfl)) (by with_unfolding_all rfl)) pa_nil))) (pg_sub (pe_fld (pv 0) rfl) (pv 1) (set_dict (hu_of hr)))))
    pss_nil)
    (pss_cons (ps_asg (pv 2) (pg_sub (pe_fld (pv 0) rfl) (pv 1) (set_dict (hu_of hr))))
    (pss_one (ps_asg pe_bl (pg_sub (pe_fld (pv 0) rfl) (pv 1) (set_dict (hu_of hr))))))))))), ?_⟩
  walk_at "g"
  refine ⟨p, pdx, _, rfl, hpp, pg_m _ _ _ (by decide +kernel) (by decide +kernel) (by decide +kernel), ?_⟩
  walk_at "g"
  refine ⟨p, c.1, c.2.1, c.2.2, rfl, hp, hcl, fun H1 s1 => ?_⟩
  have sy1 := sy.sm s1
  have hx1 := sy1.hx
  have hd1 := s1 _ _ hd
  walk_at "g"
  refine ⟨d, cD, ddx, _, _, rfl, hd1, W.k_cl, W.k_block_size, l_block_size, ?_⟩
  walk_at "g"
  refine w_iteD (fun c1 => ?_) (fun c1 => ?_)
  · walk_at "g"
    exact qF (by omega) H1 s1
  obtain ⟨pok, q⟩ := q (by omega)
  have kp1 : Kps K cPg H H1 := ⟨fun a c h => PgO.sm h s1, fun a xs h => sqT_same h s1⟩
  replace pi := pi.kps kp1
  replace hp := kp1.p _ _ hp
  replace q : ∀ H' S' D', Cs (L.all x d) H1 H' → Sys K cD cP H' x d cap L S' D' → PI K cPg H' S' D' (now.set n (some c)) kept → Tr S D S' D' → (∀ m : Int, (valV S'.og (.inl m)).isSome = true ↔ m = n ∨ (valV S.og (.inl m)).isSome = true) → SzI cap S' → Q .non H' := fun H' S' D' s => q H' S' D' ((Cs.of s1).trans s)
  clear hpp hd sy hx s1 kp1 qF
  iterate 6 walk_at "s1"
  refine w_ifRest (fun σ' H' => ∃ (S1 : PS) (D1 : DS) (bf : Option Addr), σ' = [some (.ref x), some (.int (n : Int)), some (.ref p), some (bfV bf)] ∧ Cs (L.all x d) H1 H' ∧ Sys K cD cP H' x d cap L { S1 with pg := dropK S1.pg (.inl (n : Int)) } D1 ∧ PI K cPg H' S1 D1 now kept ∧ Rm S D S1 D1 ∧
    valV S1.pg (.inl (n : Int)) = bf.map V.ref ∧ (∃ zs, D1.ws = D.ws ++ zs ∧ ∀ p ∈ zs, valV S.og (.inl p.1) = none ∧ p.1 ≠ (n : Int)) ∧ ∀ v : V, ((putK (dropK S1.pg (.inl (n : Int))) (.inl (n : Int)) v).length : Int) ≤ max cap (S.og.length + 1)) (fun N hN => ?_) ?_
  · walk_at "g"
    refine ⟨L.pA, _, rfl, DGet.k (k := .inl (n : Int)) sy1.pg, ?_⟩
    cases e : valV S.pg (.inl (n : Int)) with
    | none =>
      rw [Option.isSome_none, Bool.not_false]
      walk_at "g"
      refine ⟨x, L.dx, _, rfl, hx1, mp_none (by decide +kernel), ?_⟩
      walk_at "g"
      refine ⟨x, d, cap, cap - 1, L, S, D, now, kept, rfl, sy1, pi, by omega, hw, fun H2 S2 D2 s2 sy2 pi2 rm2 hz2 => ?_⟩
      have e2 : valV S2.pg (.inl (n : Int)) = none := by
        cases z : valV S2.pg (.inl (n : Int)) with
        | none => rfl
        | some v => rw [rm2.pg _ _ z] at e; cases e
      refine hN _ _ ⟨S2, D2, none, rfl, s2, ?_, pi2, rm2, e2, ?_, fun v => ?_⟩
      · rw [dropK_no (valV_not e2)]
        exact sy2
      · obtain ⟨zs, z1, z2⟩ := rm2.ws
        refine ⟨zs, z1, fun p hp => ⟨(z2 p hp).1, fun z => ?_⟩⟩
        have := (z2 p hp).2
        rw [z, e] at this
        cases this
      · rw [dropK_no (valV_not e2), put_len e2]
        omega
    | some u =>
      obtain ⟨c', hc', b, rfl, hb⟩ := pi.pg _ _ e
      rw [Option.isSome_some, Bool.not_true]
      walk_at "g"
      refine ⟨L.pA, rfl, .inl ⟨_, .inl sy1.pg⟩, ?_⟩
      walk_at "g"
      refine ⟨S.pg, .inl (n : Int), .ref b, sy1.pg, rfl, e, ?_⟩
      refine hN _ _ ⟨S, D, some b, rfl, sy1.csP, sy1.setP _, pi.kps (Kps.of sy1 sy1.csP.ch), Rm.refl _ _, e, ⟨[], by simp, fun p hp => absurd hp List.not_mem_nil⟩, fun v => ?_⟩
      rw [pop_len pi.np e]
      exact hz
  · rintro σ' H2 ⟨S1, D1, bf, rfl, s2, sy2, pi2, rm, hb, hws, hz2⟩
    have hx2 := sy2.hx
    walk_at "g"
    intro e0 he0
    have s3 := same_new he0 (.lst [])
    refine w_ne00 (s3 _ _ sy2.hr) upd_same ?_
    generalize upd H2 e0 (.lst []) = H3 at s3
    have sy3 := sy2.sm s3
    have hx3 := sy3.hx
    have pi3 : PI K cPg H3 S1 D1 now kept := pi2.kps ⟨fun a c h => PgO.sm h s3, fun a xs h => sqT_same h s3⟩
    replace s2 : Cs (L.all x d) H1 H3 := s2.trans (Cs.of s3)
    have hog1 : S1.og = S.og := rm.og
    clear hx2 sy2 pi2 s3
    iterate 5 walk_at "s1"
    refine w_ifRest (fun σ' H' => ∃ og' : List (Key × V), σ' = [some (.ref x), some (.int (n : Int)), some (.ref p), some (bfV bf)] ∧ Cs (L.all x d) H3 H' ∧ Sys K cD cP H' x d cap L { S1 with pg := dropK S1.pg (.inl (n : Int)), og := og' } D1 ∧ og'.length ≤ 6 ∧ S.og.length ≤ og'.length ∧
      (((valV S1.og (.inl (n : Int))).isSome = true ∧ og' = S1.og) ∨ (valV S1.og (.inl (n : Int)) = none ∧ ∃ t, og' = putK S1.og (.inl (n : Int)) (.ref t) ∧ SqT K H' t [bfV bf, .bl (valV S1.ch (.inl (n : Int))).isSome]))) (fun N hN => ?_) ?_
    · walk_at "g"
      refine ⟨L.oA, _, rfl, DGet.k (k := .inl (n : Int)) sy3.og, ?_⟩
      have lo : S1.og.length ≤ 5 := pi3.ko.len pi3.no
      cases e : valV S1.og (.inl (n : Int)) with
      | some u =>
        rw [Option.isSome_some, Bool.not_true]
        walk_at "g"
        exact hN _ _ ⟨S1.og, rfl, Cs.refl _ _, sy3, by omega, by rw [hog1]; exact Nat.le_refl _, .inl ⟨by rw [e]; rfl, rfl⟩⟩
      | none =>
        rw [Option.isSome_none, Bool.not_false]
        walk_at "g"
        refine ⟨L.cA, _, rfl, DGet.k (k := .inl (n : Int)) sy3.ch, ?_⟩
        walk_at "g"
        intro t ht
        have s4 := same_new ht (.tup [bfV bf, .bl (valV S1.ch (.inl (n : Int))).isSome])
        have et : upd H3 t (.tup [bfV bf, .bl (valV S1.ch (.inl (n : Int))).isSome]) t = some (.tup [bfV bf, .bl (valV S1.ch (.inl (n : Int))).isSome]) := upd_same
        generalize upd H3 t (.tup [bfV bf, .bl (valV S1.ch (.inl (n : Int))).isSome]) = H4 at s4 et
        have sy4 := sy3.sm s4
        have hx4 := sy4.hx
        walk_at "g"
        refine ⟨L.oA, _, rfl, DPut.k (k := .inl (n : Int)) sy4.og (Nat.lt_of_le_of_lt lo (by decide)), ?_⟩
        have s5 := sy4.csO (o := .dK (putK S1.og (.inl (n : Int)) (.ref t)))
        refine hN _ _ ⟨putK S1.og (.inl (n : Int)) (.ref t), rfl, (Cs.of s4).trans s5, sy4.setO _, by rw [put_len e]; omega, by rw [put_len e, hog1]; omega, .inr ⟨e, t, rfl, s5.ch.sqT (SqT.of et)⟩⟩
    · rintro σ' H4 ⟨og', rfl, s4, sy4, lo, lo2, e3⟩
      have hx4 := sy4.hx
      walk_at "g"
      have lp : (dropK S1.pg (.inl (n : Int))).length ≤ 5 := Nat.le_trans (dropK_le _ _) (pi3.kp.len pi3.np)
      have lc : S1.ch.length ≤ 5 := pi3.kc.len pi3.nc
      refine ⟨L.pA, _, rfl, DPut.k (k := .inl (n : Int)) sy4.pg (Nat.lt_of_le_of_lt lp (by decide)), ?_⟩
      have s5 := s4.trans (sy4.csP (o := .dK (putK (dropK S1.pg (.inl (n : Int))) (.inl (n : Int)) (.ref p))))
      have s45 := sy4.csP (o := .dK (putK (dropK S1.pg (.inl (n : Int))) (.inl (n : Int)) (.ref p)))
      have sy5 := sy4.setP (putK (dropK S1.pg (.inl (n : Int))) (.inl (n : Int)) (.ref p))
      generalize upd H4 L.pA (.dK (putK (dropK S1.pg (.inl (n : Int))) (.inl (n : Int)) (.ref p))) = H5 at s5 sy5 s45
      have hx5 := sy5.hx
      walk_at "g"
      refine ⟨L.cA, _, rfl, DPut.k (k := .inl (n : Int)) sy5.ch (Nat.lt_of_le_of_lt lc (by decide)), ?_⟩
      have s6 := s5.trans (sy5.csC (o := .dK (putK S1.ch (.inl (n : Int)) (.bl true))))
      have s46 := s45.trans (sy5.csC (o := .dK (putK S1.ch (.inl (n : Int)) (.bl true))))
      have sy6 := sy5.setC (putK S1.ch (.inl (n : Int)) (.bl true))
      have kp : Kps K cPg H3 (upd H5 L.cA (.dK (putK S1.ch (.inl (n : Int)) (.bl true)))) := Kps.of sy3 s6.ch
      have kp1 : Kps K cPg H1 (upd H5 L.cA (.dK (putK S1.ch (.inl (n : Int)) (.bl true)))) := Kps.of sy1 (s2.trans s6).ch
      have tr := rm.tr (pi.kp.len pi.np)
      have ogs : ∀ m : Int, (valV og' (.inl m)).isSome = true ↔ m = n ∨ (valV S.og (.inl m)).isSome = true := fun m => by
        rw [← hog1]
        by_cases z : m = (n : Int)
        · rw [z]
          refine ⟨fun _ => .inl rfl, fun _ => ?_⟩
          rcases e3 with ⟨e, h⟩ | ⟨_, t, h, _⟩
          · rw [h]; exact e
          · rw [h, put_same]; rfl
        · have : valV og' (.inl m) = valV S1.og (.inl m) := by
            rcases e3 with ⟨e, h⟩ | ⟨_, t, h, _⟩
            · rw [h]
            · rw [h, put_ne (inl_ne z)]
          rw [this]
          exact ⟨fun h => .inr h, fun h => h.resolve_left z⟩
      refine q _ { S1 with pg := putK (dropK S1.pg (.inl (n : Int))) (.inl (n : Int)) (.ref p), og := og', ch := putK S1.ch (.inl (n : Int)) (.bl true) } D1 (s2.trans s6) sy6 ((pi3.kps kp).put hn (kp1.p _ _ hp) pok hb _ rfl rfl ?_ rfl) ⟨tr.rd, tr.w0, tr.w1, ?_⟩ ogs ?_
      · rcases e3 with h | ⟨h, t, h2, h3⟩
        · exact .inl h
        · exact .inr ⟨h, t, h2, s46.ch.sqT h3⟩
      · obtain ⟨zs, z1, z2⟩ := hws
        refine ⟨zs, z1, fun r hr => ⟨(z2 r hr).1, ?_⟩⟩
        refine Option.not_isSome_iff_eq_none.mp fun h => ?_
        rcases (ogs r.1).mp h with y | y
        · exact (z2 r hr).2 y
        · rw [(z2 r hr).1] at y
          cases y
      · have := hz2 (.ref p)
        show ((putK (dropK S1.pg (.inl (n : Int))) (.inl (n : Int)) (.ref p)).length : Int) ≤ max cap (og'.length + 1)
        omega
end
end K11
end

section
-- part K11U
set_option Elab.async false
set_option linter.all false
set_option maxRecDepth 100000
set_option maxHeartbeats 800000
open PySem PySem.Spec PyProof.Rows L2 Fw
local macro_rules | `(tactic| walk_at "e1") => `(tactic| first
  | ((with_reducible refine' w_var ?hv ?_); (case hv => rfl))
  | with_reducible refine w_c ?_
  | with_reducible refine w_op ?_
  | with_reducible refine w_un ?_
  | with_reducible refine w_cons ?_
  | with_reducible refine w_nil ?_
  | with_reducible refine w_cl ?_
  | with_reducible refine w_cb ?_
  | with_reducible refine w_gname ?_
  | with_reducible refine w_gsub ?_
  | with_reducible refine w_test ?_
  | with_reducible refine w_B ?_
  | with_reducible refine w_bl ?_
  | with_reducible refine w_and ?_
  | with_reducible refine w_or ?_
  | with_reducible refine w_not ?_
  | with_reducible refine w_if ?_
  | with_reducible refine w_I0 ?_
  | with_reducible refine Gk.w_rU ?_
  | with_reducible refine Dq.w_orV ?_
  | with_reducible refine Dq.w_js ?_
  | with_reducible refine Dq.w_js0 ?_
  | with_reducible refine Dq.w_fm ?_
  | with_reducible refine Dq.w_andV ?_
  | with_reducible refine Gk.w_iEnum ?_
  | with_reducible refine Dq.w_dget ?_
  | with_reducible refine Dq.w_dpop1 ?_
  | with_reducible refine Dq.w_ddel ?_
  | with_reducible refine Dq.w_din ?_
  | with_reducible refine Dq.w_dnotin ?_
  | with_reducible refine Dq.w_dget2 ?_
  | with_reducible refine Dq.w_dnew ?_
  | with_reducible refine Dq.w_fldaug ?_
  | with_reducible refine Dq.w_aSub ?_
  | with_reducible refine Dq.w_aAdd ?_
  | with_reducible refine Dq.w_mkd ?_
  | with_reducible refine Dq.w_notN0 ?_
  | with_reducible refine Dq.w_isN0 ?_
  | with_reducible refine Dq.w_notNR ?_
  | with_reducible refine Dq.w_isNR ?_
  | with_reducible refine Dq.w_notNI ?_
  | with_reducible refine Dq.w_isNI ?_
  | with_reducible refine L2.w_neOs ?_
  | with_reducible refine w_ipI ?_
  | with_reducible refine w_eqS ?_
  | with_reducible refine w_neS ?_
  | with_reducible refine w_eqI ?_
  | with_reducible refine w_neI ?_
  | with_reducible refine w_eqB ?_
  | with_reducible refine w_neB ?_
  | ((with_reducible refine w_eq ?hs ?_); (case hs => rfl))
  | ((with_reducible refine w_ne ?hs ?_); (case hs => rfl))
  | with_reducible refine w_fld ?_
  | with_reducible refine w_bm ?_
  | with_reducible refine w_bm0 ?_
  | with_reducible refine w_sl ?_
  | with_reducible refine w_part ?_
  | with_reducible refine w_partI ?_
  | with_reducible refine w_nopart ?_
  | ((with_reducible refine' w_ixL ?hh ?ha ?_); (case hh => first | assumption | exact upd_same); (case ha => rfl))
  | ((with_reducible refine' w_setLu ?ha ?_); (case ha => rfl))
  | ((with_reducible refine' w_setL ?hh ?ha ?_); (case hh => first | assumption | exact upd_same); (case ha => rfl))
  | with_reducible refine w_iteT ?_
  | with_reducible refine w_iteF ?_
  | with_reducible refine w_lst ?_
  | with_reducible refine w_tup ?_
  | ((with_reducible refine w_new ?hz ?_); (case hz => rfl))
  | with_reducible refine w_lc ?_
  | with_reducible refine w_iL ?_
  | with_reducible refine w_iT ?_
  | with_reducible refine w_iR1 ?_
  | with_reducible refine w_iR2 ?_
  | with_reducible refine w_yes ?_
  | with_reducible refine w_iStr ?_
  | with_reducible exact tyS
  | with_reducible refine And.intro tyS ?_
  | ((with_reducible refine w_find3 ?_); (first | rw [find3_one] | rw [starts3] | skip))
  | ((with_reducible refine w_2s ?_); (try rw [find_one]))
  | ((with_reducible refine w_inS ?_); rw [S_list])
  | ((with_reducible refine w_lenS ?hz ?_); (case hz => first | assumption | omega | decide); rw [SX.S_len])
  | ((with_reducible refine w_addS ?hz ?_); (case hz => first | assumption | omega | decide); rw [vS_cat])
  | with_reducible refine w_mk ?_
  | with_reducible refine w_me ?_
  | with_reducible refine w_sfld ?_
  | ((with_reducible refine' w_gtup ?hh ?hn ?_); (case hh => first | assumption | exact upd_same); (case hn => rfl))
  | with_reducible refine w_gcons ?_
  | with_reducible refine w_gnil ?_
  | with_reducible refine w_repl ?_
  | with_reducible refine w_star ?_
  | with_reducible refine w_revL ?_
  | with_reducible refine w_isiS ?_
  | with_reducible refine w_isiI ?_
  | with_reducible refine w_isiN ?_
  | with_reducible refine w_chain ?_
  | with_reducible refine w_iEnumT ?_
  | with_reducible refine w_iZip3 ?_
  | with_reducible refine w_iZip ?_
  | with_reducible refine w_lenR3 ?_
  | with_reducible refine w_x1i ?_
  | with_reducible refine w_x1b ?_
  | with_reducible refine w_x1s ?_
  | with_reducible refine w_int1i ?_
  | with_reducible refine w_int1b ?_
  | ((with_reducible refine w_mod ?hc ?_); (case hc => omega))
  | ((with_reducible refine w_fdivW ?hc ?hd ?_); (case hc => omega); (case hd => omega))
  | ((with_reducible refine w_mul ?hc ?_); (case hc => first | exact Or.inr ⟨by decide, by decide⟩ | exact Or.inl ⟨by decide, by decide⟩))
  | ((with_reducible refine w_pow ?hc ?_); (case hc => exact ⟨by decide, by decide, by decide⟩)))
local macro_rules | `(tactic| walk_at "f1") => `(tactic| first
  | ((with_reducible refine' K11.g_disk ?hW ?hK ?hs ?hx ?_); (case hW => assumption); (case hK => rfl); (case hs => rfl); (case hx => first | assumption | exact upd_same))
  | ((with_reducible refine' K11.g_capacity ?hW ?hK ?hs ?hx ?_); (case hW => assumption); (case hK => rfl); (case hs => rfl); (case hx => first | assumption | exact upd_same))
  | ((with_reducible refine' K11.g_pages ?hW ?hK ?hs ?hx ?_); (case hW => assumption); (case hK => rfl); (case hs => rfl); (case hx => first | assumption | exact upd_same))
  | ((with_reducible refine' K11.g_changed ?hW ?hK ?hs ?hx ?_); (case hW => assumption); (case hK => rfl); (case hs => rfl); (case hx => first | assumption | exact upd_same))
  | ((with_reducible refine' K11.g_open_group ?hW ?hK ?hs ?hx ?_); (case hW => assumption); (case hK => rfl); (case hs => rfl); (case hx => first | assumption | exact upd_same))
  | ((with_reducible refine' K11.g_parts ?hW ?hK ?hs ?hx ?_); (case hW => assumption); (case hK => rfl); (case hs => rfl); (case hx => first | assumption | exact upd_same))
  | ((with_reducible refine' K11.g_reads ?hW ?hK ?hs ?hx ?_); (case hW => assumption); (case hK => rfl); (case hs => rfl); (case hx => first | assumption | exact upd_same))
  | ((with_reducible refine' K11.g_writes ?hW ?hK ?hs ?hx ?_); (case hW => assumption); (case hK => rfl); (case hs => rfl); (case hx => first | assumption | exact upd_same))
  | ((with_reducible refine' K11.g_block_size ?hW ?hK ?hs ?hx ?_); (case hW => assumption); (case hK => rfl); (case hs => rfl); (case hx => first | assumption | exact upd_same))
  | ((with_reducible refine' K11.g_blocks ?hW ?hK ?hs ?hx ?_); (case hW => assumption); (case hK => rfl); (case hs => rfl); (case hx => first | assumption | exact upd_same))
  | ((with_reducible refine' K11.g_log ?hW ?hK ?hs ?hx ?_); (case hW => assumption); (case hK => rfl); (case hs => rfl); (case hx => first | assumption | exact upd_same))
  | ((with_reducible refine' K11.g_waiting ?hW ?hK ?hs ?hx ?_); (case hW => assumption); (case hK => rfl); (case hs => rfl); (case hx => first | assumption | exact upd_same))
  | ((with_reducible refine' K11.g_written ?hW ?hK ?hs ?hx ?_); (case hW => assumption); (case hK => rfl); (case hs => rfl); (case hx => first | assumption | exact upd_same))
  | ((with_reducible refine' K11.g_log_tail ?hW ?hK ?hs ?hx ?_); (case hW => assumption); (case hK => rfl); (case hs => rfl); (case hx => first | assumption | exact upd_same))
  | ((with_reducible refine' K11.g_fuse ?hW ?hK ?hs ?hx ?_); (case hW => assumption); (case hK => rfl); (case hs => rfl); (case hx => first | assumption | exact upd_same))
  | ((with_reducible refine' K11.g_dead ?hW ?hK ?hs ?hx ?_); (case hW => assumption); (case hK => rfl); (case hs => rfl); (case hx => first | assumption | exact upd_same))
  | ((with_reducible refine' K11.g_steps ?hW ?hK ?hs ?hx ?_); (case hW => assumption); (case hK => rfl); (case hs => rfl); (case hx => first | assumption | exact upd_same))
  | walk_at "e1")
local macro_rules | `(tactic| walk_at "s1") => `(tactic| first
  | with_reducible refine w_seq ?_
  | with_reducible refine w_asg ?_
  | with_reducible refine w_ret ?_
  | with_reducible refine w_par ?_
  | with_reducible refine w_drop ?_
  | with_reducible refine w_next ?_
  | with_reducible refine w_ifs ?_
  | ((with_reducible refine' w_aug ?hv ?_); (case hv => rfl))
  | with_reducible refine w_for ?_
  | walk_at "f1")
local macro_rules | `(tactic| walk_at "e") => `(tactic| repeat walk_at "e1")
local macro_rules | `(tactic| walk_at "g") => `(tactic| repeat walk_at "s1")

namespace K11
open Dc Gk M5 M10 M8 M11 LamX
/-! ### other objects in a pool's place -/
theorem nd_o {x p c o r d b q w o' : Addr} (h : [x, p, c, o, r, d, b, q, w].Nodup) (n : o' ∉ [x, p, c, o, r, d, b, q, w]) : [x, p, c, o', r, d, b, q, w].Nodup := by
  simp only [List.nodup_cons, List.mem_cons, List.not_mem_nil, or_false, not_or, not_false_eq_true, List.nodup_nil, and_true] at h n ⊢
  obtain ⟨⟨a1, a2, a3, a4, a5, a6, a7, a8⟩, ⟨b1, b2, b3, b4, b5, b6, b7⟩, ⟨c1, c2, c3, c4, c5, c6⟩, ⟨d1, d2, d3, d4, d5⟩, r⟩ := h
  obtain ⟨n1, n2, n3, n4, n5, n6, n7, n8, n9⟩ := n
  exact ⟨⟨a1, a2, Ne.symm n1, a4, a5, a6, a7, a8⟩, ⟨b1, Ne.symm n2, b3, b4, b5, b6, b7⟩, ⟨Ne.symm n3, c2, c3, c4, c5, c6⟩, ⟨n5, n6, n7, n8, n9⟩, r⟩
theorem nd_r {x p c o r d b q w r' : Addr} (h : [x, p, c, o, r, d, b, q, w].Nodup) (n : r' ∉ [x, p, c, o, r, d, b, q, w]) : [x, p, c, o, r', d, b, q, w].Nodup := by
  simp only [List.nodup_cons, List.mem_cons, List.not_mem_nil, or_false, not_or, not_false_eq_true, List.nodup_nil, and_true] at h n ⊢
  obtain ⟨⟨a1, a2, a3, a4, a5, a6, a7, a8⟩, ⟨b1, b2, b3, b4, b5, b6, b7⟩, ⟨c1, c2, c3, c4, c5, c6⟩, ⟨d1, d2, d3, d4, d5⟩, ⟨e1, e2, e3, e4⟩, r⟩ := h
  obtain ⟨n1, n2, n3, n4, n5, n6, n7, n8, n9⟩ := n
  exact ⟨⟨a1, a2, a3, Ne.symm n1, a5, a6, a7, a8⟩, ⟨b1, b2, Ne.symm n2, b4, b5, b6, b7⟩, ⟨c1, Ne.symm n3, c3, c4, c5, c6⟩, ⟨Ne.symm n4, d2, d3, d4, d5⟩, ⟨n6, n7, n8, n9⟩, r⟩
theorem nd_qw {x p c o r d b q w q' w' : Addr} (h : [x, p, c, o, r, d, b, q, w].Nodup) (n : q' ∉ [x, p, c, o, r, d, b, q, w]) (m : w' ∉ [x, p, c, o, r, d, b, q, w]) (e : q' ≠ w') : [x, p, c, o, r, d, b, q', w'].Nodup := by
  simp only [List.nodup_cons, List.mem_cons, List.not_mem_nil, or_false, not_or, not_false_eq_true, List.nodup_nil, and_true] at h n m ⊢
  obtain ⟨⟨a1, a2, a3, a4, a5, a6, a7, a8⟩, ⟨b1, b2, b3, b4, b5, b6, b7⟩, ⟨c1, c2, c3, c4, c5, c6⟩, ⟨d1, d2, d3, d4, d5⟩, ⟨e1, e2, e3, e4⟩, ⟨f1, f2, f3⟩, r⟩ := h
  obtain ⟨n1, n2, n3, n4, n5, n6, n7, n8, n9⟩ := n
  obtain ⟨m1, m2, m3, m4, m5, m6, m7, m8, m9⟩ := m
  exact ⟨⟨a1, a2, a3, a4, a5, a6, Ne.symm n1, Ne.symm m1⟩, ⟨b1, b2, b3, b4, b5, Ne.symm n2, Ne.symm m2⟩, ⟨c1, c2, c3, c4, Ne.symm n3, Ne.symm m3⟩, ⟨d1, d2, d3, Ne.symm n4, Ne.symm m4⟩, ⟨e1, e2, Ne.symm n5, Ne.symm m5⟩, ⟨f1, Ne.symm n6, Ne.symm m6⟩, ⟨Ne.symm n7, Ne.symm m7⟩, e⟩
/-- what stands in a pool's place afterwards is its own or new -/
def Nw (H : Hp) (x d : Addr) (L L' : Ad) : Prop := ∀ a ∈ L'.all x d, a ∈ L.all x d ∨ H a = none
section
variable {K : PySem.W.Frag} {cPg cD cP : Addr} {H H' H1 : Hp} {M : List Addr} {x d : Addr} {cap : Int} {L L' L2 : Ad} {S : PS} {D : DS}
theorem Nw.refl : Nw H x d L L := fun _ h => .inl h
theorem Sys.some_ (h : Sys K cD cP H x d cap L S D) {a : Addr} (m : a ∈ L.all x d) : ∃ o, H a = some o := by
  obtain ⟨⟨dx2, lA, tA, ys, hd, _, _, hq, _⟩, a2, b2, _⟩ := h.dk
  unfold Ad.all at m
  simp only [List.mem_cons, List.not_mem_nil, or_false] at m
  rcases m with z | z | z | z | z | z | z | z | z <;> rw [z]
  · exact ⟨_, h.hx⟩
  · exact ⟨_, h.pg⟩
  · exact ⟨_, h.ch⟩
  · exact ⟨_, h.og⟩
  · exact ⟨_, h.hr⟩
  · exact ⟨_, hd⟩
  · exact ⟨_, a2⟩
  · exact ⟨_, hq⟩
  · exact ⟨_, b2⟩
theorem Sys.nin (h : Sys K cD cP H x d cap L S D) {a : Addr} (e : H a = none) : a ∉ L.all x d := fun m => by
  obtain ⟨o, z⟩ := h.some_ m
  rw [e] at z
  cases z
/-- new since an earlier heap -/
theorem Sys.old (h : Sys K cD cP H1 x d cap L S D) (s : Cs (L.all x d) H H1) {a : Addr} (e : H1 a = none) : H a = none := s.free (fun _ hb => h.some_ hb) e
theorem Nw.trans (s : Cs (L.all x d) H H1) (h : Sys K cD cP H1 x d cap L S D) (a : Nw H1 x d L L') : Nw H x d L L' := fun b hb => (a b hb).imp id fun e => h.old s e
theorem Sys.newO (h : Sys K cD cP H x d cap L S D) {o : Addr} (fo : H o = none) (s : Same H H1) (eo : H1 o = some (.dK [])) :
    Sys K cD cP (upd H1 x (.ins cP L.dx (F8 (.ref d) (.int cap) (.ref L.pA) (.ref L.cA) (.ref o) (.ref L.rA) (.int S.rd) (.int S.wr)))) x d cap { L with oA := o } { S with og := [] } D ∧
    Cs (L.all x d) H (upd H1 x (.ins cP L.dx (F8 (.ref d) (.int cap) (.ref L.pA) (.ref L.cA) (.ref o) (.ref L.rA) (.int S.rd) (.int S.wr)))) ∧ Nw H x d L { L with oA := o } := by
  have h1 := h.sm s
  obtain ⟨⟨a1, a2, a3, a4, a5, a6, a7, a8⟩, _⟩ := h.nes
  have t : Cs [x] H1 (upd H1 x (.ins cP L.dx (F8 (.ref d) (.int cap) (.ref L.pA) (.ref L.cA) (.ref o) (.ref L.rA) (.int S.rd) (.int S.wr)))) := (Cs.refl _ _).wr mem1 h1.hx trivial
  have n : ∀ {b}, x ≠ b → b ∉ [x] := fun h z => h (List.mem_singleton.mp z).symm
  have xo : x ≠ o := fun z => by rw [← z, h.hx] at fo; cases fo
  refine ⟨⟨upd_same, t.ch.lst h1.hr (n a4), t.ch.dk h1.pg (n a1), t.ch.dk h1.ch (n a2), t.ch.dk eo (n xo), h1.dk.ch t.ch (n a5) (n a6) (n a7) (n a8), nd_o h.nd (h.nin fo)⟩, (Cs.of s).trans (h1.csX), fun a m => ?_⟩
  have m : a ∈ [x, L.pA, L.cA, o, L.rA, d, L.bA, L.qA, L.wA] := m
  unfold Ad.all
  simp only [List.mem_cons, List.not_mem_nil, or_false] at m ⊢
  rcases m with z | z | z | z | z | z | z | z | z
  · exact .inl (.inl z)
  · exact .inl (.inr (.inl z))
  · exact .inl (.inr (.inr (.inl z)))
  · exact .inr (z ▸ fo)
  · exact .inl (.inr (.inr (.inr (.inr (.inl z)))))
  · exact .inl (.inr (.inr (.inr (.inr (.inr (.inl z))))))
  · exact .inl (.inr (.inr (.inr (.inr (.inr (.inr (.inl z)))))))
  · exact .inl (.inr (.inr (.inr (.inr (.inr (.inr (.inr (.inl z))))))))
  · exact .inl (.inr (.inr (.inr (.inr (.inr (.inr (.inr (.inr z))))))))
theorem Sys.newR (h : Sys K cD cP H x d cap L S D) {o : Addr} (fo : H o = none) (s : Same H H1) (eo : H1 o = some (.lst [])) :
    Sys K cD cP (upd H1 x (.ins cP L.dx (F8 (.ref d) (.int cap) (.ref L.pA) (.ref L.cA) (.ref L.oA) (.ref o) (.int S.rd) (.int S.wr)))) x d cap { L with rA := o } S D ∧
    Cs (L.all x d) H (upd H1 x (.ins cP L.dx (F8 (.ref d) (.int cap) (.ref L.pA) (.ref L.cA) (.ref L.oA) (.ref o) (.int S.rd) (.int S.wr)))) ∧ Nw H x d L { L with rA := o } := by
  have h1 := h.sm s
  obtain ⟨⟨a1, a2, a3, a4, a5, a6, a7, a8⟩, _⟩ := h.nes
  have t : Cs [x] H1 (upd H1 x (.ins cP L.dx (F8 (.ref d) (.int cap) (.ref L.pA) (.ref L.cA) (.ref L.oA) (.ref o) (.int S.rd) (.int S.wr)))) := (Cs.refl _ _).wr mem1 h1.hx trivial
  have n : ∀ {b}, x ≠ b → b ∉ [x] := fun h z => h (List.mem_singleton.mp z).symm
  have xo : x ≠ o := fun z => by rw [← z, h.hx] at fo; cases fo
  refine ⟨⟨upd_same, t.ch.lst eo (n xo), t.ch.dk h1.pg (n a1), t.ch.dk h1.ch (n a2), t.ch.dk h1.og (n a3), h1.dk.ch t.ch (n a5) (n a6) (n a7) (n a8), nd_r h.nd (h.nin fo)⟩, (Cs.of s).trans (h1.csX), fun a m => ?_⟩
  have m : a ∈ [x, L.pA, L.cA, L.oA, o, d, L.bA, L.qA, L.wA] := m
  unfold Ad.all
  simp only [List.mem_cons, List.not_mem_nil, or_false] at m ⊢
  rcases m with z | z | z | z | z | z | z | z | z
  · exact .inl (.inl z)
  · exact .inl (.inr (.inl z))
  · exact .inl (.inr (.inr (.inl z)))
  · exact .inl (.inr (.inr (.inr (.inl z))))
  · exact .inr (z ▸ fo)
  · exact .inl (.inr (.inr (.inr (.inr (.inr (.inl z))))))
  · exact .inl (.inr (.inr (.inr (.inr (.inr (.inr (.inl z)))))))
  · exact .inl (.inr (.inr (.inr (.inr (.inr (.inr (.inr (.inl z))))))))
  · exact .inl (.inr (.inr (.inr (.inr (.inr (.inr (.inr (.inr z))))))))
theorem Sys.newQ (h : Sys K cD cP H x d cap L S D) {q w : Addr} {D' : DS} (fq : H q = none) (fw : H w = none) (ne : q ≠ w) (s : Cs [d, L.bA] H H1) (dk : DskO K cD H1 d L.bA q w D') :
    Sys K cD cP H1 x d cap { L with qA := q, wA := w } S D' ∧ Cs (L.all x d) H H1 ∧ Nw H x d L { L with qA := q, wA := w } := by
  obtain ⟨⟨a1, a2, a3, a4, a5, a6, a7, a8⟩, ⟨b1, b2, b3, b4, b5, b6, b7⟩, ⟨c1, c2, c3, c4, c5, c6⟩, ⟨d1, d2, d3, d4, d5⟩, e3, e4, e5, e6⟩ := h.nes
  have n : ∀ {b}, b ≠ d → b ≠ L.bA → b ∉ [d, L.bA] := fun h1 h2 z => by
    simp only [List.mem_cons, List.not_mem_nil, or_false] at z
    exact z.elim h1 h2
  refine ⟨⟨s.ch.ins h.hx (n a5 a6), s.ch.lst h.hr (n e3 e4), s.ch.dk h.pg (n b4 b5), s.ch.dk h.ch (n c3 c4), s.ch.dk h.og (n d2 d3), dk, nd_qw h.nd (h.nin fq) (h.nin fw) ne⟩, s.le fun b hb => ?_, fun a m => ?_⟩
  · obtain ⟨m1, m2, m3, m4, m5, m6, m7, m8, m9⟩ := Ad.mem (L := L) (x := x) (d := d)
    simp only [List.mem_cons, List.not_mem_nil, or_false] at hb
    rcases hb with z | z <;> rw [z] <;> assumption
  · have m : a ∈ [x, L.pA, L.cA, L.oA, L.rA, d, L.bA, q, w] := m
    unfold Ad.all
    simp only [List.mem_cons, List.not_mem_nil, or_false] at m ⊢
    rcases m with z | z | z | z | z | z | z | z | z
    · exact .inl (.inl z)
    · exact .inl (.inr (.inl z))
    · exact .inl (.inr (.inr (.inl z)))
    · exact .inl (.inr (.inr (.inr (.inl z))))
    · exact .inl (.inr (.inr (.inr (.inr (.inl z)))))
    · exact .inl (.inr (.inr (.inr (.inr (.inr (.inl z))))))
    · exact .inl (.inr (.inr (.inr (.inr (.inr (.inr (.inl z)))))))
    · exact .inr (z ▸ fq)
    · exact .inr (z ▸ fw)
end
/-! ### groups end -/
section
variable {K : PySem.W.Frag} {cPg cD cP : Addr} {H H' : Hp} {S : PS} {D : DS} {now kept : Cont}
theorem PI.close (h : PI K cPg H S D now kept) : PI K cPg H { S with og := [] } D now now where
  kp := h.kp
  kc := h.kc
  ko := fun p hp => absurd hp List.not_mem_nil
  np := h.np
  nc := h.nc
  no := List.nodup_nil
  pg := h.pg
  dk n c e z := by
    refine h.dk n c e ?_
    rcases z with z | ⟨_, z⟩
    · exact .inl z
    · cases y : valV S.og (.inl n) with
      | none => exact .inr ⟨rfl, z⟩
      | some v =>
        obtain ⟨_, g, _⟩ := h.og n v y
        rw [show valV S.ch (.inl n) = none from z] at g
        cases g
  og n v e := by
    have e : valV ([] : List (Key × V)) (.inl n) = some v := e
    rw [valV_nil] at e
    cases e
  ch := h.ch
  eq _ _ := rfl
  ok := h.ok
  ok2 := h.ok
  wp := h.wp
  al := h.al
  cn := h.cn
theorem PI.leave (h : PI K cPg H S D now kept) {n : Nat} {t : Addr} {bf : Option Addr} {was : Bool} (hn : n < 5) (e0 : valV S.og (.inl (n : Int)) = some (.ref t))
    (h5 : ∀ p, bf = some p → ∃ c, kept n = some c ∧ PgC K cPg H p c) (h6 : bf = none → was = false) (h7 : bf = none ∨ was = false → ∀ c, kept n = some c → OnD K H D n c) : PI K cPg H (S.leave n bf was) D (now.set n (kept n)) kept := by
  have pgs : ∀ m, m ≠ (n : Int) → valV (S.leave n bf was).pg (.inl m) = valV S.pg (.inl m) := fun m z => by
    cases bf with
    | none => exact drop_ne (inl_ne z)
    | some p => exact put_ne (inl_ne z)
  have pgn : valV (S.leave n bf was).pg (.inl (n : Int)) = bf.map V.ref := by
    cases bf with
    | none => exact drop_same
    | some p => exact put_same
  have chs : ∀ m, m ≠ (n : Int) → valV (S.leave n bf was).ch (.inl m) = valV S.ch (.inl m) := fun m z => by
    show valV (if was = true then S.ch else dropK S.ch (.inl (n : Int))) (.inl m) = _
    split
    · rfl
    · exact drop_ne (inl_ne z)
  have chn : was = false → valV (S.leave n bf was).ch (.inl (n : Int)) = none := fun z => by
    show valV (if was = true then S.ch else dropK S.ch (.inl (n : Int))) (.inl (n : Int)) = _
    rw [z, if_neg Bool.false_ne_true]
    exact drop_same
  have ogs : ∀ m, m ≠ (n : Int) → valV (S.leave n bf was).og (.inl m) = valV S.og (.inl m) := fun m z => drop_ne (inl_ne z)
  have ogn : valV (S.leave n bf was).og (.inl (n : Int)) = none := drop_same
  obtain ⟨g1, g2, _⟩ := h.og _ _ e0
  exact {
    kp := by
      cases bf with
      | none => exact h.kp.drop
      | some p => exact h.kp.put hn
    kc := by
      show K5 (if was = true then S.ch else dropK S.ch (.inl (n : Int)))
      split
      · exact h.kc
      · exact h.kc.drop
    ko := h.ko.drop
    np := by
      cases bf with
      | none => exact nd_dropK h.np
      | some p => exact nodup_put h.np
    nc := by
      show ((if was = true then S.ch else dropK S.ch (.inl (n : Int))).map (·.1)).Nodup
      split
      · exact h.nc
      · exact nd_dropK h.nc
    no := nd_dropK h.no
    pg := fun m u e => by
      by_cases z : m = (n : Int)
      · subst z
        rw [pgn] at e
        cases bf with
        | none => cases e
        | some p =>
          cases e
          obtain ⟨c, h1, h2⟩ := h5 p rfl
          exact ⟨c, by rw [set_same]; exact h1, p, rfl, h2⟩
      · rw [pgs m z] at e
        rw [set_ne z]
        exact h.pg m u e
    dk := fun m c e y => by
      by_cases z : m = (n : Int)
      · subst z
        rw [set_same] at e
        refine h7 ?_ c e
        rw [pgn] at y
        rcases y with y | ⟨_, y⟩
        · cases bf with
          | none => exact .inl rfl
          | some p => cases y
        · cases was with
          | false => exact .inr rfl
          | true =>
            have : valV S.ch (.inl (n : Int)) = none := y
            rw [this] at g2
            cases g2
      · rw [set_ne z] at e
        rw [pgs m z, chs m z, ogs m z] at y
        exact h.dk m c e y
    og := fun m u e => by
      by_cases z : m = (n : Int)
      · subst z
        rw [ogn] at e
        cases e
      · rw [ogs m z] at e
        rw [pgs m z, chs m z]
        exact h.og m u e
    ch := fun m e => by
      by_cases z : m = (n : Int)
      · subst z
        rw [pgn]
        cases bf with
        | some p => rfl
        | none =>
          rw [chn (h6 rfl)] at e
          cases e
      · rw [chs m z] at e
        rw [pgs m z]
        exact h.ch m e
    eq := fun m e => by
      by_cases z : m = (n : Int)
      · rw [z, set_same]
      · rw [ogs m z] at e
        rw [set_ne z]
        exact h.eq m e
    ok := fun m c e => by
      by_cases z : m = (n : Int)
      · rw [z, set_same] at e
        exact h.ok2 _ c e
      · rw [set_ne z] at e
        exact h.ok m c e
    ok2 := h.ok2
    wp := h.wp
    al := h.al
    cn := h.cn }
theorem rd_sync (h : D.wr = putW D.ws []) (n : Int) : rdV D.sync n = rdV D n := by
  unfold rdV
  show (valV [] _).or (valV (putW D.ws D.bs) _) = _
  rw [valV_nil, val_putW _ D.ws D.bs, h]
  rfl
theorem PI.sync (h : PI K cPg H S D now kept) : PI K cPg H S D.sync now kept where
  kp := h.kp
  kc := h.kc
  ko := h.ko
  np := h.np
  nc := h.nc
  no := h.no
  pg := h.pg
  dk n c e z := by
    obtain ⟨a, h1, h2⟩ := h.dk n c e z
    exact ⟨a, by rw [rd_sync h.wp]; exact h1, h2⟩
  og n v e := by
    obtain ⟨h1, h2, t, bf, was, h3, h4, h5, h6, h7⟩ := h.og n v e
    refine ⟨h1, h2, t, bf, was, h3, h4, h5, h6, fun z c hc => ?_⟩
    obtain ⟨a, g1, g2⟩ := h7 z c hc
    exact ⟨a, by rw [rd_sync h.wp]; exact g1, g2⟩
  ch := h.ch
  eq := h.eq
  ok := h.ok
  ok2 := h.ok2
  wp := rfl
  al := step_al h.al
  cn := by
    have := h.cn
    have h2 := len_putW D.ws D.bs
    show (((putW D.ws D.bs).length + 0 : Nat) : Int) ≤ S.wr
    omega
end
end K11
end

section
-- part K11V
set_option Elab.async false
set_option linter.all false
set_option maxRecDepth 100000
set_option maxHeartbeats 800000
open PySem PySem.Spec PyProof.Rows L2 Fw
local macro_rules | `(tactic| walk_at "e1") => `(tactic| first
  | ((with_reducible refine' w_var ?hv ?_); (case hv => rfl))
  | with_reducible refine w_c ?_
  | with_reducible refine w_op ?_
  | with_reducible refine w_un ?_
  | with_reducible refine w_cons ?_
  | with_reducible refine w_nil ?_
  | with_reducible refine w_cl ?_
  | with_reducible refine w_cb ?_
  | with_reducible refine w_gname ?_
  | with_reducible refine w_gsub ?_
  | with_reducible refine w_test ?_
  | with_reducible refine w_B ?_
  | with_reducible refine w_bl ?_
  | with_reducible refine w_and ?_
  | with_reducible refine w_or ?_
  | with_reducible refine w_not ?_
  | with_reducible refine w_if ?_
  | with_reducible refine w_I0 ?_
  | with_reducible refine Gk.w_rU ?_
  | with_reducible refine Dq.w_orV ?_
  | with_reducible refine Dq.w_js ?_
  | with_reducible refine Dq.w_js0 ?_
  | with_reducible refine Dq.w_fm ?_
  | with_reducible refine Dq.w_andV ?_
  | with_reducible refine Gk.w_iEnum ?_
  | with_reducible refine Dq.w_dget ?_
  | with_reducible refine Dq.w_dpop1 ?_
  | with_reducible refine Dq.w_ddel ?_
  | with_reducible refine Dq.w_din ?_
  | with_reducible refine Dq.w_dnotin ?_
  | with_reducible refine Dq.w_dget2 ?_
  | with_reducible refine Dq.w_dnew ?_
  | with_reducible refine Dq.w_fldaug ?_
  | with_reducible refine Dq.w_aSub ?_
  | with_reducible refine Dq.w_aAdd ?_
  | with_reducible refine Dq.w_mkd ?_
  | with_reducible refine Dq.w_notN0 ?_
  | with_reducible refine Dq.w_isN0 ?_
  | with_reducible refine Dq.w_notNR ?_
  | with_reducible refine Dq.w_isNR ?_
  | with_reducible refine Dq.w_notNI ?_
  | with_reducible refine Dq.w_isNI ?_
  | with_reducible refine L2.w_neOs ?_
  | with_reducible refine w_ipI ?_
  | with_reducible refine w_eqS ?_
  | with_reducible refine w_neS ?_
  | with_reducible refine w_eqI ?_
  | with_reducible refine w_neI ?_
  | with_reducible refine w_eqB ?_
  | with_reducible refine w_neB ?_
  | ((with_reducible refine w_eq ?hs ?_); (case hs => rfl))
  | ((with_reducible refine w_ne ?hs ?_); (case hs => rfl))
  | with_reducible refine w_fld ?_
  | with_reducible refine w_bm ?_
  | with_reducible refine w_bm0 ?_
  | with_reducible refine w_sl ?_
  | with_reducible refine w_part ?_
  | with_reducible refine w_partI ?_
  | with_reducible refine w_nopart ?_
  | ((with_reducible refine' w_ixL ?hh ?ha ?_); (case hh => first | assumption | exact upd_same); (case ha => rfl))
  | ((with_reducible refine' w_setLu ?ha ?_); (case ha => rfl))
  | ((with_reducible refine' w_setL ?hh ?ha ?_); (case hh => first | assumption | exact upd_same); (case ha => rfl))
  | with_reducible refine w_iteT ?_
  | with_reducible refine w_iteF ?_
  | with_reducible refine w_lst ?_
  | with_reducible refine w_tup ?_
  | ((with_reducible refine w_new ?hz ?_); (case hz => rfl))
  | with_reducible refine w_lc ?_
  | with_reducible refine w_iL ?_
  | with_reducible refine w_iT ?_
  | with_reducible refine w_iR1 ?_
  | with_reducible refine w_iR2 ?_
  | with_reducible refine w_yes ?_
  | with_reducible refine w_iStr ?_
  | with_reducible exact tyS
  | with_reducible refine And.intro tyS ?_
  | ((with_reducible refine w_find3 ?_); (first | rw [find3_one] | rw [starts3] | skip))
  | ((with_reducible refine w_2s ?_); (try rw [find_one]))
  | ((with_reducible refine w_inS ?_); rw [S_list])
  | ((with_reducible refine w_lenS ?hz ?_); (case hz => first | assumption | omega | decide); rw [SX.S_len])
  | ((with_reducible refine w_addS ?hz ?_); (case hz => first | assumption | omega | decide); rw [vS_cat])
  | with_reducible refine w_mk ?_
  | with_reducible refine w_me ?_
  | with_reducible refine w_sfld ?_
  | ((with_reducible refine' w_gtup ?hh ?hn ?_); (case hh => first | assumption | exact upd_same); (case hn => rfl))
  | with_reducible refine w_gcons ?_
  | with_reducible refine w_gnil ?_
  | with_reducible refine w_repl ?_
  | with_reducible refine w_star ?_
  | with_reducible refine w_revL ?_
  | with_reducible refine w_isiS ?_
  | with_reducible refine w_isiI ?_
  | with_reducible refine w_isiN ?_
  | with_reducible refine w_chain ?_
  | with_reducible refine w_iEnumT ?_
  | with_reducible refine w_iZip3 ?_
  | with_reducible refine w_iZip ?_
  | with_reducible refine w_lenR3 ?_
  | with_reducible refine w_x1i ?_
  | with_reducible refine w_x1b ?_
  | with_reducible refine w_x1s ?_
  | with_reducible refine w_int1i ?_
  | with_reducible refine w_int1b ?_
  | ((with_reducible refine w_mod ?hc ?_); (case hc => omega))
  | ((with_reducible refine w_fdivW ?hc ?hd ?_); (case hc => omega); (case hd => omega))
  | ((with_reducible refine w_mul ?hc ?_); (case hc => first | exact Or.inr ⟨by decide, by decide⟩ | exact Or.inl ⟨by decide, by decide⟩))
  | ((with_reducible refine w_pow ?hc ?_); (case hc => exact ⟨by decide, by decide, by decide⟩)))
local macro_rules | `(tactic| walk_at "f1") => `(tactic| first
  | ((with_reducible refine' K11.g_disk ?hW ?hK ?hs ?hx ?_); (case hW => assumption); (case hK => rfl); (case hs => rfl); (case hx => first | assumption | exact upd_same))
  | ((with_reducible refine' K11.g_capacity ?hW ?hK ?hs ?hx ?_); (case hW => assumption); (case hK => rfl); (case hs => rfl); (case hx => first | assumption | exact upd_same))
  | ((with_reducible refine' K11.g_pages ?hW ?hK ?hs ?hx ?_); (case hW => assumption); (case hK => rfl); (case hs => rfl); (case hx => first | assumption | exact upd_same))
  | ((with_reducible refine' K11.g_changed ?hW ?hK ?hs ?hx ?_); (case hW => assumption); (case hK => rfl); (case hs => rfl); (case hx => first | assumption | exact upd_same))
  | ((with_reducible refine' K11.g_open_group ?hW ?hK ?hs ?hx ?_); (case hW => assumption); (case hK => rfl); (case hs => rfl); (case hx => first | assumption | exact upd_same))
  | ((with_reducible refine' K11.g_parts ?hW ?hK ?hs ?hx ?_); (case hW => assumption); (case hK => rfl); (case hs => rfl); (case hx => first | assumption | exact upd_same))
  | ((with_reducible refine' K11.g_reads ?hW ?hK ?hs ?hx ?_); (case hW => assumption); (case hK => rfl); (case hs => rfl); (case hx => first | assumption | exact upd_same))
  | ((with_reducible refine' K11.g_writes ?hW ?hK ?hs ?hx ?_); (case hW => assumption); (case hK => rfl); (case hs => rfl); (case hx => first | assumption | exact upd_same))
  | ((with_reducible refine' K11.g_block_size ?hW ?hK ?hs ?hx ?_); (case hW => assumption); (case hK => rfl); (case hs => rfl); (case hx => first | assumption | exact upd_same))
  | ((with_reducible refine' K11.g_blocks ?hW ?hK ?hs ?hx ?_); (case hW => assumption); (case hK => rfl); (case hs => rfl); (case hx => first | assumption | exact upd_same))
  | ((with_reducible refine' K11.g_log ?hW ?hK ?hs ?hx ?_); (case hW => assumption); (case hK => rfl); (case hs => rfl); (case hx => first | assumption | exact upd_same))
  | ((with_reducible refine' K11.g_waiting ?hW ?hK ?hs ?hx ?_); (case hW => assumption); (case hK => rfl); (case hs => rfl); (case hx => first | assumption | exact upd_same))
  | ((with_reducible refine' K11.g_written ?hW ?hK ?hs ?hx ?_); (case hW => assumption); (case hK => rfl); (case hs => rfl); (case hx => first | assumption | exact upd_same))
  | ((with_reducible refine' K11.g_log_tail ?hW ?hK ?hs ?hx ?_); (case hW => assumption); (case hK => rfl); (case hs => rfl); (case hx => first | assumption | exact upd_same))
  | ((with_reducible refine' K11.g_fuse ?hW ?hK ?hs ?hx ?_); (case hW => assumption); (case hK => rfl); (case hs => rfl); (case hx => first | assumption | exact upd_same))
  | ((with_reducible refine' K11.g_dead ?hW ?hK ?hs ?hx ?_); (case hW => assumption); (case hK => rfl); (case hs => rfl); (case hx => first | assumption | exact upd_same))
  | ((with_reducible refine' K11.g_steps ?hW ?hK ?hs ?hx ?_); (case hW => assumption); (case hK => rfl); (case hs => rfl); (case hx => first | assumption | exact upd_same))
  | walk_at "e1")
local macro_rules | `(tactic| walk_at "s1") => `(tactic| first
  | with_reducible refine w_seq ?_
  | with_reducible refine w_asg ?_
  | with_reducible refine w_ret ?_
  | with_reducible refine w_par ?_
  | with_reducible refine w_drop ?_
  | with_reducible refine w_next ?_
  | with_reducible refine w_ifs ?_
  | ((with_reducible refine' w_aug ?hv ?_); (case hv => rfl))
  | with_reducible refine w_for ?_
  | walk_at "f1")
local macro_rules | `(tactic| walk_at "e") => `(tactic| repeat walk_at "e1")
local macro_rules | `(tactic| walk_at "g") => `(tactic| repeat walk_at "s1")

namespace K11
open Dc Gk M5 M10 M8 M11 LamX
theorem Cs.nw {H H1 H2 : Hp} {x d : Addr} {L L1 : Ad} (t1 : Cs (L.all x d) H H1) (n1 : Nw H x d L L1) (t2 : Cs (L1.all x d) H1 H2) : Cs (L.all x d) H H2 := fun b o e n =>
  t2 b o (t1 b o e n) (n.imp (fun n z => (n1 b z).elim n fun w => by rw [e] at w; cases w) id)
theorem Nw.tr {H H1 : Hp} {x d : Addr} {L L1 L2 : Ad} (t1 : Cs (L.all x d) H H1) (n1 : Nw H x d L L1) (n2 : Nw H1 x d L1 L2) : Nw H x d L L2 := fun a m => by
  rcases n2 a m with z | z
  · exact n1 a z
  · by_cases y : a ∈ L.all x d
    · exact .inl y
    · cases e : H a with
      | none => exact .inr rfl
      | some o =>
        rw [t1 a o e (.inl y)] at z
        cases z
section
variable {P : Program} {w : World} {K : PySem.W.Frag} {mg : Str → Option Value} {base : Heap} {cPF cPg cDF cD aE cP : Addr}
def spClose (K : PySem.W.Frag) (cPg cD cP : Addr) : Sp := fun vs H Q _ => ∃ (x d : Addr) (cap : Int) (L : Ad) (S : PS) (D : DS) (now kept : Cont), vs = [.ref x] ∧ Sys K cD cP H x d cap L S D ∧ PI K cPg H S D now kept ∧ 1 ≤ cap ∧ S.wr ≤ 900 ∧
  ∀ H' L' S' D', Cs (L.all x d) H H' → Nw H x d L L' → Sys K cD cP H' x d cap L' S' D' → PI K cPg H' S' D' now now → S'.rd = S.rd → S.wr ≤ S'.wr → S'.wr ≤ S.wr + 5 → S'.og = [] → SzI cap S' → Q .non H'
theorem ok_close_group (W : Wp K mg cPF cPg cDF cD aE cP) (c_Pool_make_room : Me P w K mg base 5 cP "make_room" (spRoom K cPg cD cP)) : Me P w K mg base 6 cP "close_group" (spClose K cPg cD cP) := by
  refine me_mk W.q_close_group W.q_cl sc_Pool_close_group (fun _ _ _ _ _ _ us hl => match us, hl with | [_], _ => rfl) (fun vs H Q E h => ?_) (fun f cdv A outer s H vs Q E hr h => ?_)
  · obtain ⟨x, d, cap, L, S, D, now, kept, rfl, _⟩ := h; rfl
  obtain ⟨x, d, cap, L, S, D, now, kept, rfl, sy, pi, hcap, hw, q⟩ := h
  have hx := sy.hx
  refine ⟨_, (pss_cons (ps_fld (pv 0) pe_dnewK rfl)
    (pss_cons (ps_fld (pv 0) (pe_lst pa_nil) rfl)
    (pss_one (ps_expr (pe_me c_Pool_make_room hr (by decide) passD (pv 0) (pa_cons (pe_fld (pv 0) rfl) pa_nil)))))), ?_⟩
  walk_at "g"
  intro o ho
  have s1 := same_new ho (.dK [])
  have e1 : upd H o (.dK []) o = some (.dK []) := upd_same
  generalize upd H o (.dK []) = H1 at s1 e1
  have hx1 := s1 _ _ hx
  walk_at "g"
  refine ⟨_, _, _, _, rfl, hx1, W.q_cl, W.q_open_group, by show 8 < 1000; decide, ?_⟩
  rw [put_open_group]
  obtain ⟨sy2, t2, n2⟩ := sy.newO ho s1 e1
  generalize upd H1 x (.ins cP L.dx (F8 (.ref d) (.int cap) (.ref L.pA) (.ref L.cA) (.ref o) (.ref L.rA) (.int S.rd) (.int S.wr))) = H2 at sy2 t2
  have pi2 := (pi.kps (Kps.of sy t2.ch)).close
  generalize ({ L with oA := o } : Ad) = L2 at sy2 n2
  have hx2 := sy2.hx
  walk_at "g"
  intro r hr0
  have s3 := same_new hr0 (.lst [])
  have e3 : upd H2 r (.lst []) r = some (.lst []) := upd_same
  generalize upd H2 r (.lst []) = H3 at s3 e3
  have hx3 := s3 _ _ hx2
  walk_at "g"
  refine ⟨_, _, _, _, rfl, hx3, W.q_cl, W.q_parts, by show 8 < 1000; decide, ?_⟩
  rw [put_parts]
  obtain ⟨sy4, t4, n4⟩ := sy2.newR hr0 s3 e3
  generalize upd H3 x (.ins cP L2.dx (F8 (.ref d) (.int cap) (.ref L2.pA) (.ref L2.cA) (.ref L2.oA) (.ref r) (.int S.rd) (.int S.wr))) = H4 at sy4 t4
  generalize ({ L2 with rA := r } : Ad) = L4 at sy4 n4
  have pi4 := pi2.kps (Kps.of sy2 t4.ch)
  replace n4 := Nw.tr t2 n2 n4
  replace t4 := Cs.nw t2 n2 t4
  have hx4 := sy4.hx
  walk_at "g"
  refine ⟨x, L4.dx, _, rfl, hx4, mp_none (by decide +kernel), ?_⟩
  walk_at "g"
  refine ⟨x, d, cap, cap, L4, _, D, now, now, rfl, sy4, pi4, by omega, hw, fun H5 S5 D5 s5 sy5 pi5 rm hz => ?_⟩
  have tr := rm.tr (pi4.kp.len pi4.np)
  refine q H5 L4 S5 D5 (Cs.nw t4 n4 s5) n4 sy5 pi5 rm.rd tr.w0 tr.w1 rm.og ?_
  unfold SzI
  rw [rm.og]
  have hz : (S5.pg.length : Int) ≤ max cap (([] : List (Key × V)).length : Nat) := hz
  simp only [List.length_nil] at hz ⊢
  omega
def spDrop (K : PySem.W.Frag) (cPg cD cP : Addr) : Sp := fun vs H Q _ => ∃ (x d : Addr) (cap : Int) (L : Ad) (S : PS) (D : DS) (now kept : Cont), vs = [.ref x] ∧ Sys K cD cP H x d cap L S D ∧ PI K cPg H S D now kept ∧ 1 ≤ cap ∧ S.wr ≤ 900 ∧
  ∀ H' L' S' D', Cs (L.all x d) H H' → Nw H x d L L' → Sys K cD cP H' x d cap L' S' D' → PI K cPg H' S' D' kept kept → S'.rd = S.rd → S.wr ≤ S'.wr → S'.wr ≤ S.wr + 5 → S'.og = [] → SzI cap S' → Q .non H'
theorem Sys.three {x d : Addr} {cap : Int} {L : Ad} {S S' : PS} {D : DS} {H H' : Hp} (h : Sys K cD cP H x d cap L S D) (s : Cs [L.pA, L.cA, L.oA] H H') (po : PoolO K cP H' x d cap L.pA L.cA L.oA S') (r1 : S'.rd = S.rd) (r2 : S'.wr = S.wr) : Sys K cD cP H' x d cap L S' D ∧ Cs (L.all x d) H H' := by
  obtain ⟨⟨a1, a2, a3, a4, a5, a6, a7, a8⟩, ⟨b1, b2, b3, b4, b5, b6, b7⟩, ⟨c1, c2, c3, c4, c5, c6⟩, ⟨d1, d2, d3, d4, d5⟩, e3, e4, e5, e6⟩ := h.nes
  have n : ∀ {b}, L.pA ≠ b → L.cA ≠ b → L.oA ≠ b → b ∉ [L.pA, L.cA, L.oA] := fun h1 h2 h3 z => by
    simp only [List.mem_cons, List.not_mem_nil, or_false] at z
    rcases z with z | z | z
    · exact h1 z.symm
    · exact h2 z.symm
    · exact h3 z.symm
  refine ⟨⟨by rw [r1, r2]; exact s.ch.ins h.hx (n a1.symm a2.symm a3.symm), s.ch.lst h.hr (n b3 c2 d1), po.pg, po.ch, po.og, h.dk.ch s.ch (n b4 c3 d2) (n b5 c4 d3) (n b6 c5 d4) (n b7 c6 d5), h.nd⟩, s.le fun b hb => ?_⟩
  obtain ⟨m1, m2, m3, m4, m5, m6, m7, m8, m9⟩ := Ad.mem (L := L) (x := x) (d := d)
  simp only [List.mem_cons, List.not_mem_nil, or_false] at hb
  rcases hb with z | z | z <;> rw [z] <;> assumption
theorem drop_at {ys : List Int} {i : Nat} {a : Int} (h : ys[i]? = some a) (nd : ys.Nodup) (m : Int) : m ∈ ys.drop (i + 1) ↔ m ∈ ys.drop i ∧ m ≠ a := by
  obtain ⟨hl, e⟩ := List.getElem?_eq_some_iff.mp h
  have d := List.drop_eq_getElem_cons hl
  have nd2 : (ys.drop i).Nodup := nd.sublist (List.drop_sublist _ _)
  rw [d, e] at nd2
  rw [d, e]
  obtain ⟨n1, _⟩ := List.nodup_cons.mp nd2
  constructor
  · exact fun z => ⟨List.mem_cons_of_mem _ z, fun y => n1 (y ▸ z)⟩
  · rintro ⟨z, y⟩
    exact (List.mem_cons.mp z).resolve_left y
theorem val_empty {kvs : List (Key × V)} (h5 : K5 kvs) (h : ∀ n : Int, (valV kvs (.inl n)).isSome = true → False) : kvs = [] := by
  cases kvs with
  | nil => rfl
  | cons p r =>
    obtain ⟨n, e, _⟩ := h5 p List.mem_cons_self
    exact (h n (by rw [valV_pos e]; rfl)).elim
theorem ok_drop_group (W : Wp K mg cPF cPg cDF cD aE cP) (c_Pool_leave_group : Me P w K mg base 1 cP "leave_group" (spLeave K cP)) (c_Pool_make_room : Me P w K mg base 5 cP "make_room" (spRoom K cPg cD cP)) : Me P w K mg base 6 cP "drop_group" (spDrop K cPg cD cP) := by
  refine me_mk W.q_drop_group W.q_cl sc_Pool_drop_group (fun _ _ _ _ _ _ us hl => match us, hl with | [_], _ => rfl) (fun vs H Q E h => ?_) (fun f cdv A outer s H vs Q E hr h => ?_)
  · obtain ⟨x, d, cap, L, S, D, now, kept, rfl, _⟩ := h; rfl
  obtain ⟨x, d, cap, L, S, D, now, kept, rfl, sy, pi, hcap, hw, q⟩ := h
  have hx := sy.hx
  obtain ⟨ks, hks⟩ := pi.ko.ks
  have lo := pi.ko.len pi.no
  have lk : ks.length = S.og.length := by rw [← List.length_map (f := Sum.inl (β := Str)), ← hks, List.length_map]
  refine ⟨_, (pss_cons (ps_for (passes_of rfl) rfl (pi_list (pe_callB (call_sortedDI rfl) rfl W.n_sorted (by decide +kernel) (pa_cons (pe_fld (pv 0) rfl) pa_nil))) (pg_name (i := 1) sc_Pool_drop_group.nd rfl (Or.inl rfl))
    (pss_one (ps_expr (pe_me c_Pool_leave_group hr (by decide) passL (pv 0) (pa_cons (pv 1) pa_nil)))))
    (pss_cons (ps_fld (pv 0) (pe_lst pa_nil) rfl)
    (pss_one (ps_expr (pe_me c_Pool_make_room hr (by decide) passD (pv 0) (pa_cons (pe_fld (pv 0) rfl) pa_nil)))))), ?_⟩
  walk_at "g"
  refine ⟨L.oA, S.og, ks, rfl, .inl sy.og, hks, by omega, fun ys p hpm _ hp => ?_⟩
  have hys : ys.Nodup := (hpm.nodup_iff).mpr (nd_ks hks pi.no)
  have hmem : ∀ n : Int, n ∈ ys ↔ (valV S.og (.inl n)).isSome = true := fun n => hpm.mem_iff.trans (mem_ks hks n)
  have s1 := same_new hp (.lst (ys.map V.int))
  have e1 : upd H p (.lst (ys.map V.int)) p = some (.lst (ys.map V.int)) := upd_same
  generalize upd H p (.lst (ys.map V.int)) = H1 at s1 e1
  have sy1 := sy.sm s1
  have pi1 := pi.kps (Kps.of sy (Ch.of (M := L.all x d) s1))
  have np : p ∉ L.all x d := sy.nin hp
  refine w_forL (SqL.of e1) (fun i σ H2 => ∃ (v : Option V) (S2 : PS) (now2 : Cont), σ = [some (.ref x), v] ∧ Cs (L.all x d) H1 H2 ∧ Sys K cD cP H2 x d cap L S2 D ∧ PI K cPg H2 S2 D now2 kept ∧ S2.rd = S.rd ∧ S2.wr = S.wr ∧ ∀ n : Int, (valV S2.og (.inl n)).isSome = true ↔ n ∈ ys.drop i)
    ⟨none, S, now, rfl, Cs.refl _ _, sy1, pi1, rfl, rfl, fun n => (hmem n).symm⟩ (fun i σ H2 _ ⟨_, _, _, _, s2, _⟩ => SqL.of (s2.ch.lst e1 np)) ?_ ?_
  · rintro i y σ H2 hi ⟨v, S2, now2, rfl, s2, sy2, pi2, r1, r2, hg⟩
    obtain ⟨n, hn, rfl⟩ := ints_get hi
    have hx2 := sy2.hx
    have hin : (valV S2.og (.inl n)).isSome = true := (hg n).mpr (List.mem_of_getElem? (i := 0) (by rw [List.getElem?_drop]; exact hn))
    obtain ⟨u, hu⟩ := Option.isSome_iff_exists.mp hin
    obtain ⟨n, rfl, hn5⟩ := pi2.ko.at_ hu
    obtain ⟨g1, g2, t, bf, was, rfl, ht, h5, h6, h7⟩ := pi2.og _ _ hu
    walk_at "g"
    refine ⟨x, L.dx, _, rfl, hx2, mp_none (by decide +kernel), ?_⟩
    walk_at "g"
    refine ⟨x, d, cap, L.pA, L.cA, L.oA, S2, n, t, bf, was, rfl, sy2.po, hu, ht, g1, g2, Nat.le_trans (pi2.kp.len pi2.np) (by decide), fun H3 s3 po3 => ?_⟩
    obtain ⟨sy3, t3⟩ := sy2.three s3 po3 rfl rfl
    have pi3 := (pi2.leave hn5 hu h5 h6 h7).kps (Kps.of sy2 t3.ch)
    refine ⟨_, S2.leave n bf was, _, rfl, s2.trans t3, sy3, pi3, r1, r2, fun m => ?_⟩
    rw [drop_at hn hys, ← hg]
    show (valV (dropK S2.og (.inl (n : Int))) (.inl m)).isSome = true ↔ _
    by_cases z : m = (n : Int)
    · rw [z, drop_same]
      exact ⟨fun z => absurd z Bool.false_ne_true, fun z => absurd rfl z.2⟩
    · rw [drop_ne (inl_ne z)]
      exact ⟨fun h => ⟨h, z⟩, fun h => h.1⟩
  · rintro σ H2 ⟨v, S2, now2, rfl, s2, sy2, pi2, r1, r2, hg⟩
    rw [List.length_map, List.drop_length] at hg
    have og0 : S2.og = [] := val_empty pi2.ko fun n h => absurd ((hg n).mp h) List.not_mem_nil
    have hk : now2 = kept := funext fun n => pi2.eq n (by rw [og0]; exact valV_nil)
    subst hk
    have s02 := (Cs.of (M := L.all x d) s1).trans s2
    have hx2 := sy2.hx
    walk_at "g"
    intro r hr0
    have s3 := same_new hr0 (.lst [])
    have e3 : upd H2 r (.lst []) r = some (.lst []) := upd_same
    generalize upd H2 r (.lst []) = H3 at s3 e3
    have hx3 := s3 _ _ hx2
    walk_at "g"
    refine ⟨_, _, _, _, rfl, hx3, W.q_cl, W.q_parts, by show 8 < 1000; decide, ?_⟩
    rw [put_parts]
    obtain ⟨sy4, t4, n4⟩ := sy2.newR hr0 s3 e3
    generalize upd H3 x (.ins cP L.dx (F8 (.ref d) (.int cap) (.ref L.pA) (.ref L.cA) (.ref L.oA) (.ref r) (.int S2.rd) (.int S2.wr))) = H4 at sy4 t4
    generalize ({ L with rA := r } : Ad) = L4 at sy4 n4
    have pi4 := pi2.kps (Kps.of sy2 t4.ch)
    replace n4 := Nw.tr s02 Nw.refl n4
    replace t4 := s02.trans t4
    have hx4 := sy4.hx
    walk_at "g"
    refine ⟨x, L4.dx, _, rfl, hx4, mp_none (by decide +kernel), ?_⟩
    walk_at "g"
    refine ⟨x, d, cap, cap, L4, _, D, now2, now2, rfl, sy4, pi4, by omega, by omega, fun H5 S5 D5 s5 sy5 pi5 rm hz => ?_⟩
    have tr := rm.tr (pi4.kp.len pi4.np)
    have tw0 := tr.w0
    have tw1 := tr.w1
    refine q H5 L4 S5 D5 (Cs.nw t4 n4 s5) n4 sy5 pi5 (rm.rd.trans r1) (by omega) (by omega) (rm.og.trans og0) ?_
    unfold SzI
    rw [rm.og]
    rw [og0] at hz ⊢
    simp only [List.length_nil] at hz ⊢
    omega
end
end K11
end

section
-- part K11W
set_option Elab.async false
set_option linter.all false
set_option maxRecDepth 100000
set_option maxHeartbeats 800000
open PySem PySem.Spec PyProof.Rows L2 Fw
local macro_rules | `(tactic| walk_at "e1") => `(tactic| first
  | ((with_reducible refine' w_var ?hv ?_); (case hv => rfl))
  | with_reducible refine w_c ?_
  | with_reducible refine w_op ?_
  | with_reducible refine w_un ?_
  | with_reducible refine w_cons ?_
  | with_reducible refine w_nil ?_
  | with_reducible refine w_cl ?_
  | with_reducible refine w_cb ?_
  | with_reducible refine w_gname ?_
  | with_reducible refine w_gsub ?_
  | with_reducible refine w_test ?_
  | with_reducible refine w_B ?_
  | with_reducible refine w_bl ?_
  | with_reducible refine w_and ?_
  | with_reducible refine w_or ?_
  | with_reducible refine w_not ?_
  | with_reducible refine w_if ?_
  | with_reducible refine w_I0 ?_
  | with_reducible refine Gk.w_rU ?_
  | with_reducible refine Dq.w_orV ?_
  | with_reducible refine Dq.w_js ?_
  | with_reducible refine Dq.w_js0 ?_
  | with_reducible refine Dq.w_fm ?_
  | with_reducible refine Dq.w_andV ?_
  | with_reducible refine Gk.w_iEnum ?_
  | with_reducible refine Dq.w_dget ?_
  | with_reducible refine Dq.w_dpop1 ?_
  | with_reducible refine Dq.w_ddel ?_
  | with_reducible refine Dq.w_din ?_
  | with_reducible refine Dq.w_dnotin ?_
  | with_reducible refine Dq.w_dget2 ?_
  | with_reducible refine Dq.w_dnew ?_
  | with_reducible refine Dq.w_fldaug ?_
  | with_reducible refine Dq.w_aSub ?_
  | with_reducible refine Dq.w_aAdd ?_
  | with_reducible refine Dq.w_mkd ?_
  | with_reducible refine Dq.w_notN0 ?_
  | with_reducible refine Dq.w_isN0 ?_
  | with_reducible refine Dq.w_notNR ?_
  | with_reducible refine Dq.w_isNR ?_
  | with_reducible refine Dq.w_notNI ?_
  | with_reducible refine Dq.w_isNI ?_
  | with_reducible refine L2.w_neOs ?_
  | with_reducible refine w_ipI ?_
  | with_reducible refine w_eqS ?_
  | with_reducible refine w_neS ?_
  | with_reducible refine w_eqI ?_
  | with_reducible refine w_neI ?_
  | with_reducible refine w_eqB ?_
  | with_reducible refine w_neB ?_
  | ((with_reducible refine w_eq ?hs ?_); (case hs => rfl))
  | ((with_reducible refine w_ne ?hs ?_); (case hs => rfl))
  | with_reducible refine w_fld ?_
  | with_reducible refine w_bm ?_
  | with_reducible refine w_bm0 ?_
  | with_reducible refine w_sl ?_
  | with_reducible refine w_part ?_
  | with_reducible refine w_partI ?_
  | with_reducible refine w_nopart ?_
  | ((with_reducible refine' w_ixL ?hh ?ha ?_); (case hh => first | assumption | exact upd_same); (case ha => rfl))
  | ((with_reducible refine' w_setLu ?ha ?_); (case ha => rfl))
  | ((with_reducible refine' w_setL ?hh ?ha ?_); (case hh => first | assumption | exact upd_same); (case ha => rfl))
  | with_reducible refine w_iteT ?_
  | with_reducible refine w_iteF ?_
  | with_reducible refine w_lst ?_
  | with_reducible refine w_tup ?_
  | ((with_reducible refine w_new ?hz ?_); (case hz => rfl))
  | with_reducible refine w_lc ?_
  | with_reducible refine w_iL ?_
  | with_reducible refine w_iT ?_
  | with_reducible refine w_iR1 ?_
  | with_reducible refine w_iR2 ?_
  | with_reducible refine w_yes ?_
  | with_reducible refine w_iStr ?_
  | with_reducible exact tyS
  | with_reducible refine And.intro tyS ?_
  | ((with_reducible refine w_find3 ?_); (first | rw [find3_one] | rw [starts3] | skip))
  | ((with_reducible refine w_2s ?_); (try rw [find_one]))
  | ((with_reducible refine w_inS ?_); rw [S_list])
  | ((with_reducible refine w_lenS ?hz ?_); (case hz => first | assumption | omega | decide); rw [SX.S_len])
  | ((with_reducible refine w_addS ?hz ?_); (case hz => first | assumption | omega | decide); rw [vS_cat])
  | with_reducible refine w_mk ?_
  | with_reducible refine w_me ?_
  | with_reducible refine w_sfld ?_
  | ((with_reducible refine' w_gtup ?hh ?hn ?_); (case hh => first | assumption | exact upd_same); (case hn => rfl))
  | with_reducible refine w_gcons ?_
  | with_reducible refine w_gnil ?_
  | with_reducible refine w_repl ?_
  | with_reducible refine w_star ?_
  | with_reducible refine w_revL ?_
  | with_reducible refine w_isiS ?_
  | with_reducible refine w_isiI ?_
  | with_reducible refine w_isiN ?_
  | with_reducible refine w_chain ?_
  | with_reducible refine w_iEnumT ?_
  | with_reducible refine w_iZip3 ?_
  | with_reducible refine w_iZip ?_
  | with_reducible refine w_lenR3 ?_
  | with_reducible refine w_x1i ?_
  | with_reducible refine w_x1b ?_
  | with_reducible refine w_x1s ?_
  | with_reducible refine w_int1i ?_
  | with_reducible refine w_int1b ?_
  | ((with_reducible refine w_mod ?hc ?_); (case hc => omega))
  | ((with_reducible refine w_fdivW ?hc ?hd ?_); (case hc => omega); (case hd => omega))
  | ((with_reducible refine w_mul ?hc ?_); (case hc => first | exact Or.inr ⟨by decide, by decide⟩ | exact Or.inl ⟨by decide, by decide⟩))
  | ((with_reducible refine w_pow ?hc ?_); (case hc => exact ⟨by decide, by decide, by decide⟩)))
local macro_rules | `(tactic| walk_at "f1") => `(tactic| first
  | ((with_reducible refine' K11.g_disk ?hW ?hK ?hs ?hx ?_); (case hW => assumption); (case hK => rfl); (case hs => rfl); (case hx => first | assumption | exact upd_same))
  | ((with_reducible refine' K11.g_capacity ?hW ?hK ?hs ?hx ?_); (case hW => assumption); (case hK => rfl); (case hs => rfl); (case hx => first | assumption | exact upd_same))
  | ((with_reducible refine' K11.g_pages ?hW ?hK ?hs ?hx ?_); (case hW => assumption); (case hK => rfl); (case hs => rfl); (case hx => first | assumption | exact upd_same))
  | ((with_reducible refine' K11.g_changed ?hW ?hK ?hs ?hx ?_); (case hW => assumption); (case hK => rfl); (case hs => rfl); (case hx => first | assumption | exact upd_same))
  | ((with_reducible refine' K11.g_open_group ?hW ?hK ?hs ?hx ?_); (case hW => assumption); (case hK => rfl); (case hs => rfl); (case hx => first | assumption | exact upd_same))
  | ((with_reducible refine' K11.g_parts ?hW ?hK ?hs ?hx ?_); (case hW => assumption); (case hK => rfl); (case hs => rfl); (case hx => first | assumption | exact upd_same))
  | ((with_reducible refine' K11.g_reads ?hW ?hK ?hs ?hx ?_); (case hW => assumption); (case hK => rfl); (case hs => rfl); (case hx => first | assumption | exact upd_same))
  | ((with_reducible refine' K11.g_writes ?hW ?hK ?hs ?hx ?_); (case hW => assumption); (case hK => rfl); (case hs => rfl); (case hx => first | assumption | exact upd_same))
  | ((with_reducible refine' K11.g_block_size ?hW ?hK ?hs ?hx ?_); (case hW => assumption); (case hK => rfl); (case hs => rfl); (case hx => first | assumption | exact upd_same))
  | ((with_reducible refine' K11.g_blocks ?hW ?hK ?hs ?hx ?_); (case hW => assumption); (case hK => rfl); (case hs => rfl); (case hx => first | assumption | exact upd_same))
  | ((with_reducible refine' K11.g_log ?hW ?hK ?hs ?hx ?_); (case hW => assumption); (case hK => rfl); (case hs => rfl); (case hx => first | assumption | exact upd_same))
  | ((with_reducible refine' K11.g_waiting ?hW ?hK ?hs ?hx ?_); (case hW => assumption); (case hK => rfl); (case hs => rfl); (case hx => first | assumption | exact upd_same))
  | ((with_reducible refine' K11.g_written ?hW ?hK ?hs ?hx ?_); (case hW => assumption); (case hK => rfl); (case hs => rfl); (case hx => first | assumption | exact upd_same))
  | ((with_reducible refine' K11.g_log_tail ?hW ?hK ?hs ?hx ?_); (case hW => assumption); (case hK => rfl); (case hs => rfl); (case hx => first | assumption | exact upd_same))
  | ((with_reducible refine' K11.g_fuse ?hW ?hK ?hs ?hx ?_); (case hW => assumption); (case hK => rfl); (case hs => rfl); (case hx => first | assumption | exact upd_same))
  | ((with_reducible refine' K11.g_dead ?hW ?hK ?hs ?hx ?_); (case hW => assumption); (case hK => rfl); (case hs => rfl); (case hx => first | assumption | exact upd_same))
  | ((with_reducible refine' K11.g_steps ?hW ?hK ?hs ?hx ?_); (case hW => assumption); (case hK => rfl); (case hs => rfl); (case hx => first | assumption | exact upd_same))
  | walk_at "e1")
local macro_rules | `(tactic| walk_at "s1") => `(tactic| first
  | with_reducible refine w_seq ?_
  | with_reducible refine w_asg ?_
  | with_reducible refine w_ret ?_
  | with_reducible refine w_par ?_
  | with_reducible refine w_drop ?_
  | with_reducible refine w_next ?_
  | with_reducible refine w_ifs ?_
  | ((with_reducible refine' w_aug ?hv ?_); (case hv => rfl))
  | with_reducible refine w_for ?_
  | walk_at "f1")
local macro_rules | `(tactic| walk_at "e") => `(tactic| repeat walk_at "e1")
local macro_rules | `(tactic| walk_at "g") => `(tactic| repeat walk_at "s1")

namespace K11
open Dc Gk M5 M10 M8 M11 LamX
section
variable {P : Program} {w : World} {K : PySem.W.Frag} {mg : Str → Option Value} {base : Heap} {cPF cPg cDF cD aE cP : Addr}
def spFlush (K : PySem.W.Frag) (cPF cPg cD cP : Addr) : Sp := fun vs H Q E => ∃ (x d : Addr) (cap : Int) (L : Ad) (S : PS) (D : DS) (now kept : Cont), vs = [.ref x] ∧ Sys K cD cP H x d cap L S D ∧ PI K cPg H S D now kept ∧ S.wr ≤ 900 ∧ (S.og ≠ [] → Fails H E cPF) ∧
  (S.og = [] → ∀ H' L' S' D', Cs (L.all x d) H H' → Nw H x d L L' → Sys K cD cP H' x d cap L' S' D' → PI K cPg H' S' D' now kept → S'.rd = S.rd → S.wr ≤ S'.wr → S'.wr ≤ S.wr + 5 → S'.og = [] → S'.pg = S.pg → (∀ n c, now n = some c → ∃ a, valV D'.bs (.inl n) = some (.ref a) ∧ SqT K H' a ((bytC c).map V.int)) → Q .non H')
theorem ok_flush (W : Wp K mg cPF cPg cDF cD aE cP) (c_Pool_write_page : Me P w K mg base 4 cP "write_page" (spWP K cPg cD cP)) (c_Disk_sync_blocks : Me P w K mg base 2 cD "sync_blocks" (spSync K cDF cD)) : Me P w K mg base 5 cP "flush" (spFlush K cPF cPg cD cP) := by
  refine me_mk W.q_flush W.q_cl sc_Pool_flush (fun _ _ _ _ _ _ us hl => match us, hl with | [_], _ => rfl) (fun vs H Q E h => ?_) (fun f cdv A outer s H vs Q E hr h => ?_)
  · obtain ⟨x, d, cap, L, S, D, now, kept, rfl, _⟩ := h; rfl
  obtain ⟨x, d, cap, L, S, D, now, kept, rfl, sy, pi, hw, qF, q⟩ := h
  have hx := sy.hx
  refine ⟨_, (pss_cons (ps_if (pt_cmpR (Dq.op_ne_empty (hu64 hr)) (pe_fld (pv 0) rfl) pe_dnewK (nomark _))
    (pss_one (ps_raise rfl (takes_of rfl rfl rfl rfl) (pmk_own PySem.F.excBase_ValueError W.e_PageFault.ox W.e_PageFault.og W.e_PageFault.ok (raises_own W.e_PageFault.ob W.e_PageFault.ot) rfl)))
    pss_nil)
    (pss_cons (ps_for (passes_of rfl) rfl (pi_list (pe_callB (call_sortedDI rfl) rfl W.n_sorted (by decide +kernel) (pa_cons (pe_fld (pv 0) rfl) pa_nil))) (pg_name (i := 1) sc_Pool_flush.nd rfl (Or.inl rfl))
    (pss_one (ps_expr (pe_me c_Pool_write_page hr (by decide) passD (pv 0) (pa_cons (pv 1) pa_nil)))))
    (pss_one (ps_expr (pe_me0 c_Disk_sync_blocks hr (by decide) passD (pe_fld (pv 0) rfl)))))), ?_⟩
  walk_at "g"
  intro o ho
  have s1 := same_new ho (.dK [])
  have e1 : upd H o (.dK []) o = some (.dK []) := upd_same
  generalize upd H o (.dK []) = H1 at s1 e1
  have sy1 := sy.sm s1
  have hx1 := sy1.hx
  refine ⟨L.oA, o, S.og, rfl, rfl, sy1.og, e1, ?_⟩
  cases eg : S.og with
  | cons p r =>
    walk_at "g"
    exact qF (by rw [eg]; exact List.cons_ne_nil _ _) H1 s1
  | nil =>
    replace q := q eg
    have pi1 := pi.kps (Kps.of sy (Ch.of (M := L.all x d) s1))
    obtain ⟨ks, hks⟩ := pi.kc.ks
    have lc := pi.kc.len pi.nc
    have lk : ks.length = S.ch.length := by rw [← List.length_map (f := Sum.inl (β := Str)), ← hks, List.length_map]
    walk_at "g"
    rw [List.isEmpty_nil, Bool.not_true]
    walk_at "g"
    refine ⟨L.cA, S.ch, ks, rfl, .inl sy1.ch, hks, by omega, fun ys p hpm _ hp => ?_⟩
    have hys : ys.Nodup := (hpm.nodup_iff).mpr (nd_ks hks pi.nc)
    have ly : ys.length ≤ 5 := by rw [hpm.length_eq]; omega
    have hmem : ∀ n : Int, n ∈ ys ↔ (valV S.ch (.inl n)).isSome = true := fun n => hpm.mem_iff.trans (mem_ks hks n)
    have s2 := same_new hp (.lst (ys.map V.int))
    have e2 : upd H1 p (.lst (ys.map V.int)) p = some (.lst (ys.map V.int)) := upd_same
    have np : p ∉ L.all x d := sy1.nin hp
    generalize upd H1 p (.lst (ys.map V.int)) = H2 at s2 e2
    have sy2 := sy1.sm s2
    have pi2 := pi1.kps (Kps.of sy1 (Ch.of (M := L.all x d) s2))
    replace s2 : Cs (L.all x d) H H2 := Cs.of (s1.trans s2)
    clear s1 e1 hx1 sy1 pi1 hp
    refine w_forL (SqL.of e2) (fun i σ H3 => ∃ (v : Option V) (S3 : PS) (D3 : DS), σ = [some (.ref x), v] ∧ Cs (L.all x d) H2 H3 ∧ Sys K cD cP H3 x d cap L S3 D3 ∧ PI K cPg H3 S3 D3 now kept ∧ S3.rd = S.rd ∧ S3.wr = S.wr + i ∧ S3.pg = S.pg ∧ S3.og = [] ∧ ∀ n : Int, (valV S3.ch (.inl n)).isSome = true ↔ n ∈ ys.drop i)
      ⟨none, S, D, rfl, Cs.refl _ _, sy2, pi2, rfl, by omega, rfl, eg, fun n => (hmem n).symm⟩ (fun i σ H3 _ ⟨_, _, _, _, s3, _⟩ => SqL.of (s3.ch.lst e2 np)) ?_ ?_
    · rintro i y σ H3 hi ⟨v, S3, D3, rfl, s3, sy3, pi3, r1, r2, r3, r4, hg⟩
      obtain ⟨n, hn, rfl⟩ := ints_get hi
      have hx3 := sy3.hx
      have hin : (valV S3.ch (.inl n)).isSome = true := (hg n).mpr (List.mem_of_getElem? (i := 0) (by rw [List.getElem?_drop]; exact hn))
      obtain ⟨u, hu⟩ := Option.isSome_iff_exists.mp (pi3.ch _ hin)
      obtain ⟨c, hc, b, rfl, hb⟩ := pi3.pg _ _ hu
      have pok := pi3.ok _ _ hc
      have hi5 : i < 5 := Nat.lt_of_lt_of_le (List.getElem?_eq_some_iff.mp hn).1 ly
      have wl := pi3.wlen (B := 910) (by omega)
      walk_at "g"
      refine ⟨x, L.dx, _, rfl, hx3, mp_none (by decide +kernel), ?_⟩
      walk_at "g"
      refine ⟨x, d, cap, L.pA, L.cA, L.oA, S3, L.bA, L.qA, L.wA, D3, n, b, c.1, c.2.1, c.2.2, rfl, sy3.po, sy3.dk, sy3.nd8, hu, hb, by have := pok.len; omega, pok.sz, hin, pi3.alive, by omega, by omega, fun a H4 s4 ha dk4 hx4 hc4 => ?_⟩
      have s4' : Cs (L.all x d) H3 H4 := s4.le fun b hb => by
        obtain ⟨m1, m2, m3, m4, m5, m6, m7, m8, m9⟩ := Ad.mem (L := L) (x := x) (d := d)
        simp only [List.mem_cons, List.not_mem_nil, or_false] at hb
        rcases hb with z | z | z | z | z <;> rw [z] <;> assumption
      have hon : valV S3.og (.inl n) = none := by rw [r4]; exact valV_nil
      have pi4 := (pi3.kps (Kps.of sy3 s4'.ch)).write hon hc ha
      have sy4 : Sys K cD cP H4 x d cap L { S3 with ch := dropK S3.ch (.inl n), wr := S3.wr + 1 } (D3.write n a) := sy3.write s4 dk4 (hx4 _ _ sy3.hx) hc4 rfl rfl
      refine ⟨_, _, _, rfl, s3.trans s4', sy4, pi4, r1, by show S3.wr + 1 = _; omega, r3, r4, fun m => ?_⟩
      rw [drop_at hn hys, ← hg]
      show (valV (dropK S3.ch (.inl n)) (.inl m)).isSome = true ↔ _
      by_cases z : m = n
      · rw [z, drop_same]
        exact ⟨fun z => absurd z Bool.false_ne_true, fun z => absurd rfl z.2⟩
      · rw [drop_ne (inl_ne z)]
        exact ⟨fun h => ⟨h, z⟩, fun h => h.1⟩
    · rintro σ H3 ⟨v, S3, D3, rfl, s3, sy3, pi3, r1, r2, r3, r4, hg⟩
      rw [List.length_map, List.drop_length] at hg
      rw [List.length_map] at r2
      have ch0 : S3.ch = [] := val_empty pi3.kc fun n h => absurd ((hg n).mp h) List.not_mem_nil
      have hx3 := sy3.hx
      have wl := pi3.wlen (B := 910) (by omega)
      obtain ⟨⟨ddx, lB, tB, zs, hd, g2, g3, g4, g5⟩, _⟩ := id sy3.dk
      walk_at "g"
      refine ⟨d, ddx, _, rfl, hd, m_none (by decide +kernel), ?_⟩
      walk_at "g"
      refine ⟨d, L.bA, L.qA, L.wA, D3, rfl, sy3.dk, by omega, fun q' w' H4 s4 fq fw ne dk4 _ => ?_, fun H4 s4 dk4 z => by rw [pi3.alive] at z; cases z⟩
      obtain ⟨sy4, t4, n4⟩ := sy3.newQ fq fw ne s4 dk4
      have pi4 := (pi3.kps (Kps.of sy3 t4.ch)).sync
      have t03 := s2.trans s3
      refine q H4 _ _ _ (t03.trans t4) (Nw.tr t03 Nw.refl n4) sy4 pi4 r1 (by omega) (by omega) r4 r3 fun n c hc => ?_
      obtain ⟨a, h1, h2⟩ := pi4.dk n c hc (by
        cases z : valV S3.pg (.inl n) with
        | none => exact .inl rfl
        | some v => exact .inr ⟨by rw [r4]; exact valV_nil, by rw [ch0]; exact valV_nil⟩)
      refine ⟨a, ?_, h2⟩
      unfold rdV at h1
      rw [show D3.sync.wr = [] from rfl, valV_nil, Option.none_or] at h1
      exact h1
end
end K11
end

section
-- part K11X1
set_option Elab.async false
set_option linter.all false
set_option maxRecDepth 100000
set_option maxHeartbeats 800000
open PySem PySem.Spec PyProof.Rows L2 Fw
local macro_rules | `(tactic| walk_at "e1") => `(tactic| first
  | ((with_reducible refine' w_var ?hv ?_); (case hv => rfl))
  | with_reducible refine w_c ?_
  | with_reducible refine w_op ?_
  | with_reducible refine w_un ?_
  | with_reducible refine w_cons ?_
  | with_reducible refine w_nil ?_
  | with_reducible refine w_cl ?_
  | with_reducible refine w_cb ?_
  | with_reducible refine w_gname ?_
  | with_reducible refine w_gsub ?_
  | with_reducible refine w_test ?_
  | with_reducible refine w_B ?_
  | with_reducible refine w_bl ?_
  | with_reducible refine w_and ?_
  | with_reducible refine w_or ?_
  | with_reducible refine w_not ?_
  | with_reducible refine w_if ?_
  | with_reducible refine w_I0 ?_
  | with_reducible refine Gk.w_rU ?_
  | with_reducible refine Dq.w_orV ?_
  | with_reducible refine Dq.w_js ?_
  | with_reducible refine Dq.w_js0 ?_
  | with_reducible refine Dq.w_fm ?_
  | with_reducible refine Dq.w_andV ?_
  | with_reducible refine Gk.w_iEnum ?_
  | with_reducible refine Dq.w_dget ?_
  | with_reducible refine Dq.w_dpop1 ?_
  | with_reducible refine Dq.w_ddel ?_
  | with_reducible refine Dq.w_din ?_
  | with_reducible refine Dq.w_dnotin ?_
  | with_reducible refine Dq.w_dget2 ?_
  | with_reducible refine Dq.w_dnew ?_
  | with_reducible refine Dq.w_fldaug ?_
  | with_reducible refine Dq.w_aSub ?_
  | with_reducible refine Dq.w_aAdd ?_
  | with_reducible refine Dq.w_mkd ?_
  | with_reducible refine Dq.w_notN0 ?_
  | with_reducible refine Dq.w_isN0 ?_
  | with_reducible refine Dq.w_notNR ?_
  | with_reducible refine Dq.w_isNR ?_
  | with_reducible refine Dq.w_notNI ?_
  | with_reducible refine Dq.w_isNI ?_
  | with_reducible refine L2.w_neOs ?_
  | with_reducible refine w_ipI ?_
  | with_reducible refine w_eqS ?_
  | with_reducible refine w_neS ?_
  | with_reducible refine w_eqI ?_
  | with_reducible refine w_neI ?_
  | with_reducible refine w_eqB ?_
  | with_reducible refine w_neB ?_
  | ((with_reducible refine w_eq ?hs ?_); (case hs => rfl))
  | ((with_reducible refine w_ne ?hs ?_); (case hs => rfl))
  | with_reducible refine w_fld ?_
  | with_reducible refine w_bm ?_
  | with_reducible refine w_bm0 ?_
  | with_reducible refine w_sl ?_
  | with_reducible refine w_part ?_
  | with_reducible refine w_partI ?_
  | with_reducible refine w_nopart ?_
  | ((with_reducible refine' w_ixL ?hh ?ha ?_); (case hh => first | assumption | exact upd_same); (case ha => rfl))
  | ((with_reducible refine' w_setLu ?ha ?_); (case ha => rfl))
  | ((with_reducible refine' w_setL ?hh ?ha ?_); (case hh => first | assumption | exact upd_same); (case ha => rfl))
  | with_reducible refine w_iteT ?_
  | with_reducible refine w_iteF ?_
  | with_reducible refine w_lst ?_
  | with_reducible refine w_tup ?_
  | ((with_reducible refine w_new ?hz ?_); (case hz => rfl))
  | with_reducible refine w_lc ?_
  | with_reducible refine w_iL ?_
  | with_reducible refine w_iT ?_
  | with_reducible refine w_iR1 ?_
  | with_reducible refine w_iR2 ?_
  | with_reducible refine w_yes ?_
  | with_reducible refine w_iStr ?_
  | with_reducible exact tyS
  | with_reducible refine And.intro tyS ?_
  | ((with_reducible refine w_find3 ?_); (first | rw [find3_one] | rw [starts3] | skip))
  | ((with_reducible refine w_2s ?_); (try rw [find_one]))
  | ((with_reducible refine w_inS ?_); rw [S_list])
  | ((with_reducible refine w_lenS ?hz ?_); (case hz => first | assumption | omega | decide); rw [SX.S_len])
  | ((with_reducible refine w_addS ?hz ?_); (case hz => first | assumption | omega | decide); rw [vS_cat])
  | with_reducible refine w_mk ?_
  | with_reducible refine w_me ?_
  | with_reducible refine w_sfld ?_
  | ((with_reducible refine' w_gtup ?hh ?hn ?_); (case hh => first | assumption | exact upd_same); (case hn => rfl))
  | with_reducible refine w_gcons ?_
  | with_reducible refine w_gnil ?_
  | with_reducible refine w_repl ?_
  | with_reducible refine w_star ?_
  | with_reducible refine w_revL ?_
  | with_reducible refine w_isiS ?_
  | with_reducible refine w_isiI ?_
  | with_reducible refine w_isiN ?_
  | with_reducible refine w_chain ?_
  | with_reducible refine w_iEnumT ?_
  | with_reducible refine w_iZip3 ?_
  | with_reducible refine w_iZip ?_
  | with_reducible refine w_lenR3 ?_
  | with_reducible refine w_x1i ?_
  | with_reducible refine w_x1b ?_
  | with_reducible refine w_x1s ?_
  | with_reducible refine w_int1i ?_
  | with_reducible refine w_int1b ?_
  | ((with_reducible refine w_mod ?hc ?_); (case hc => omega))
  | ((with_reducible refine w_fdivW ?hc ?hd ?_); (case hc => omega); (case hd => omega))
  | ((with_reducible refine w_mul ?hc ?_); (case hc => first | exact Or.inr ⟨by decide, by decide⟩ | exact Or.inl ⟨by decide, by decide⟩))
  | ((with_reducible refine w_pow ?hc ?_); (case hc => exact ⟨by decide, by decide, by decide⟩)))
local macro_rules | `(tactic| walk_at "f1") => `(tactic| first
  | ((with_reducible refine' K11.g_disk ?hW ?hK ?hs ?hx ?_); (case hW => assumption); (case hK => rfl); (case hs => rfl); (case hx => first | assumption | exact upd_same))
  | ((with_reducible refine' K11.g_capacity ?hW ?hK ?hs ?hx ?_); (case hW => assumption); (case hK => rfl); (case hs => rfl); (case hx => first | assumption | exact upd_same))
  | ((with_reducible refine' K11.g_pages ?hW ?hK ?hs ?hx ?_); (case hW => assumption); (case hK => rfl); (case hs => rfl); (case hx => first | assumption | exact upd_same))
  | ((with_reducible refine' K11.g_changed ?hW ?hK ?hs ?hx ?_); (case hW => assumption); (case hK => rfl); (case hs => rfl); (case hx => first | assumption | exact upd_same))
  | ((with_reducible refine' K11.g_open_group ?hW ?hK ?hs ?hx ?_); (case hW => assumption); (case hK => rfl); (case hs => rfl); (case hx => first | assumption | exact upd_same))
  | ((with_reducible refine' K11.g_parts ?hW ?hK ?hs ?hx ?_); (case hW => assumption); (case hK => rfl); (case hs => rfl); (case hx => first | assumption | exact upd_same))
  | ((with_reducible refine' K11.g_reads ?hW ?hK ?hs ?hx ?_); (case hW => assumption); (case hK => rfl); (case hs => rfl); (case hx => first | assumption | exact upd_same))
  | ((with_reducible refine' K11.g_writes ?hW ?hK ?hs ?hx ?_); (case hW => assumption); (case hK => rfl); (case hs => rfl); (case hx => first | assumption | exact upd_same))
  | ((with_reducible refine' K11.g_block_size ?hW ?hK ?hs ?hx ?_); (case hW => assumption); (case hK => rfl); (case hs => rfl); (case hx => first | assumption | exact upd_same))
  | ((with_reducible refine' K11.g_blocks ?hW ?hK ?hs ?hx ?_); (case hW => assumption); (case hK => rfl); (case hs => rfl); (case hx => first | assumption | exact upd_same))
  | ((with_reducible refine' K11.g_log ?hW ?hK ?hs ?hx ?_); (case hW => assumption); (case hK => rfl); (case hs => rfl); (case hx => first | assumption | exact upd_same))
  | ((with_reducible refine' K11.g_waiting ?hW ?hK ?hs ?hx ?_); (case hW => assumption); (case hK => rfl); (case hs => rfl); (case hx => first | assumption | exact upd_same))
  | ((with_reducible refine' K11.g_written ?hW ?hK ?hs ?hx ?_); (case hW => assumption); (case hK => rfl); (case hs => rfl); (case hx => first | assumption | exact upd_same))
  | ((with_reducible refine' K11.g_log_tail ?hW ?hK ?hs ?hx ?_); (case hW => assumption); (case hK => rfl); (case hs => rfl); (case hx => first | assumption | exact upd_same))
  | ((with_reducible refine' K11.g_fuse ?hW ?hK ?hs ?hx ?_); (case hW => assumption); (case hK => rfl); (case hs => rfl); (case hx => first | assumption | exact upd_same))
  | ((with_reducible refine' K11.g_dead ?hW ?hK ?hs ?hx ?_); (case hW => assumption); (case hK => rfl); (case hs => rfl); (case hx => first | assumption | exact upd_same))
  | ((with_reducible refine' K11.g_steps ?hW ?hK ?hs ?hx ?_); (case hW => assumption); (case hK => rfl); (case hs => rfl); (case hx => first | assumption | exact upd_same))
  | walk_at "e1")
local macro_rules | `(tactic| walk_at "s1") => `(tactic| first
  | with_reducible refine w_seq ?_
  | with_reducible refine w_asg ?_
  | with_reducible refine w_ret ?_
  | with_reducible refine w_par ?_
  | with_reducible refine w_drop ?_
  | with_reducible refine w_next ?_
  | with_reducible refine w_ifs ?_
  | ((with_reducible refine' w_aug ?hv ?_); (case hv => rfl))
  | with_reducible refine w_for ?_
  | walk_at "f1")
local macro_rules | `(tactic| walk_at "e") => `(tactic| repeat walk_at "e1")
local macro_rules | `(tactic| walk_at "g") => `(tactic| repeat walk_at "s1")

namespace K11
open Dc Gk M5 M10 M8 M11 LamX
section
variable {P : Program} {w : World} {K : PySem.W.Frag} {mg : Str → Option Value} {base : Heap} {cPF cPg cDF cD aE cP : Addr}
/-- a pair of a page's number and its bytes -/
def Imgs (K : PySem.W.Frag) (H : Hp) (now : Cont) : List Addr → List Int → Prop := Paired fun z n => ∃ (a : Addr) (c : Pgc), now n = some c ∧ SqT K H z [.int n, .ref a] ∧ SqT K H a ((bytC c).map V.int)
theorem Imgs.ch {M : List Addr} {H H' : Hp} {now : Cont} (s : Ch M H H') : ∀ {zs : List Addr} {ns : List Int}, Imgs K H now zs ns → Imgs K H' now zs ns
  | _, _, .nil => .nil
  | _, _, .cons ⟨a, c, h1, h2, h3⟩ r => .cons ⟨a, c, h1, s.sqT h2, s.sqT h3⟩ (Imgs.ch s r)
def spImages (K : PySem.W.Frag) (cPg cD cP : Addr) : Sp := fun vs H Q _ => ∃ (x d : Addr) (cap : Int) (L : Ad) (S : PS) (D : DS) (now kept : Cont), vs = [.ref x] ∧ Sys K cD cP H x d cap L S D ∧ PI K cPg H S D now kept ∧
  ∀ (p : Addr) (H' : Hp) (ns : List Int) (zs : List Addr), Same H H' → H p = none → H' p = some (.lst (zs.map V.ref)) → Imgs K H' now zs ns → ns.Pairwise (· ≤ ·) → ns.Nodup → (∀ n : Int, n ∈ ns ↔ (valV S.og (.inl n)).isSome = true) → Q (.ref p) H'
theorem ok_group_images (W : Wp K mg cPF cPg cDF cD aE cP) (c_page_bytes : Cl P w K mg base 3 "page_bytes" (spBytes K cPg cPF)) : Me P w K mg base 4 cP "group_images" (spImages K cPg cD cP) := by
  refine me_mk W.q_group_images W.q_cl sc_Pool_group_images (fun _ _ _ _ _ _ us hl => match us, hl with | [_], _ => rfl) (fun vs H Q E h => ?_) (fun f cdv A outer s H vs Q E hr h => ?_)
  · obtain ⟨x, d, cap, L, S, D, now, kept, rfl, _⟩ := h; rfl
  obtain ⟨x, d, cap, L, S, D, now, kept, rfl, sy, pi, q⟩ := h
  have hx := sy.hx
  obtain ⟨ks, hks⟩ := pi.ko.ks
  have lo := pi.ko.len pi.no
  have lk : ks.length = S.og.length := by rw [← List.length_map (f := Sum.inl (β := Str)), ← hks, List.length_map]
  refine ⟨_, (pss_one (ps_ret (pe_lc (own := [("number", 1)]) rfl sc_Pool_group_images.nd (pi_list (pe_callB (call_sortedDI rfl) rfl W.n_sorted (by decide +kernel) (pa_cons (pe_fld (pv 0) rfl) pa_nil))) (blkOk_by (own := [("number", 1)]) (N := ["self", "number"]) (sc := defScope s_Pool_group_images) (by decide +kernel)) (fun _ _ _ _ _ => (pg_name (i := 1) sc_Pool_group_images.nd rfl (by first | exact Or.inl rfl | exact Or.inr rfl))) (fun _ _ _ _ _ => pts_nil) (fun _ _ _ _ _ => (pe_tup (pa_cons (pv 1) (pa_cons (pe_cl c_page_bytes hr (by decide) rfl passL (pa_cons (pe_dget (hu_of hr) (pe_fldK K (pv 0) rfl rfl) (pv 1) (fun _ _ => rfl)) (pa_cons (pe_fldK K (pe_fldK K (pv 0) rfl rfl) rfl rfl) pa_nil))) pa_nil))))))), ?_⟩
  walk_at "g"
  refine ⟨L.oA, S.og, ks, rfl, .inl sy.og, hks, by omega, fun ys p hpm hsr hp => ?_⟩
  have hys : ys.Nodup := (hpm.nodup_iff).mpr (nd_ks hks pi.no)
  have ly : ys.length ≤ 5 := by rw [hpm.length_eq]; omega
  have hmem : ∀ n : Int, n ∈ ys ↔ (valV S.og (.inl n)).isSome = true := fun n => hpm.mem_iff.trans (mem_ks hks n)
  have s1 := same_new hp (.lst (ys.map V.int))
  have e1 : upd H p (.lst (ys.map V.int)) p = some (.lst (ys.map V.int)) := upd_same
  generalize upd H p (.lst (ys.map V.int)) = H1 at s1 e1
  refine w_lcL (SqL.of e1) fun D0 hD => ⟨fun i H2 => ∃ zs : List Addr, zs.length = i ∧ Same H1 H2 ∧ H2 D0 = some (.lst (zs.map V.ref)) ∧ Imgs K H2 now zs (ys.take i), ⟨[], rfl, same_new hD _, upd_same, .nil⟩, fun i H2 _ ⟨zs, _, s2, _⟩ => sqL_same (SqL.of e1) s2, ?_, ?_⟩
  · rintro i y H2 hi ⟨zs, hz, s2, e2, im⟩
    obtain ⟨n, hn, rfl⟩ := ints_get hi
    have sy2 := (sy.sm s1).sm s2
    have hx2 := sy2.hx
    have pi2 := pi.kps (Kps.of sy (Ch.of (M := L.all x d) (s1.trans s2)))
    have hin := (hmem n).mp (List.mem_of_getElem? hn)
    obtain ⟨u, hu⟩ := Option.isSome_iff_exists.mp hin
    obtain ⟨g1, _⟩ := pi2.og _ _ hu
    obtain ⟨v, hv⟩ := Option.isSome_iff_exists.mp g1
    obtain ⟨c, hc, b, rfl, hb⟩ := pi2.pg _ _ hv
    have pok := pi2.ok _ _ hc
    obtain ⟨⟨ddx, lB, tB, ws, hd, _⟩, _⟩ := id sy2.dk
    have hi5 : i < 5 := Nat.lt_of_lt_of_le (List.getElem?_eq_some_iff.mp hn).1 ly
    walk_at "g"
    refine ⟨rfl, ?_⟩
    walk_at "g"
    refine ⟨L.pA, .ref b, rfl, hv ▸ DGet.k (k := .inl n) sy2.pg, ?_⟩
    walk_at "g"
    refine ⟨d, cD, ddx, _, _, rfl, hd, W.k_cl, W.k_block_size, l_block_size, ?_⟩
    walk_at "g"
    refine ⟨b, c.1, c.2.1, c.2.2, 96, rfl, hb, by have := pok.len; omega, by decide, fun _ a H3 s3 f3 e3 => ?_, fun z => by have := pok.sz; omega⟩
    walk_at "g"
    intro T hT
    have s4 := same_new hT (.tup [.int n, .ref a])
    have e4 : upd H3 T (.tup [.int n, .ref a]) T = some (.tup [.int n, .ref a]) := upd_same
    generalize upd H3 T (.tup [.int n, .ref a]) = H4 at s4 e4
    replace e3 := s4 _ _ e3
    replace e2 := (s3.trans s4) _ _ e2
    replace im : Imgs K H4 now zs (ys.take i) := im.ch (Ch.of (M := []) (s3.trans s4))
    refine ⟨_, e2, by rw [List.length_map]; exact Nat.lt_of_le_of_lt (by omega : zs.length ≤ 5) (by decide), zs ++ [T], by rw [List.length_append, hz]; rfl, same_upd ((s2.trans s3).trans s4) hD, by rw [upd_same, List.map_append]; rfl, ?_⟩
    rw [List.take_add_one, hn]
    have w : Ch [D0] H4 (upd H4 D0 (.lst (zs.map V.ref ++ [.ref T]))) := ((Cs.refl _ _).wr mem1 e2 trivial).ch
    exact Paired.snoc (im.ch w) ⟨a, c, hc, w.sqT (SqT.of e4), w.sqT (SqT.of e3)⟩
  · rintro H2 ⟨zs, hz, s2, e2, im⟩
    rw [List.length_map, List.take_length] at im
    exact q D0 H2 ys zs (s1.trans s2) (Same.free s1 hD) e2 im hsr hys hmem
end
end K11
end

section
-- part K11Y
set_option Elab.async false
set_option linter.all false
set_option maxRecDepth 100000
set_option maxHeartbeats 800000
open PySem PySem.Spec PyProof.Rows L2 Fw
local macro_rules | `(tactic| walk_at "e1") => `(tactic| first
  | ((with_reducible refine' w_var ?hv ?_); (case hv => rfl))
  | with_reducible refine w_c ?_
  | with_reducible refine w_op ?_
  | with_reducible refine w_un ?_
  | with_reducible refine w_cons ?_
  | with_reducible refine w_nil ?_
  | with_reducible refine w_cl ?_
  | with_reducible refine w_cb ?_
  | with_reducible refine w_gname ?_
  | with_reducible refine w_gsub ?_
  | with_reducible refine w_test ?_
  | with_reducible refine w_B ?_
  | with_reducible refine w_bl ?_
  | with_reducible refine w_and ?_
  | with_reducible refine w_or ?_
  | with_reducible refine w_not ?_
  | with_reducible refine w_if ?_
  | with_reducible refine w_I0 ?_
  | with_reducible refine Gk.w_rU ?_
  | with_reducible refine Dq.w_orV ?_
  | with_reducible refine Dq.w_js ?_
  | with_reducible refine Dq.w_js0 ?_
  | with_reducible refine Dq.w_fm ?_
  | with_reducible refine Dq.w_andV ?_
  | with_reducible refine Gk.w_iEnum ?_
  | with_reducible refine Dq.w_dget ?_
  | with_reducible refine Dq.w_dpop1 ?_
  | with_reducible refine Dq.w_ddel ?_
  | with_reducible refine Dq.w_din ?_
  | with_reducible refine Dq.w_dnotin ?_
  | with_reducible refine Dq.w_dget2 ?_
  | with_reducible refine Dq.w_dnew ?_
  | with_reducible refine Dq.w_fldaug ?_
  | with_reducible refine Dq.w_aSub ?_
  | with_reducible refine Dq.w_aAdd ?_
  | with_reducible refine Dq.w_mkd ?_
  | with_reducible refine Dq.w_notN0 ?_
  | with_reducible refine Dq.w_isN0 ?_
  | with_reducible refine Dq.w_notNR ?_
  | with_reducible refine Dq.w_isNR ?_
  | with_reducible refine Dq.w_notNI ?_
  | with_reducible refine Dq.w_isNI ?_
  | with_reducible refine L2.w_neOs ?_
  | with_reducible refine w_ipI ?_
  | with_reducible refine w_eqS ?_
  | with_reducible refine w_neS ?_
  | with_reducible refine w_eqI ?_
  | with_reducible refine w_neI ?_
  | with_reducible refine w_eqB ?_
  | with_reducible refine w_neB ?_
  | ((with_reducible refine w_eq ?hs ?_); (case hs => rfl))
  | ((with_reducible refine w_ne ?hs ?_); (case hs => rfl))
  | with_reducible refine w_fld ?_
  | with_reducible refine w_bm ?_
  | with_reducible refine w_bm0 ?_
  | with_reducible refine w_sl ?_
  | with_reducible refine w_part ?_
  | with_reducible refine w_partI ?_
  | with_reducible refine w_nopart ?_
  | ((with_reducible refine' w_ixL ?hh ?ha ?_); (case hh => first | assumption | exact upd_same); (case ha => rfl))
  | ((with_reducible refine' w_setLu ?ha ?_); (case ha => rfl))
  | ((with_reducible refine' w_setL ?hh ?ha ?_); (case hh => first | assumption | exact upd_same); (case ha => rfl))
  | with_reducible refine w_iteT ?_
  | with_reducible refine w_iteF ?_
  | with_reducible refine w_lst ?_
  | with_reducible refine w_tup ?_
  | ((with_reducible refine w_new ?hz ?_); (case hz => rfl))
  | with_reducible refine w_lc ?_
  | with_reducible refine w_iL ?_
  | with_reducible refine w_iT ?_
  | with_reducible refine w_iR1 ?_
  | with_reducible refine w_iR2 ?_
  | with_reducible refine w_yes ?_
  | with_reducible refine w_iStr ?_
  | with_reducible exact tyS
  | with_reducible refine And.intro tyS ?_
  | ((with_reducible refine w_find3 ?_); (first | rw [find3_one] | rw [starts3] | skip))
  | ((with_reducible refine w_2s ?_); (try rw [find_one]))
  | ((with_reducible refine w_inS ?_); rw [S_list])
  | ((with_reducible refine w_lenS ?hz ?_); (case hz => first | assumption | omega | decide); rw [SX.S_len])
  | ((with_reducible refine w_addS ?hz ?_); (case hz => first | assumption | omega | decide); rw [vS_cat])
  | with_reducible refine w_mk ?_
  | with_reducible refine w_me ?_
  | with_reducible refine w_sfld ?_
  | ((with_reducible refine' w_gtup ?hh ?hn ?_); (case hh => first | assumption | exact upd_same); (case hn => rfl))
  | with_reducible refine w_gcons ?_
  | with_reducible refine w_gnil ?_
  | with_reducible refine w_repl ?_
  | with_reducible refine w_star ?_
  | with_reducible refine w_revL ?_
  | with_reducible refine w_isiS ?_
  | with_reducible refine w_isiI ?_
  | with_reducible refine w_isiN ?_
  | with_reducible refine w_chain ?_
  | with_reducible refine w_iEnumT ?_
  | with_reducible refine w_iZip3 ?_
  | with_reducible refine w_iZip ?_
  | with_reducible refine w_lenR3 ?_
  | with_reducible refine w_x1i ?_
  | with_reducible refine w_x1b ?_
  | with_reducible refine w_x1s ?_
  | with_reducible refine w_int1i ?_
  | with_reducible refine w_int1b ?_
  | ((with_reducible refine w_mod ?hc ?_); (case hc => omega))
  | ((with_reducible refine w_fdivW ?hc ?hd ?_); (case hc => omega); (case hd => omega))
  | ((with_reducible refine w_mul ?hc ?_); (case hc => first | exact Or.inr ⟨by decide, by decide⟩ | exact Or.inl ⟨by decide, by decide⟩))
  | ((with_reducible refine w_pow ?hc ?_); (case hc => exact ⟨by decide, by decide, by decide⟩)))
local macro_rules | `(tactic| walk_at "f1") => `(tactic| first
  | ((with_reducible refine' K11.g_disk ?hW ?hK ?hs ?hx ?_); (case hW => assumption); (case hK => rfl); (case hs => rfl); (case hx => first | assumption | exact upd_same))
  | ((with_reducible refine' K11.g_capacity ?hW ?hK ?hs ?hx ?_); (case hW => assumption); (case hK => rfl); (case hs => rfl); (case hx => first | assumption | exact upd_same))
  | ((with_reducible refine' K11.g_pages ?hW ?hK ?hs ?hx ?_); (case hW => assumption); (case hK => rfl); (case hs => rfl); (case hx => first | assumption | exact upd_same))
  | ((with_reducible refine' K11.g_changed ?hW ?hK ?hs ?hx ?_); (case hW => assumption); (case hK => rfl); (case hs => rfl); (case hx => first | assumption | exact upd_same))
  | ((with_reducible refine' K11.g_open_group ?hW ?hK ?hs ?hx ?_); (case hW => assumption); (case hK => rfl); (case hs => rfl); (case hx => first | assumption | exact upd_same))
  | ((with_reducible refine' K11.g_parts ?hW ?hK ?hs ?hx ?_); (case hW => assumption); (case hK => rfl); (case hs => rfl); (case hx => first | assumption | exact upd_same))
  | ((with_reducible refine' K11.g_reads ?hW ?hK ?hs ?hx ?_); (case hW => assumption); (case hK => rfl); (case hs => rfl); (case hx => first | assumption | exact upd_same))
  | ((with_reducible refine' K11.g_writes ?hW ?hK ?hs ?hx ?_); (case hW => assumption); (case hK => rfl); (case hs => rfl); (case hx => first | assumption | exact upd_same))
  | ((with_reducible refine' K11.g_block_size ?hW ?hK ?hs ?hx ?_); (case hW => assumption); (case hK => rfl); (case hs => rfl); (case hx => first | assumption | exact upd_same))
  | ((with_reducible refine' K11.g_blocks ?hW ?hK ?hs ?hx ?_); (case hW => assumption); (case hK => rfl); (case hs => rfl); (case hx => first | assumption | exact upd_same))
  | ((with_reducible refine' K11.g_log ?hW ?hK ?hs ?hx ?_); (case hW => assumption); (case hK => rfl); (case hs => rfl); (case hx => first | assumption | exact upd_same))
  | ((with_reducible refine' K11.g_waiting ?hW ?hK ?hs ?hx ?_); (case hW => assumption); (case hK => rfl); (case hs => rfl); (case hx => first | assumption | exact upd_same))
  | ((with_reducible refine' K11.g_written ?hW ?hK ?hs ?hx ?_); (case hW => assumption); (case hK => rfl); (case hs => rfl); (case hx => first | assumption | exact upd_same))
  | ((with_reducible refine' K11.g_log_tail ?hW ?hK ?hs ?hx ?_); (case hW => assumption); (case hK => rfl); (case hs => rfl); (case hx => first | assumption | exact upd_same))
  | ((with_reducible refine' K11.g_fuse ?hW ?hK ?hs ?hx ?_); (case hW => assumption); (case hK => rfl); (case hs => rfl); (case hx => first | assumption | exact upd_same))
  | ((with_reducible refine' K11.g_dead ?hW ?hK ?hs ?hx ?_); (case hW => assumption); (case hK => rfl); (case hs => rfl); (case hx => first | assumption | exact upd_same))
  | ((with_reducible refine' K11.g_steps ?hW ?hK ?hs ?hx ?_); (case hW => assumption); (case hK => rfl); (case hs => rfl); (case hx => first | assumption | exact upd_same))
  | walk_at "e1")
local macro_rules | `(tactic| walk_at "s1") => `(tactic| first
  | with_reducible refine w_seq ?_
  | with_reducible refine w_asg ?_
  | with_reducible refine w_ret ?_
  | with_reducible refine w_par ?_
  | with_reducible refine w_drop ?_
  | with_reducible refine w_next ?_
  | with_reducible refine w_ifs ?_
  | ((with_reducible refine' w_aug ?hv ?_); (case hv => rfl))
  | with_reducible refine w_for ?_
  | walk_at "f1")
local macro_rules | `(tactic| walk_at "e") => `(tactic| repeat walk_at "e1")
local macro_rules | `(tactic| walk_at "g") => `(tactic| repeat walk_at "s1")

namespace K11
open Dc Gk M5 M10 M8 M11 LamX
-- _law_told: 0:what
abbrev s__law_told : Stmt := top 34
theorem sc__law_told : FnScope ["what"] ["what"] (defScope s__law_told) := ⟨rfl, rfl, rfl, by decide +kernel, rfl, by decide +kernel, by decide +kernel⟩
-- _law_page: 0:dice
abbrev s__law_page : Stmt := top 35
theorem sc__law_page : FnScope ["dice"] ["dice"] (defScope s__law_page) := ⟨rfl, rfl, rfl, by decide +kernel, rfl, by decide +kernel, by decide +kernel⟩
-- _law_same: 0:page 1:other
abbrev s__law_same : Stmt := top 36
theorem sc__law_same : FnScope ["page", "other"] ["page", "other"] (defScope s__law_same) := ⟨rfl, rfl, rfl, by decide +kernel, rfl, by decide +kernel, by decide +kernel⟩
-- law: 0:script 1:dice 2:disk 3:capacity 4:pool 5:kept 6:now 7:group 8:marks 9:number 10:step 11:sort 12:images 13:one 14:data 15:told_now 16:loose 17:number_now 18:large
abbrev s_law : Stmt := top 37
theorem sc_law : FnScope ["script", "dice", "disk", "capacity", "pool", "kept", "now", "group", "marks", "number", "step", "sort", "images", "one", "data", "told_now", "loose", "number_now", "large"] ["script"] (defScope s_law) := ⟨rfl, rfl, rfl, by decide +kernel, rfl, by decide +kernel, by decide +kernel⟩
section
variable {X : Cx}
theorem pe_lamT {T : List (Addr × Str)} {cF c Pt : Addr} {k : Nat} {params : Arguments} {body : Expr} {scope : Scope} {t : XK → TE} {p lpos pos : Pos} (F : FnP X.K X.mg "_law_told" s__law_told) (eT : X.mg "PageFault" = some (.ref cF)) {qn : Str} (hm : (Pt, qn ++ ("<lambda>" : Str)) ∈ T) (hu : ∀ p ∈ T, p.1 = Pt → p.2 = qn ++ ("<lambda>" : Str))
    (TB : TabB X.base X.mg c Pt) (hcode : X.env.code = .ref c) (qn' : Str) (hq : X.env.qual = qn) (hr : Room (k + 2) X.A) (sc : Scope) (hsc : X.env.scope = sc) (L : lamSB sc scope = true) (hdef : defaultsOf params X.env = ([], []))
    (hbind : ∀ (q : Str) (cl : List (Str × Addr)) (pm cv ctv : Value), bindArgs (PySem.W.kla_fn "<lambda>" q params body scope cl pm cv ctv) ⟨[], []⟩ = pure []) (hg : Gl X "_law_told")
    (hbody : ∀ (A : Around) (outer : List Env) (s : Shared) (H : Hp) (E : XK) (f c' : Addr), Room k (A.deeper (lamEnv X scope s.heap.objs.size f c')) → PE (lamCx X A outer s H E scope f c') body (t E)) :
    PE X (.Call (.Name "_law_told" p) [.Lambda params body scope lpos] [] pos) (tLam T (TTold X.K cF "PageFault") t) := by
  subst hq
  obtain ⟨f, fd, F, m⟩ := F
  have bb := F.bindsN (ps := ["what"]) fun _ _ _ _ _ _ us hl => match us, hl with | [_], _ => rfl
  obtain ⟨oc, od, dV, kV, doc, pm, an, cdv, ct, osl, rfl, lk, hcd, _, _⟩ := F.ex
  exact pe_lamcall hg m F.kp lk hcd bb sc__law_told rfl (Or.inl rfl) (told_gives rfl eT rfl fun _ => rfl) TB hcode hm hu hr (hsc ▸ lamS_by L) hdef hbind hbody
end
structure Wz (K : PySem.W.Frag) (mg : Str → Option Value) (cPF cPg cDF cD aE cP : Addr) : Prop extends Wp K mg cPF cPg cDF cD aE cP where
  n_dict : mg "dict" = none
  d__law_told : FnP K mg "_law_told" s__law_told
  d__law_page : FnP K mg "_law_page" s__law_page
  d__law_same : FnP K mg "_law_same" s__law_same
  x_PP : PySem.W.exmOne K (.ref cPF) (.ref cPF) = some true
/-! cells as data -/
def celD (c : Cel) : PyData := .tuple [.tuple (c.1.map PyData.int), .tuple (c.2.map PyData.int)]
theorem fine_cel (c : Cel) : Fine 2 (celD c) := Fine.tup fun d hd => by
  rcases List.mem_cons.mp hd with rfl | hd
  · exact fine_ints _
  · rw [List.mem_singleton.mp hd]; exact fine_ints _
theorem fine_cels (cs : List Cel) : Fine 3 (.tuple (cs.map celD)) := Fine.tup fun d hd => by
  obtain ⟨c, _, rfl⟩ := List.mem_map.mp hd
  exact fine_cel c
theorem fine_page (k l : Int) (cs : List Cel) : Fine 4 (.tuple [.int k, .int l, .tuple (cs.map celD)]) := Fine.tup fun d hd => by
  rcases List.mem_cons.mp hd with rfl | hd
  · exact (Fine.int _).le (by decide)
  · rcases List.mem_cons.mp hd with rfl | hd
    · exact (Fine.int _).le (by decide)
    · rw [List.mem_singleton.mp hd]; exact fine_cels cs
section
variable {P : Program} {w : World} {K : PySem.W.Frag} {mg : Str → Option Value} {base : Heap} {cPF cPg cDF cD aE cP : Addr}
theorem dp_cel {H : Hp} {z : Addr} {c : Cel} (h : CelO K H z c) : Dp K H (.ref z) (celD c) := by
  obtain ⟨ka, va, h1, h2, h3⟩ := h
  exact .tup h1 (.cons (.tup h2 (dp_ints _)) (.cons (.tup h3 (dp_ints _)) .nil))
theorem dp_cels {H : Hp} : ∀ {zs : List Addr} {cs : List Cel}, CelsO K H zs cs → DpAll K H (zs.map V.ref) (cs.map celD)
  | _, _, .nil => .nil
  | _, _, .cons h r => .cons (dp_cel h) (dp_cels r)
theorem page_byt {k l : Int} {cs : List Cel} {n : Nat} (hk : 1 ≤ k ∧ k ≤ 4) (h : ∀ c ∈ cs, Byt c.1 ∧ Byt c.2) : Byt (pageB k l cs n) := by
  have hc : Byt (cellsB cs) := flat_byt fun c hc => byt_app (fixed_byt _ _) (byt_app (fixed_byt _ _) (byt_app (h c hc).1 (h c hc).2))
  refine byt_app (byt_app (byt_cons (by omega) (byt_app (fixed_byt _ _) (fixed_byt _ _))) (byt_app hc fun b hb => ?_)) (fixed_byt _ _)
  rw [(List.mem_replicate.mp hb).2]
  decide
/-- two pages of the same content -/
def spSame (K : PySem.W.Frag) (cPg : Addr) : Sp := fun vs H Q _ => ∃ (p q : Addr) (c : Pgc), vs = [.ref p, .ref q] ∧ PgC K cPg H p c ∧ PgC K cPg H q c ∧ ∀ H', Same H H' → Q (.bl true) H'
theorem ok__law_same (W : Wz K mg cPF cPg cDF cD aE cP) (c_Page_shown : Me P w K mg base 1 cPg "shown" (spShown K cPg)) : Cl P w K mg base 2 "_law_same" (spSame K cPg) := by
  refine cl_mk W.d__law_same sc__law_same (fun _ _ _ _ _ _ us hl => match us, hl with | [_, _], _ => rfl) (fun vs H Q E h => ?_) (fun f cdv A outer s H vs Q E hr h => ?_)
  · obtain ⟨p, q, c, rfl, _⟩ := h; rfl
  obtain ⟨p, q', c, rfl, hp, hq, q⟩ := h
  refine ⟨_, (pss_one (ps_ret (pe_cmpR (op_eqD (hu64 hr)) (pe_me0 c_Page_shown hr (by decide) passL (pv 0)) (pe_me0 c_Page_shown hr (by decide) passL (pv 1)) (nomark _)))), ?_⟩
  walk_at "g"
  obtain ⟨dx, t, zs, h1, _⟩ := id hp
  refine ⟨p, dx, _, rfl, h1, pg_m _ _ _ (by decide +kernel) (by decide +kernel) (by decide +kernel), ?_⟩
  walk_at "g"
  refine ⟨p, c.1, c.2.1, c.2.2, rfl, hp, fun q1 t1 zs1 H1 s1 e1 f1 c1 => ?_⟩
  replace hq : PgC K cPg H1 q' c := PgO.sm hq s1
  obtain ⟨dx, t, zs, h2, _⟩ := id hq
  walk_at "g"
  refine ⟨q', dx, _, rfl, h2, pg_m _ _ _ (by decide +kernel) (by decide +kernel) (by decide +kernel), ?_⟩
  walk_at "g"
  refine ⟨q', c.1, c.2.1, c.2.2, rfl, hq, fun q2 t2 zs2 H2 s2 e2 f2 c2 => ?_⟩
  refine w_eqSame (ds := [.int c.1, .int c.2.1, .tuple (c.2.2.map celD)]) (SqT.of (s2 _ _ e1)) (SqT.of e2) (.cons (.int _) (.cons (.int _) (.cons (.tup (SqT.of (s2 _ _ f1)) (dp_cels (CelsO.sm s2 c1))) .nil)))
    (.cons (.int _) (.cons (.int _) (.cons (.tup (SqT.of f2) (dp_cels c2)) .nil))) (fine_page c.1 c.2.1 c.2.2) (by decide) ?_
  exact q H2 (s1.trans s2)
/-- a new page of the law's -/
def spLPage (K : PySem.W.Frag) (cPg : Addr) : Sp := fun vs H Q _ => ∃ d : Addr, vs = [.ref d] ∧ Dice H d ∧ ∀ (p : Addr) (H' : Hp) (c : Pgc), Kp d H H' → Dice H' d → PgC K cPg H' p c → Pok c → Q (.ref p) H'
theorem ok__law_page (W : Wz K mg cPF cPg cDF cD aE cP) (c__law_roll : Cl P w K mg base 1 "_law_roll" spRoll) (c_Page : Mc P w K mg base 1 "Page" cPg (spInit K cPg)) : Cl P w K mg base 3 "_law_page" (spLPage K cPg) := by
  refine cl_mk W.d__law_page sc__law_page (fun _ _ _ _ _ _ us hl => match us, hl with | [_], _ => rfl) (fun vs H Q E h => ?_) (fun f cdv A outer s H vs Q E hr h => ?_)
  · obtain ⟨d, rfl, _⟩ := h; rfl
  obtain ⟨d, rfl, dd, q⟩ := h
  refine ⟨_, (pss_one (ps_ret (pe_mc c_Page hr (by decide) rfl passL (pa_cons pe_int (pa_cons (pe_cl c__law_roll hr (by decide) rfl passL (pa_cons (pv 0) (pa_cons pe_int pa_nil))) (pa_cons (pe_lst (pa_cons (pe_tup (pa_cons (pe_tup (pa_cons (pe_cl c__law_roll hr (by decide) rfl passL (pa_cons (pv 0) (pa_cons pe_int pa_nil))) pa_nil)) (pa_cons (pe_callTy call_tuple_of rfl W.n_tuple (by decide +kernel) (pa_cons (pe_op op_rep (pe_lst (pa_cons (pe_cl c__law_roll hr (by decide) rfl passL (pa_cons (pv 0) (pa_cons pe_int pa_nil))) pa_nil)) (pe_cl c__law_roll hr (by decide) rfl passL (pa_cons (pv 0) (pa_cons pe_int pa_nil)))) pa_nil)) pa_nil))) pa_nil)) pa_nil)))))), ?_⟩
  walk_at "g"
  refine w_roll (by decide) (by decide) (Kp.refl d H) dd fun l H1 l0 l1 k1 _ d1 => ?_
  clear dd
  walk_at "g"
  refine w_roll (by decide) (by decide) k1 d1 fun a H2 a0 a1 k2 _ d2 => ?_
  clear k1 d1
  walk_at "g"
  intro ka hka
  obtain ⟨k3, k3', d3, n3, f3, e3⟩ := newl (o := .tup [.int a]) k2 d2 hka rfl
  generalize upd H2 ka (.tup [.int a]) = H3 at k3 k3' d3 e3
  clear k2 d2 k3'
  walk_at "g"
  refine w_roll (by decide) (by decide) (Kp.refl d H3) d3 fun b H4 b0 b1 k4 _ d4 => ?_
  replace e3 := tup_tk e3 (Tk.kp k4 d3)
  replace k3 := k3.trans k4
  clear k4 d3
  walk_at "g"
  intro La hLa
  obtain ⟨k5, k5', d5, n5, f5, e5⟩ := newl (o := .lst [.int b]) k3 d4 hLa rfl
  generalize upd H4 La (.lst [.int b]) = H5 at k5 k5' d5 e5
  replace e3 := k5' _ _ n3 e3
  walk_at "g"
  refine w_roll (by decide) (by decide) (Kp.refl d H5) d5 fun m H6 m0 m1 k6 k6' d6 => ?_
  replace e3 := tup_tk e3 (Tk.kp k6 d5)
  replace e5 := k6 _ _ n5 e5
  replace k5 := k5.trans k6
  clear k6 k6' k5' d5 k3 d4
  obtain ⟨m, rfl⟩ := Int.eq_ofNat_of_zero_le m0
  refine ⟨La, _, _, rfl, rfl, e5, by omega, by omega, ?_, fun Y hY => ?_⟩
  · rw [Int.toNat_natCast]
    exact Nat.le_trans (by show 1 * m ≤ 9; omega) (by decide)
  rw [rep_one, Int.toNat_natCast, ← List.map_replicate (f := V.int)]
  obtain ⟨k7, k7', d7, n7, f7, e7⟩ := newl (o := .lst ((List.replicate m b).map V.int)) k5 d6 hY rfl
  generalize upd H6 Y (.lst ((List.replicate m b).map V.int)) = H7 at k7 k7' d7 e7
  replace e3 := k7' _ _ n3 e3
  walk_at "g"
  refine ⟨Y, _, rfl, .inl ⟨SqL.of e7, fun vb hvb => ?_⟩⟩
  obtain ⟨k8, k8', d8, n8, f8, e8⟩ := newl (o := .tup ((List.replicate m b).map V.int)) k7 d7 hvb rfl
  generalize upd H7 vb (.tup ((List.replicate m b).map V.int)) = H8 at k8 k8' d8 e8
  replace e3 := k8' _ _ n3 e3
  walk_at "g"
  intro z hz
  obtain ⟨k9, k9', d9, n9, f9, e9⟩ := newl (o := .tup [.ref ka, .ref vb]) k8 d8 hz rfl
  generalize upd H8 z (.tup [.ref ka, .ref vb]) = H9 at k9 k9' d9 e9
  replace e3 := k9' _ _ n3 e3
  replace e8 := k9' _ _ n8 e8
  walk_at "g"
  intro Lz hLz
  obtain ⟨k10, k10', d10, n10, f10, e10⟩ := newl (o := .lst [.ref z]) k9 d9 hLz rfl
  generalize upd H9 Lz (.lst [.ref z]) = H10 at k10 k10' d10 e10
  replace e3 := k10' _ _ n3 e3
  replace e8 := k10' _ _ n8 e8
  replace e9 := k10' _ _ n9 e9
  clear k5 d6 k7 k7' d7 k8 k8' d8 k9 k9' d9 k10'
  walk_at "g"
  intro x dx hx hdx ne
  have sn : Same H10 (upd (upd H10 dx (.own x)) x (.ins cPg dx [])) := (same_new hdx _).trans (same_new (by rw [upd_ne ne.symm]; exact hx) _)
  have cc : CelsO K H10 [z] [([a], List.replicate m b)] := .cons ⟨ka, vb, SqT.of e9, SqT.of e3, SqT.of e8⟩ .nil
  refine ⟨x, dx, Lz, 2, l, [z], [([a], List.replicate m b)], rfl, upd_same, SqL.of (sn _ _ e10), CelsO.sm sn cc, (by show 1 ≤ 70000; decide), fun t ys H11 kp ex et cy => ⟨rfl, ?_⟩⟩
  have sm : Same H10 H11 := fun b o eb => kp b o (fun z => by rw [z, hx] at eb; cases eb) (sn b o eb)
  refine q x H11 (2, l, [([a], List.replicate m b)]) (k10.trans (Kp.of sm)) (Dice.sm d10 sm) ⟨dx, t, ys, ex, et, cy⟩ ⟨(by show (1 : Int) ≤ 2 ∧ (2 : Int) ≤ 4; decide), ⟨l0, Int.lt_trans l1 (by decide)⟩, ?_, fun c hc => ?_, page_byt (by show (1 : Int) ≤ 2 ∧ (2 : Int) ≤ 4; decide) fun c hc => ?_⟩
  · show sizeL [([a], List.replicate m b)] ≤ 96
    unfold sizeL
    simp only [List.map_cons, List.map_nil, List.sum_cons, List.sum_nil, List.length_cons, List.length_nil, List.length_replicate]
    omega
  · rw [List.mem_singleton.mp hc]
    exact ⟨(by show 1 < 65536; decide), by show (List.replicate m b).length < 65536; rw [List.length_replicate]; omega⟩
  · rw [List.mem_singleton.mp hc]
    refine ⟨fun y hy => ?_, fun y hy => ?_⟩
    · rw [List.mem_singleton.mp hy]
      exact ⟨a0, Int.lt_trans a1 (by decide)⟩
    · rw [(List.mem_replicate.mp hy).2]
      exact ⟨b0, Int.lt_trans b1 (by decide)⟩
end
end K11
end

section
-- part K11Z0
set_option Elab.async false
set_option linter.all false
set_option maxRecDepth 100000
set_option maxHeartbeats 800000
open PySem PySem.Spec PyProof.Rows L2 Fw
local macro_rules | `(tactic| walk_at "e1") => `(tactic| first
  | ((with_reducible refine' w_var ?hv ?_); (case hv => rfl))
  | with_reducible refine w_c ?_
  | with_reducible refine w_op ?_
  | with_reducible refine w_un ?_
  | with_reducible refine w_cons ?_
  | with_reducible refine w_nil ?_
  | with_reducible refine w_cl ?_
  | with_reducible refine w_cb ?_
  | with_reducible refine w_gname ?_
  | with_reducible refine w_gsub ?_
  | with_reducible refine w_test ?_
  | with_reducible refine w_B ?_
  | with_reducible refine w_bl ?_
  | with_reducible refine w_and ?_
  | with_reducible refine w_or ?_
  | with_reducible refine w_not ?_
  | with_reducible refine w_if ?_
  | with_reducible refine w_I0 ?_
  | with_reducible refine Gk.w_rU ?_
  | with_reducible refine Dq.w_orV ?_
  | with_reducible refine Dq.w_js ?_
  | with_reducible refine Dq.w_js0 ?_
  | with_reducible refine Dq.w_fm ?_
  | with_reducible refine Dq.w_andV ?_
  | with_reducible refine Gk.w_iEnum ?_
  | with_reducible refine Dq.w_dget ?_
  | with_reducible refine Dq.w_dpop1 ?_
  | with_reducible refine Dq.w_ddel ?_
  | with_reducible refine Dq.w_din ?_
  | with_reducible refine Dq.w_dnotin ?_
  | with_reducible refine Dq.w_dget2 ?_
  | with_reducible refine Dq.w_dnew ?_
  | with_reducible refine Dq.w_fldaug ?_
  | with_reducible refine Dq.w_aSub ?_
  | with_reducible refine Dq.w_aAdd ?_
  | with_reducible refine Dq.w_mkd ?_
  | with_reducible refine Dq.w_notN0 ?_
  | with_reducible refine Dq.w_isN0 ?_
  | with_reducible refine Dq.w_notNR ?_
  | with_reducible refine Dq.w_isNR ?_
  | with_reducible refine Dq.w_notNI ?_
  | with_reducible refine Dq.w_isNI ?_
  | with_reducible refine L2.w_neOs ?_
  | with_reducible refine w_ipI ?_
  | with_reducible refine w_eqS ?_
  | with_reducible refine w_neS ?_
  | with_reducible refine w_eqI ?_
  | with_reducible refine w_neI ?_
  | with_reducible refine w_eqB ?_
  | with_reducible refine w_neB ?_
  | ((with_reducible refine w_eq ?hs ?_); (case hs => rfl))
  | ((with_reducible refine w_ne ?hs ?_); (case hs => rfl))
  | with_reducible refine w_fld ?_
  | with_reducible refine w_bm ?_
  | with_reducible refine w_bm0 ?_
  | with_reducible refine w_sl ?_
  | with_reducible refine w_part ?_
  | with_reducible refine w_partI ?_
  | with_reducible refine w_nopart ?_
  | ((with_reducible refine' w_ixL ?hh ?ha ?_); (case hh => first | assumption | exact upd_same); (case ha => rfl))
  | ((with_reducible refine' w_setLu ?ha ?_); (case ha => rfl))
  | ((with_reducible refine' w_setL ?hh ?ha ?_); (case hh => first | assumption | exact upd_same); (case ha => rfl))
  | with_reducible refine w_iteT ?_
  | with_reducible refine w_iteF ?_
  | with_reducible refine w_lst ?_
  | with_reducible refine w_tup ?_
  | ((with_reducible refine w_new ?hz ?_); (case hz => rfl))
  | with_reducible refine w_lc ?_
  | with_reducible refine w_iL ?_
  | with_reducible refine w_iT ?_
  | with_reducible refine w_iR1 ?_
  | with_reducible refine w_iR2 ?_
  | with_reducible refine w_yes ?_
  | with_reducible refine w_iStr ?_
  | with_reducible exact tyS
  | with_reducible refine And.intro tyS ?_
  | ((with_reducible refine w_find3 ?_); (first | rw [find3_one] | rw [starts3] | skip))
  | ((with_reducible refine w_2s ?_); (try rw [find_one]))
  | ((with_reducible refine w_inS ?_); rw [S_list])
  | ((with_reducible refine w_lenS ?hz ?_); (case hz => first | assumption | omega | decide); rw [SX.S_len])
  | ((with_reducible refine w_addS ?hz ?_); (case hz => first | assumption | omega | decide); rw [vS_cat])
  | with_reducible refine w_mk ?_
  | with_reducible refine w_me ?_
  | with_reducible refine w_sfld ?_
  | ((with_reducible refine' w_gtup ?hh ?hn ?_); (case hh => first | assumption | exact upd_same); (case hn => rfl))
  | with_reducible refine w_gcons ?_
  | with_reducible refine w_gnil ?_
  | with_reducible refine w_repl ?_
  | with_reducible refine w_star ?_
  | with_reducible refine w_revL ?_
  | with_reducible refine w_isiS ?_
  | with_reducible refine w_isiI ?_
  | with_reducible refine w_isiN ?_
  | with_reducible refine w_chain ?_
  | with_reducible refine w_iEnumT ?_
  | with_reducible refine w_iZip3 ?_
  | with_reducible refine w_iZip ?_
  | with_reducible refine w_lenR3 ?_
  | with_reducible refine w_x1i ?_
  | with_reducible refine w_x1b ?_
  | with_reducible refine w_x1s ?_
  | with_reducible refine w_int1i ?_
  | with_reducible refine w_int1b ?_
  | ((with_reducible refine w_mod ?hc ?_); (case hc => omega))
  | ((with_reducible refine w_fdivW ?hc ?hd ?_); (case hc => omega); (case hd => omega))
  | ((with_reducible refine w_mul ?hc ?_); (case hc => first | exact Or.inr ⟨by decide, by decide⟩ | exact Or.inl ⟨by decide, by decide⟩))
  | ((with_reducible refine w_pow ?hc ?_); (case hc => exact ⟨by decide, by decide, by decide⟩)))
local macro_rules | `(tactic| walk_at "f1") => `(tactic| first
  | ((with_reducible refine' K11.g_disk ?hW ?hK ?hs ?hx ?_); (case hW => assumption); (case hK => rfl); (case hs => rfl); (case hx => first | assumption | exact upd_same))
  | ((with_reducible refine' K11.g_capacity ?hW ?hK ?hs ?hx ?_); (case hW => assumption); (case hK => rfl); (case hs => rfl); (case hx => first | assumption | exact upd_same))
  | ((with_reducible refine' K11.g_pages ?hW ?hK ?hs ?hx ?_); (case hW => assumption); (case hK => rfl); (case hs => rfl); (case hx => first | assumption | exact upd_same))
  | ((with_reducible refine' K11.g_changed ?hW ?hK ?hs ?hx ?_); (case hW => assumption); (case hK => rfl); (case hs => rfl); (case hx => first | assumption | exact upd_same))
  | ((with_reducible refine' K11.g_open_group ?hW ?hK ?hs ?hx ?_); (case hW => assumption); (case hK => rfl); (case hs => rfl); (case hx => first | assumption | exact upd_same))
  | ((with_reducible refine' K11.g_parts ?hW ?hK ?hs ?hx ?_); (case hW => assumption); (case hK => rfl); (case hs => rfl); (case hx => first | assumption | exact upd_same))
  | ((with_reducible refine' K11.g_reads ?hW ?hK ?hs ?hx ?_); (case hW => assumption); (case hK => rfl); (case hs => rfl); (case hx => first | assumption | exact upd_same))
  | ((with_reducible refine' K11.g_writes ?hW ?hK ?hs ?hx ?_); (case hW => assumption); (case hK => rfl); (case hs => rfl); (case hx => first | assumption | exact upd_same))
  | ((with_reducible refine' K11.g_block_size ?hW ?hK ?hs ?hx ?_); (case hW => assumption); (case hK => rfl); (case hs => rfl); (case hx => first | assumption | exact upd_same))
  | ((with_reducible refine' K11.g_blocks ?hW ?hK ?hs ?hx ?_); (case hW => assumption); (case hK => rfl); (case hs => rfl); (case hx => first | assumption | exact upd_same))
  | ((with_reducible refine' K11.g_log ?hW ?hK ?hs ?hx ?_); (case hW => assumption); (case hK => rfl); (case hs => rfl); (case hx => first | assumption | exact upd_same))
  | ((with_reducible refine' K11.g_waiting ?hW ?hK ?hs ?hx ?_); (case hW => assumption); (case hK => rfl); (case hs => rfl); (case hx => first | assumption | exact upd_same))
  | ((with_reducible refine' K11.g_written ?hW ?hK ?hs ?hx ?_); (case hW => assumption); (case hK => rfl); (case hs => rfl); (case hx => first | assumption | exact upd_same))
  | ((with_reducible refine' K11.g_log_tail ?hW ?hK ?hs ?hx ?_); (case hW => assumption); (case hK => rfl); (case hs => rfl); (case hx => first | assumption | exact upd_same))
  | ((with_reducible refine' K11.g_fuse ?hW ?hK ?hs ?hx ?_); (case hW => assumption); (case hK => rfl); (case hs => rfl); (case hx => first | assumption | exact upd_same))
  | ((with_reducible refine' K11.g_dead ?hW ?hK ?hs ?hx ?_); (case hW => assumption); (case hK => rfl); (case hs => rfl); (case hx => first | assumption | exact upd_same))
  | ((with_reducible refine' K11.g_steps ?hW ?hK ?hs ?hx ?_); (case hW => assumption); (case hK => rfl); (case hs => rfl); (case hx => first | assumption | exact upd_same))
  | walk_at "e1")
local macro_rules | `(tactic| walk_at "s1") => `(tactic| first
  | with_reducible refine w_seq ?_
  | with_reducible refine w_asg ?_
  | with_reducible refine w_ret ?_
  | with_reducible refine w_par ?_
  | with_reducible refine w_drop ?_
  | with_reducible refine w_next ?_
  | with_reducible refine w_ifs ?_
  | ((with_reducible refine' w_aug ?hv ?_); (case hv => rfl))
  | with_reducible refine w_for ?_
  | walk_at "f1")
local macro_rules | `(tactic| walk_at "e") => `(tactic| repeat walk_at "e1")
local macro_rules | `(tactic| walk_at "g") => `(tactic| repeat walk_at "s1")

namespace K11
open Dc Gk M5 M10 M8 M11 LamX
/-! ### the law's own objects -/
structure Good (T : List (Addr × Str)) (p : Addr) (ds : List Addr) (H : Hp) : Prop where
  lst : H p = some (.lst (ds.map V.ref))
  dice : ∀ d ∈ ds, Dice H d
  tab : Tabs T H
theorem Good.ne {T : List (Addr × Str)} {p d : Addr} {ds : List Addr} {H : Hp} (g : Good T p ds H) (hd : d ∈ ds) : p ≠ d := fun n => by
  obtain ⟨x, y, z, e⟩ := g.dice d hd
  have l := g.lst
  rw [n, e] at l
  cases ds with
  | nil => cases hd
  | cons b r => cases l
theorem Good.ch {T : List (Addr × Str)} {M : List Addr} {p : Addr} {ds : List Addr} {H H' : Hp} (g : Good T p ds H) (s : Ch M H H') (np : p ∉ M) (hd : ∀ e ∈ ds, e ∉ M ∨ Dice H' e) (t : Tabs T H') : Good T p ds H' := ⟨s.lst g.lst np, fun e he => (hd e he).elim (fun n => by
  obtain ⟨x, y, z, q⟩ := g.dice e he
  exact ⟨x, y, z, s.lst q n⟩) id, t⟩
section
variable {K : PySem.W.Frag} {cPg cD cP : Addr} {H H' : Hp} {T : List (Addr × Str)} {p x d : Addr} {dcs : List Addr} {cap : Int}
theorem Kps.sm (s : Same H H') : Kps K cPg H H' := ⟨fun _ _ h => PgO.sm h s, fun _ _ h => sqT_same h s⟩
theorem Kps.ex (s : ExtN H H') : Kps K cPg H H' := ⟨fun _ _ h => PgO.ex h s, fun _ _ h => sqT_ex h s⟩
theorem Kps.kp {e : Addr} (k : Kp e H H') (h : Dice H e) : Kps K cPg H H' := ⟨fun _ _ g => PgO.tk g (Tk.kp k h), fun _ _ g => sqT_tk g (Tk.kp k h)⟩
theorem Kps.dk {a : Addr} {kvs : List (Key × V)} {o : HO} (h : H a = some (.dK kvs)) : Kps K cPg H (upd H a o) := by
  have s : Cs [a] H (upd H a o) := (Cs.refl _ _).wr mem1 h trivial
  refine ⟨fun b c g => PgO.ch g s.ch fun z => ?_, fun _ _ g => s.ch.sqT g⟩
  obtain ⟨dx, t, zs, h1, _⟩ := g
  rw [List.mem_singleton.mp z, h] at h1
  cases h1
theorem Kps.trans {H1 : Hp} (a : Kps K cPg H H1) (b : Kps K cPg H1 H') : Kps K cPg H H' := ⟨fun q c h => b.p q c (a.p q c h), fun q xs h => b.t q xs (a.t q xs h)⟩
/-- what a dict of pages holds -/
def CoD (K : PySem.W.Frag) (cPg : Addr) (H : Hp) (kvs : List (Key × V)) (f : Cont) (N : Nat) : Prop := ∀ n : Nat, n < N → ∃ (q : Addr) (c : Pgc), valV kvs (.inl (n : Int)) = some (.ref q) ∧ f (n : Int) = some c ∧ PgC K cPg H q c
theorem CoD.kps {kvs : List (Key × V)} {f : Cont} {N : Nat} (h : CoD K cPg H kvs f N) (s : Kps K cPg H H') : CoD K cPg H' kvs f N := fun n hn => by
  obtain ⟨q, c, h1, h2, h3⟩ := h n hn
  exact ⟨q, c, h1, h2, s.p _ _ h3⟩
/-- since a page's mark no write of it waits -/
def Mk (D : DS) (mk : List (Key × V)) (grp : List Int) : Prop := ∀ n ∈ grp, ∃ m : Nat, valV mk (.inl n) = some (.int (m : Int)) ∧ m ≤ D.ws.length ∧ ∀ q ∈ D.ws.drop m, q.1 ≠ n
theorem Mk.tr {S S' : PS} {D D' : DS} {mk : List (Key × V)} {grp : List Int} (h : Mk D mk grp) (t : Tr S D S' D') (hg : ∀ n ∈ grp, (valV S.og (.inl n)).isSome = true) : Mk D' mk grp := fun n hn => by
  obtain ⟨m, h1, h2, h3⟩ := h n hn
  obtain ⟨zs, z1, z2⟩ := t.ws
  refine ⟨m, h1, by rw [z1, List.length_append]; omega, fun q hq e => ?_⟩
  rw [z1, List.drop_append_of_le_length h2] at hq
  rcases List.mem_append.mp hq with hq | hq
  · exact h3 q hq e
  · have := hg n hn
    rw [← e, (z2 q hq).1] at this
    cases this
/-- the law's own objects, all of them foreign to M -/
structure Rs (T : List (Addr × Str)) (p : Addr) (dcs : List Addr) (H : Hp) (M : List Addr) (nA kA mA gA : Addr) (nk kk mk : List (Key × V)) (grp : List Int) : Prop where
  good : Good T p dcs H
  n1 : H nA = some (.dK nk)
  k1 : H kA = some (.dK kk)
  m1 : H mA = some (.dK mk)
  g1 : H gA = some (.lst (grp.map V.int))
  fr : nA ∉ M ∧ kA ∉ M ∧ mA ∉ M ∧ gA ∉ M ∧ p ∉ M
  fd : ∀ e ∈ dcs, e ∉ M
  ne : nA ≠ kA ∧ nA ≠ mA ∧ kA ≠ mA
  gd : ∀ e ∈ dcs, gA ≠ e
section
variable {M N : List Addr} {nA kA mA gA : Addr} {nk kk mk : List (Key × V)} {grp : List Int}
theorem Rs.mv (h : Rs T p dcs H M nA kA mA gA nk kk mk grp) (s : Ch N H H') (f : nA ∉ N ∧ kA ∉ N ∧ mA ∉ N ∧ gA ∉ N ∧ p ∉ N) (hd : ∀ e ∈ dcs, e ∉ N ∨ Dice H' e) (t : Tabs T H') : Rs T p dcs H' M nA kA mA gA nk kk mk grp :=
  ⟨h.good.ch s f.2.2.2.2 hd t, s.dk h.n1 f.1, s.dk h.k1 f.2.1, s.dk h.m1 f.2.2.1, s.lst h.g1 f.2.2.2.1, h.fr, h.fd, h.ne, h.gd⟩
theorem Rs.deed {L L' : Ad} (h : Rs T p dcs H (L.all x d) nA kA mA gA nk kk mk grp) (s : Ch (L.all x d) H H') (t : Tabs T H') (nw : Nw H x d L L') : Rs T p dcs H' (L'.all x d) nA kA mA gA nk kk mk grp := by
  have q := h.mv s h.fr (fun e he => .inl (h.fd e he)) t
  have k : ∀ {a o}, H a = some o → a ∉ L.all x d → a ∉ L'.all x d := fun e n z => (nw _ z).elim n fun w => by rw [e] at w; cases w
  obtain ⟨f1, f2, f3, f4, f5⟩ := h.fr
  refine ⟨q.good, q.n1, q.k1, q.m1, q.g1, ⟨k h.n1 f1, k h.k1 f2, k h.m1 f3, k h.g1 f4, k h.good.lst f5⟩, fun e he => ?_, h.ne, h.gd⟩
  obtain ⟨u, v, w, z⟩ := h.good.dice e he
  exact k z (h.fd e he)
end
structure Zs where
  L : Ad
  S : PS
  D : DS
  now : Cont
  kept : Cont
  ln : Cont
  nA : Addr
  kA : Addr
  mA : Addr
  gA : Addr
  nk : List (Key × V)
  kk : List (Key × V)
  mz : List (Key × V)
  N : Nat
  M : Nat
  grp : List Int
structure St (K : PySem.W.Frag) (cPg cD cP : Addr) (T : List (Addr × Str)) (p : Addr) (dcs : List Addr) (x d : Addr) (cap : Int) (H : Hp) (z : Zs) : Prop where
  sy : Sys K cD cP H x d cap z.L z.S z.D
  pi : PI K cPg H z.S z.D z.now z.kept
  rs : Rs T p dcs H (z.L.all x d) z.nA z.kA z.mA z.gA z.nk z.kk z.mz z.grp
  cn : CoD K cPg H z.nk z.ln z.N
  ck : CoD K cPg H z.kk z.kept z.M
  kn : K5 z.nk ∧ (z.nk.map (·.1)).Nodup
  km : K5 z.mz ∧ (z.mz.map (·.1)).Nodup
  ki : K5 z.kk ∧ (z.kk.map (·.1)).Nodup
  rd : 0 ≤ z.S.rd
  sz : SzI cap z.S
section
variable {z : Zs}
theorem St.mv {N : List Addr} (h : St K cPg cD cP T p dcs x d cap H z) (s : Ch N H H') (f : z.nA ∉ N ∧ z.kA ∉ N ∧ z.mA ∉ N ∧ z.gA ∉ N ∧ p ∉ N) (hL : ∀ a ∈ z.L.all x d, a ∉ N) (hd : ∀ e ∈ dcs, e ∉ N ∨ Dice H' e) (t : Tabs T H') (kp : Kps K cPg H H') : St K cPg cD cP T p dcs x d cap H' z :=
  ⟨h.sy.cho s hL, h.pi.kps kp, h.rs.mv s f hd t, h.cn.kps kp, h.ck.kps kp, h.kn, h.km, h.ki, h.rd, h.sz⟩
theorem St.sm (h : St K cPg cD cP T p dcs x d cap H z) (s : Same H H') : St K cPg cD cP T p dcs x d cap H' z :=
  h.mv (N := []) (Ch.of s) (by simp) (fun _ _ => List.not_mem_nil) (fun _ _ => .inl List.not_mem_nil) (h.rs.good.tab.ext s) (Kps.sm s)
theorem St.ex (h : St K cPg cD cP T p dcs x d cap H z) (s : ExtN H H') (t : Tabs T H') : St K cPg cD cP T p dcs x d cap H' z :=
  h.mv (N := []) (Ch.ex s) (by simp) (fun _ _ => List.not_mem_nil) (fun _ _ => .inl List.not_mem_nil) t (Kps.ex s)
theorem St.kp {e : Addr} (h : St K cPg cD cP T p dcs x d cap H z) (he : e ∈ dcs) (k : Kp e H H') (hd : Dice H' e) : St K cPg cD cP T p dcs x d cap H' z := by
  have d0 := h.rs.good.dice e he
  obtain ⟨u, v, w, e0⟩ := id d0
  have c := Cs.kp k d0
  have n : ∀ {a}, a ≠ e → a ∉ [e] := fun h z => h (List.mem_singleton.mp z)
  refine h.mv c.ch ⟨n (ne_of h.rs.n1 e0 (fun z => by cases z)), n (ne_of h.rs.k1 e0 (fun z => by cases z)), n (ne_of h.rs.m1 e0 (fun z => by cases z)), n (h.rs.gd e he), n (h.rs.good.ne he)⟩ (fun a ha => n fun y => h.rs.fd e he (y ▸ ha)) (fun b hb => ?_) (M11.Tabs.cs h.rs.good.tab c) (Kps.kp k d0)
  by_cases y : b = e
  · exact .inr (y ▸ hd)
  · exact .inl (n y)
/-- after a deed of the pool -/
theorem St.after {L' : Ad} (h : St K cPg cD cP T p dcs x d cap H z) (s : Ch (z.L.all x d) H H') (t : Tabs T H') (nw : Nw H x d z.L L') : Rs T p dcs H' (L'.all x d) z.nA z.kA z.mA z.gA z.nk z.kk z.mz z.grp ∧ Kps K cPg H H' := ⟨h.rs.deed s t nw, Kps.of h.sy s⟩
/-- one of the law's dicts is another one -/
theorem St.dk {a : Addr} {u kvs : List (Key × V)} (h : St K cPg cD cP T p dcs x d cap H z) (e : H a = some (.dK u)) (f : a ∉ z.L.all x d) : Ch [a] H (upd H a (.dK kvs)) ∧ Kps K cPg H (upd H a (.dK kvs)) ∧ Tabs T (upd H a (.dK kvs)) ∧ Sys K cD cP (upd H a (.dK kvs)) x d cap z.L z.S z.D ∧ Good T p dcs (upd H a (.dK kvs)) ∧ (z.gA ∉ [a]) := by
  have c : Cs [a] H (upd H a (.dK kvs)) := (Cs.refl _ _).wr mem1 e trivial
  have n : ∀ {b}, b ≠ a → b ∉ [a] := fun h z => h (List.mem_singleton.mp z)
  have t := M11.Tabs.cs h.rs.good.tab c
  refine ⟨c.ch, Kps.dk e, t, h.sy.cho c.ch fun b hb => n fun y => f (y ▸ hb), h.rs.good.ch c.ch (n (ne_of h.rs.good.lst e (fun z => by cases z))) (fun b hb => ?_) t, n (ne_of h.rs.g1 e (fun z => by cases z))⟩
  obtain ⟨u, v, w, e0⟩ := h.rs.good.dice b hb
  exact .inl (n (ne_of e0 e (fun z => by cases z)))
theorem St.setN {kvs : List (Key × V)} {f : Cont} {N : Nat} (h : St K cPg cD cP T p dcs x d cap H z) (h5 : K5 kvs) (hn : (kvs.map (·.1)).Nodup) (hc : CoD K cPg H kvs f N) : St K cPg cD cP T p dcs x d cap (upd H z.nA (.dK kvs)) { z with nk := kvs, ln := f, N := N } := by
  obtain ⟨c, kp, t, sy, g, ng⟩ := h.dk (kvs := kvs) h.rs.n1 h.rs.fr.1
  obtain ⟨n1, n2, n3⟩ := h.rs.ne
  have n : ∀ {b}, z.nA ≠ b → b ∉ [z.nA] := fun h z => h (List.mem_singleton.mp z).symm
  exact ⟨sy, h.pi.kps kp, ⟨g, upd_same, c.dk h.rs.k1 (n n1), c.dk h.rs.m1 (n n2), c.lst h.rs.g1 ng, h.rs.fr, h.rs.fd, h.rs.ne, h.rs.gd⟩, hc.kps kp, h.ck.kps kp, ⟨h5, hn⟩, h.km, h.ki, h.rd, h.sz⟩
theorem St.setM {kvs : List (Key × V)} (h : St K cPg cD cP T p dcs x d cap H z) (h5 : K5 kvs) (hn : (kvs.map (·.1)).Nodup) : St K cPg cD cP T p dcs x d cap (upd H z.mA (.dK kvs)) { z with mz := kvs } := by
  obtain ⟨c, kp, t, sy, g, ng⟩ := h.dk (kvs := kvs) h.rs.m1 h.rs.fr.2.2.1
  obtain ⟨n1, n2, n3⟩ := h.rs.ne
  have n : ∀ {b}, z.mA ≠ b → b ∉ [z.mA] := fun h z => h (List.mem_singleton.mp z).symm
  exact ⟨sy, h.pi.kps kp, ⟨g, c.dk h.rs.n1 (n n2.symm), c.dk h.rs.k1 (n n3.symm), upd_same, c.lst h.rs.g1 ng, h.rs.fr, h.rs.fd, h.rs.ne, h.rs.gd⟩, h.cn.kps kp, h.ck.kps kp, h.kn, ⟨h5, hn⟩, h.ki, h.rd, h.sz⟩
theorem St.nin (h : St K cPg cD cP T p dcs x d cap H z) {a : Addr} (e : H a = none) : a ∉ z.L.all x d ∧ (∀ b ∈ dcs, a ≠ b) ∧ z.nA ≠ a ∧ z.kA ≠ a ∧ z.mA ≠ a := ⟨h.sy.nin e, fun b hb => by
  obtain ⟨u, v, w, e0⟩ := h.rs.good.dice b hb
  exact (ne_of_none e0 e).symm, ne_of_none h.rs.n1 e, ne_of_none h.rs.k1 e, ne_of_none h.rs.m1 e⟩
theorem St.newG {a : Addr} {g' : List Int} (h : St K cPg cD cP T p dcs x d cap H z) (e : H a = none) (s : Same H H') (e' : H' a = some (.lst (g'.map V.int))) : St K cPg cD cP T p dcs x d cap H' { z with gA := a, grp := g' } := by
  have q := h.sm s
  obtain ⟨h1, h2, h3, h4, h5⟩ := h.nin e
  obtain ⟨f1, f2, f3, f4, f5⟩ := q.rs.fr
  exact ⟨q.sy, q.pi, ⟨q.rs.good, q.rs.n1, q.rs.k1, q.rs.m1, e', ⟨f1, f2, f3, h1, f5⟩, q.rs.fd, q.rs.ne, h2⟩, q.cn, q.ck, q.kn, q.km, q.ki, q.rd, q.sz⟩
theorem St.newK {a : Addr} (h : St K cPg cD cP T p dcs x d cap H z) (e : H a = none) (s : Same H H') (e' : H' a = some (.dK z.nk)) (hk : z.kept = z.ln) : St K cPg cD cP T p dcs x d cap H' { z with kA := a, kk := z.nk, M := z.N } := by
  have q := h.sm s
  obtain ⟨h1, h2, h3, h4, h5⟩ := h.nin e
  obtain ⟨f1, f2, f3, f4, f5⟩ := q.rs.fr
  obtain ⟨n1, n2, n3⟩ := q.rs.ne
  exact ⟨q.sy, q.pi, ⟨q.rs.good, q.rs.n1, e', q.rs.m1, q.rs.g1, ⟨f1, h1, f3, f4, f5⟩, q.rs.fd, ⟨h3, n2, h5.symm⟩, q.rs.gd⟩, q.cn, by show CoD K cPg H' z.nk z.kept z.N; rw [hk]; exact q.cn, q.kn, q.km, q.kn, q.rd, q.sz⟩
theorem St.newN {a : Addr} (h : St K cPg cD cP T p dcs x d cap H z) (e : H a = none) (s : Same H H') (e' : H' a = some (.dK z.kk)) : St K cPg cD cP T p dcs x d cap H' { z with nA := a, nk := z.kk, ln := z.kept, N := z.M } := by
  have q := h.sm s
  obtain ⟨h1, h2, h3, h4, h5⟩ := h.nin e
  obtain ⟨f1, f2, f3, f4, f5⟩ := q.rs.fr
  obtain ⟨n1, n2, n3⟩ := q.rs.ne
  exact ⟨q.sy, q.pi, ⟨q.rs.good, e', q.rs.k1, q.rs.m1, q.rs.g1, ⟨h1, f2, f3, f4, f5⟩, q.rs.fd, ⟨h4.symm, h5.symm, n3⟩, q.rs.gd⟩, q.ck, q.ck, q.ki, q.km, q.ki, q.rd, q.sz⟩
theorem St.deed2 {L' : Ad} {S' : PS} {D' : DS} {now' kept' : Cont} {M' : Nat} (h : St K cPg cD cP T p dcs x d cap H z) (s : Ch (z.L.all x d) H H') (t : Tabs T H') (nw : Nw H x d z.L L') (sy' : Sys K cD cP H' x d cap L' S' D') (pi' : PI K cPg H' S' D' now' kept') (r : z.S.rd ≤ S'.rd) (sz : SzI cap S')
    (hk : M' = 0 ∨ (kept' = z.kept ∧ M' = z.M)) : St K cPg cD cP T p dcs x d cap H' { z with L := L', S := S', D := D', now := now', kept := kept', M := M' } := by
  obtain ⟨rs, kp⟩ := h.after s t nw
  refine ⟨sy', pi', rs, h.cn.kps kp, ?_, h.kn, h.km, h.ki, Int.le_trans h.rd r, sz⟩
  rcases hk with e | ⟨e1, e2⟩
  · show CoD K cPg H' z.kk kept' M'
    rw [e]
    exact fun n hn => absurd hn (Nat.not_lt_zero _)
  · show CoD K cPg H' z.kk kept' M'
    rw [e1, e2]
    exact h.ck.kps kp
theorem CoD.put {kvs : List (Key × V)} {f : Cont} {N N' n : Nat} {q : Addr} {c : Pgc} (h : CoD K cPg H kvs f N) (hp : PgC K cPg H q c) (hN : ∀ m, m < N' → m = n ∨ m < N) : CoD K cPg H (putK kvs (.inl (n : Int)) (.ref q)) (f.set n (some c)) N' := fun m hm => by
  by_cases e : m = n
  · subst e
    exact ⟨q, c, put_same, set_same, hp⟩
  · obtain ⟨q', c', h1, h2, h3⟩ := h m ((hN m hm).resolve_left e)
    have e2 : (m : Int) ≠ (n : Int) := by omega
    exact ⟨q', c', by rw [put_ne (inl_ne e2)]; exact h1, by rw [set_ne e2]; exact h2, h3⟩
/-- the word of the loop -/
structure Iv (K : PySem.W.Frag) (cPg cD cP : Addr) (T : List (Addr × Str)) (p : Addr) (dcs : List Addr) (x d : Addr) (cap : Int) (H : Hp) (z : Zs) (B G : Nat) : Prop where
  st : St K cPg cD cP T p dcs x d cap H z
  e : z.ln = z.now
  eN : z.N = 5
  eM : z.M = 5
  gg : ∀ n : Int, n ∈ z.grp ↔ (valV z.S.og (.inl n)).isSome = true
  mm : Mk z.D z.mz z.grp
  b : z.S.wr ≤ B
  g : z.grp.length ≤ G
variable {B G : Nat}
theorem Iv.le {B' G' : Nat} (h : Iv K cPg cD cP T p dcs x d cap H z B G) (hb : B ≤ B') (hg : G ≤ G') : Iv K cPg cD cP T p dcs x d cap H z B' G' := ⟨h.st, h.e, h.eN, h.eM, h.gg, h.mm, by have := h.b; omega, Nat.le_trans h.g hg⟩
theorem Iv.to (h : Iv K cPg cD cP T p dcs x d cap H z B G) (s : St K cPg cD cP T p dcs x d cap H' z) : Iv K cPg cD cP T p dcs x d cap H' z B G := ⟨s, h.e, h.eN, h.eM, h.gg, h.mm, h.b, h.g⟩
theorem Iv.sm (h : Iv K cPg cD cP T p dcs x d cap H z B G) (s : Same H H') : Iv K cPg cD cP T p dcs x d cap H' z B G := h.to (h.st.sm s)
theorem Iv.ex (h : Iv K cPg cD cP T p dcs x d cap H z B G) (s : ExtN H H') (t : Tabs T H') : Iv K cPg cD cP T p dcs x d cap H' z B G := h.to (h.st.ex s t)
theorem Iv.kp {e : Addr} (h : Iv K cPg cD cP T p dcs x d cap H z B G) (he : e ∈ dcs) (k : Kp e H H') (hd : Dice H' e) : Iv K cPg cD cP T p dcs x d cap H' z B G := h.to (h.st.kp he k hd)
/-- what the law holds of a page -/
theorem Iv.at_ (h : Iv K cPg cD cP T p dcs x d cap H z B G) {n : Nat} (hn : n < 5) : ∃ (q : Addr) (c : Pgc), valV z.nk (.inl (n : Int)) = some (.ref q) ∧ z.now (n : Int) = some c ∧ PgC K cPg H q c := by
  rw [← h.e]
  exact h.st.cn n (by rw [h.eN]; exact hn)
theorem Iv.page {S' : PS} {D' : DS} (h : Iv K cPg cD cP T p dcs x d cap H z B G) (s : Ch (z.L.all x d) H H') (t : Tabs T H') (sy' : Sys K cD cP H' x d cap z.L S' D') (pi' : PI K cPg H' S' D' z.now z.kept) (tr : Tr z.S z.D S' D') (og : S'.og = z.S.og) (sz : SzI cap S') :
    Iv K cPg cD cP T p dcs x d cap H' { z with S := S', D := D' } (B + 5) G := by
  have w1 := tr.w1
  have b := h.b
  refine ⟨h.st.deed2 (M' := z.M) s t Nw.refl sy' pi' tr.rd sz (.inr ⟨rfl, rfl⟩), h.e, h.eN, h.eM, fun n => ?_, h.mm.tr tr fun n hn => (h.gg n).mp hn, by show S'.wr ≤ ((B + 5 : Nat) : Int); omega, h.g⟩
  show n ∈ z.grp ↔ (valV S'.og (.inl n)).isSome = true
  rw [og]
  exact h.gg n
/-- a page was put, and the group is one longer -/
theorem Iv.put {S' : PS} {D' : DS} {n : Nat} {c : Pgc} {g : Addr} {H1 : Hp} (h : St K cPg cD cP T p dcs x d cap H z) (e : z.ln = z.now.set n (some c)) (eN : z.N = 5) (eM : z.M = 5) (gg : ∀ n : Int, n ∈ z.grp ↔ (valV z.S.og (.inl n)).isSome = true) (mk : Mk z.D z.mz z.grp) (b : z.S.wr ≤ B) (gl : z.grp.length ≤ G)
    (hm : (n : Int) ∉ z.grp → valV z.mz (.inl (n : Int)) = some (.int (z.D.ws.length : Nat))) (s : Cs (z.L.all x d) H H') (sy' : Sys K cD cP H' x d cap z.L S' D') (pi' : PI K cPg H' S' D' (z.now.set n (some c)) z.kept) (tr : Tr z.S z.D S' D')
    (ogs : ∀ m : Int, (valV S'.og (.inl m)).isSome = true ↔ m = n ∨ (valV z.S.og (.inl m)).isSome = true) (sz : SzI cap S') (fg : H' g = none) (s1 : Same H' H1) (eg : H1 g = some (.lst ((z.grp ++ [(n : Int)]).map V.int))) :
    Iv K cPg cD cP T p dcs x d cap H1 { z with S := S', D := D', now := z.now.set n (some c), gA := g, grp := z.grp ++ [(n : Int)] } (B + 5) (G + 1) := by
  have w1 := tr.w1
  have st1 := h.deed2 (M' := z.M) s.ch (M11.Tabs.cs h.rs.good.tab s) Nw.refl sy' pi' tr.rd sz (.inr ⟨rfl, rfl⟩)
  refine ⟨st1.newG fg s1 eg, e, eN, eM, fun m => ?_, fun m hm' => ?_, by show S'.wr ≤ ((B + 5 : Nat) : Int); omega, by show (z.grp ++ [(n : Int)]).length ≤ G + 1; rw [List.length_append, List.length_singleton]; omega⟩
  · show m ∈ z.grp ++ [(n : Int)] ↔ (valV S'.og (.inl m)).isSome = true
    rw [ogs, List.mem_append, List.mem_singleton, gg]
    exact or_comm
  · by_cases i : m ∈ z.grp
    · exact mk.tr tr (fun n hn => (gg n).mp hn) m i
    · have hm' : m ∈ z.grp ++ [(n : Int)] := hm'
      rcases List.mem_append.mp hm' with j | j
      · exact absurd j i
      · obtain rfl : m = (n : Int) := List.mem_singleton.mp j
        obtain ⟨zs, z1, z2⟩ := tr.ws
        refine ⟨z.D.ws.length, hm i, by show z.D.ws.length ≤ D'.ws.length; rw [z1, List.length_append]; omega, fun q hq y => ?_⟩
        have hq : q ∈ D'.ws.drop z.D.ws.length := hq
        rw [z1, List.drop_left] at hq
        have := (ogs (n : Int)).mpr (.inl rfl)
        rw [← y, (z2 q hq).2] at this
        cases this
/-- a group was closed, and both dicts and the list are new -/
theorem Iv.close {L' : Ad} {S' : PS} {D' : DS} {k g : Addr} {H1 H2 : Hp} (h : Iv K cPg cD cP T p dcs x d cap H z B G) (s : Cs (z.L.all x d) H H') (nw : Nw H x d z.L L') (sy' : Sys K cD cP H' x d cap L' S' D') (pi' : PI K cPg H' S' D' z.now z.now) (r : S'.rd = z.S.rd) (w1 : S'.wr ≤ z.S.wr + 5) (og : S'.og = []) (sz : SzI cap S')
    (fk : H' k = none) (s1 : Same H' H1) (ek : H1 k = some (.dK z.nk)) (fg : H1 g = none) (s2 : Same H1 H2) (eg : H2 g = some (.lst [])) : Iv K cPg cD cP T p dcs x d cap H2 { z with L := L', S := S', D := D', kept := z.now, kA := k, kk := z.nk, gA := g, grp := [] } (B + 5) G := by
  have b := h.b
  have st1 := h.st.deed2 (M' := 0) s.ch (M11.Tabs.cs h.st.rs.good.tab s) nw sy' pi' (by rw [r]; exact Int.le_refl _) sz (.inl rfl)
  have st2 := st1.newK fk s1 ek h.e.symm
  have st3 := st2.newG (g' := []) fg s2 eg
  have en := h.eN
  have em := h.eM
  refine ⟨?_, h.e, en, em, fun m => ?_, (fun m hm => absurd hm List.not_mem_nil), by show S'.wr ≤ ((B + 5 : Nat) : Int); omega, Nat.zero_le _⟩
  · rw [show z.M = z.N by rw [en, em]] 
    exact st3
  · show m ∈ ([] : List Int) ↔ (valV S'.og (.inl m)).isSome = true
    rw [og, valV_nil]
    exact ⟨fun z => absurd z List.not_mem_nil, fun z => absurd z Bool.false_ne_true⟩
theorem Iv.drop {L' : Ad} {S' : PS} {D' : DS} {k g : Addr} {H1 H2 : Hp} (h : Iv K cPg cD cP T p dcs x d cap H z B G) (s : Cs (z.L.all x d) H H') (nw : Nw H x d z.L L') (sy' : Sys K cD cP H' x d cap L' S' D') (pi' : PI K cPg H' S' D' z.kept z.kept) (r : S'.rd = z.S.rd) (w1 : S'.wr ≤ z.S.wr + 5) (og : S'.og = []) (sz : SzI cap S')
    (fk : H' k = none) (s1 : Same H' H1) (ek : H1 k = some (.dK z.kk)) (fg : H1 g = none) (s2 : Same H1 H2) (eg : H2 g = some (.lst [])) : Iv K cPg cD cP T p dcs x d cap H2 { z with L := L', S := S', D := D', now := z.kept, ln := z.kept, nA := k, nk := z.kk, gA := g, grp := [] } (B + 5) G := by
  have b := h.b
  have st1 := h.st.deed2 (M' := z.M) s.ch (M11.Tabs.cs h.st.rs.good.tab s) nw sy' pi' (by rw [r]; exact Int.le_refl _) sz (.inr ⟨rfl, rfl⟩)
  have st2 := st1.newN fk s1 ek
  have st3 := st2.newG (g' := []) fg s2 eg
  have en := h.eN
  have em := h.eM
  refine ⟨?_, rfl, en, em, fun m => ?_, (fun m hm => absurd hm List.not_mem_nil), by show S'.wr ≤ ((B + 5 : Nat) : Int); omega, Nat.zero_le _⟩
  · rw [show z.N = z.M by rw [en, em]]
    exact st3
  · show m ∈ ([] : List Int) ↔ (valV S'.og (.inl m)).isSome = true
    rw [og, valV_nil]
    exact ⟨fun z => absurd z List.not_mem_nil, fun z => absurd z Bool.false_ne_true⟩
theorem Iv.flush {L' : Ad} {S' : PS} {D' : DS} (h : Iv K cPg cD cP T p dcs x d cap H z B G) (s : Cs (z.L.all x d) H H') (nw : Nw H x d z.L L') (sy' : Sys K cD cP H' x d cap L' S' D') (pi' : PI K cPg H' S' D' z.now z.kept) (r : S'.rd = z.S.rd) (w1 : S'.wr ≤ z.S.wr + 5) (og0 : z.grp = []) (og : S'.og = []) (pg : S'.pg = z.S.pg) (ogz : z.S.og = []) :
    Iv K cPg cD cP T p dcs x d cap H' { z with L := L', S := S', D := D' } (B + 5) G := by
  have b := h.b
  have sz : SzI cap S' := by
    have := h.st.sz
    unfold SzI at this ⊢
    rw [pg, og, ← ogz]
    exact this
  refine ⟨h.st.deed2 (M' := z.M) s.ch (M11.Tabs.cs h.st.rs.good.tab s) nw sy' pi' (by rw [r]; exact Int.le_refl _) sz (.inr ⟨rfl, rfl⟩), h.e, h.eN, h.eM, fun m => ?_, ?_, by show S'.wr ≤ ((B + 5 : Nat) : Int); omega, h.g⟩
  · show m ∈ z.grp ↔ (valV S'.og (.inl m)).isSome = true
    rw [og0, og, valV_nil]
    exact ⟨fun z => absurd z List.not_mem_nil, fun z => absurd z Bool.false_ne_true⟩
  · show Mk D' z.mz z.grp
    rw [og0]
    exact fun m hm => absurd hm List.not_mem_nil
end
end
theorem op_notInK {X : Cx} (K0 : PySem.W.Frag) (hK : X.K = K0) : OpR X (compareOp .NotIn) (rIn K0 true) := by
  subst hK
  exact op_notIn_seq
theorem op_inK {X : Cx} (K0 : PySem.W.Frag) (hK : X.K = K0) : OpR X (compareOp .In) (rIn K0 false) := by
  subst hK
  exact op_in_seq
/-! ### lists of numbers -/
theorem srt_eq : ∀ {l m : List Int}, l.Pairwise (· ≤ ·) → m.Pairwise (· ≤ ·) → l.Nodup → m.Nodup → (∀ n, n ∈ l ↔ n ∈ m) → l = m
  | [], [], _, _, _, _, _ => rfl
  | [], b :: m, _, _, _, _, h => absurd ((h b).mpr List.mem_cons_self) List.not_mem_nil
  | a :: l, [], _, _, _, _, h => absurd ((h a).mp List.mem_cons_self) List.not_mem_nil
  | a :: l, b :: m, s1, s2, n1, n2, h => by
    obtain ⟨a1, a2⟩ := List.pairwise_cons.mp s1
    obtain ⟨b1, b2⟩ := List.pairwise_cons.mp s2
    obtain ⟨a3, a4⟩ := List.nodup_cons.mp n1
    obtain ⟨b3, b4⟩ := List.nodup_cons.mp n2
    have e : a = b := by
      rcases List.mem_cons.mp ((h a).mp List.mem_cons_self) with e | e
      · exact e
      · rcases List.mem_cons.mp ((h b).mpr List.mem_cons_self) with e2 | e2
        · exact e2.symm
        · have := b1 a e
          have := a1 b e2
          omega
    subst e
    rw [srt_eq a2 b2 a4 b4 fun n => ?_]
    constructor
    · intro hn
      exact (List.mem_cons.mp ((h n).mp (List.mem_cons_of_mem _ hn))).resolve_left fun z => a3 (z ▸ hn)
    · intro hn
      exact (List.mem_cons.mp ((h n).mpr (List.mem_cons_of_mem _ hn))).resolve_left fun z => b3 (z ▸ hn)
theorem w_neLs {K : PySem.W.Frag} {H : Hp} {Q : VK} {a b : Addr} {ns ms : List Int} (ha : SqL K H a (ns.map V.int)) (hb : SqL K H b (ms.map V.int)) (q : Q (.bl (!decide (ns = ms))) H) : rNeD K (.ref a) (.ref b) H Q :=
  ⟨_, _, .lst ha (dp_ints ns), .lst hb (dp_ints ms), shaped_ints ns, shaped_ints ms, by
    rw [PyData.eqv, ints_eqv]
    exact q⟩
theorem w_eqLs {K : PySem.W.Frag} {H : Hp} {Q : VK} {a b : Addr} {ns ms : List Int} (ha : SqL K H a (ns.map V.int)) (hb : SqL K H b (ms.map V.int)) (q : Q (.bl (decide (ns = ms))) H) : rEqD K (.ref a) (.ref b) H Q :=
  ⟨_, _, .lst ha (dp_ints ns), .lst hb (dp_ints ms), shaped_ints ns, shaped_ints ms, by
    rw [PyData.eqv, ints_eqv]
    exact q⟩
end K11
end

section
-- part K11Z1
set_option Elab.async false
set_option linter.all false
set_option maxRecDepth 100000
set_option maxHeartbeats 800000
open PySem PySem.Spec PyProof.Rows L2 Fw
local macro_rules | `(tactic| walk_at "e1") => `(tactic| first
  | ((with_reducible refine' w_var ?hv ?_); (case hv => rfl))
  | with_reducible refine w_c ?_
  | with_reducible refine w_op ?_
  | with_reducible refine w_un ?_
  | with_reducible refine w_cons ?_
  | with_reducible refine w_nil ?_
  | with_reducible refine w_cl ?_
  | with_reducible refine w_cb ?_
  | with_reducible refine w_gname ?_
  | with_reducible refine w_gsub ?_
  | with_reducible refine w_test ?_
  | with_reducible refine w_B ?_
  | with_reducible refine w_bl ?_
  | with_reducible refine w_and ?_
  | with_reducible refine w_or ?_
  | with_reducible refine w_not ?_
  | with_reducible refine w_if ?_
  | with_reducible refine w_I0 ?_
  | with_reducible refine Gk.w_rU ?_
  | with_reducible refine Dq.w_orV ?_
  | with_reducible refine Dq.w_js ?_
  | with_reducible refine Dq.w_js0 ?_
  | with_reducible refine Dq.w_fm ?_
  | with_reducible refine Dq.w_andV ?_
  | with_reducible refine Gk.w_iEnum ?_
  | with_reducible refine Dq.w_dget ?_
  | with_reducible refine Dq.w_dpop1 ?_
  | with_reducible refine Dq.w_ddel ?_
  | with_reducible refine Dq.w_din ?_
  | with_reducible refine Dq.w_dnotin ?_
  | with_reducible refine Dq.w_dget2 ?_
  | with_reducible refine Dq.w_dnew ?_
  | with_reducible refine Dq.w_fldaug ?_
  | with_reducible refine Dq.w_aSub ?_
  | with_reducible refine Dq.w_aAdd ?_
  | with_reducible refine Dq.w_mkd ?_
  | with_reducible refine Dq.w_notN0 ?_
  | with_reducible refine Dq.w_isN0 ?_
  | with_reducible refine Dq.w_notNR ?_
  | with_reducible refine Dq.w_isNR ?_
  | with_reducible refine Dq.w_notNI ?_
  | with_reducible refine Dq.w_isNI ?_
  | with_reducible refine L2.w_neOs ?_
  | with_reducible refine w_ipI ?_
  | with_reducible refine w_eqS ?_
  | with_reducible refine w_neS ?_
  | with_reducible refine w_eqI ?_
  | with_reducible refine w_neI ?_
  | with_reducible refine w_eqB ?_
  | with_reducible refine w_neB ?_
  | ((with_reducible refine w_eq ?hs ?_); (case hs => rfl))
  | ((with_reducible refine w_ne ?hs ?_); (case hs => rfl))
  | with_reducible refine w_fld ?_
  | with_reducible refine w_bm ?_
  | with_reducible refine w_bm0 ?_
  | with_reducible refine w_sl ?_
  | with_reducible refine w_part ?_
  | with_reducible refine w_partI ?_
  | with_reducible refine w_nopart ?_
  | ((with_reducible refine' w_ixL ?hh ?ha ?_); (case hh => first | assumption | exact upd_same); (case ha => rfl))
  | ((with_reducible refine' w_setLu ?ha ?_); (case ha => rfl))
  | ((with_reducible refine' w_setL ?hh ?ha ?_); (case hh => first | assumption | exact upd_same); (case ha => rfl))
  | with_reducible refine w_iteT ?_
  | with_reducible refine w_iteF ?_
  | with_reducible refine w_lst ?_
  | with_reducible refine w_tup ?_
  | ((with_reducible refine w_new ?hz ?_); (case hz => rfl))
  | with_reducible refine w_lc ?_
  | with_reducible refine w_iL ?_
  | with_reducible refine w_iT ?_
  | with_reducible refine w_iR1 ?_
  | with_reducible refine w_iR2 ?_
  | with_reducible refine w_yes ?_
  | with_reducible refine w_iStr ?_
  | with_reducible exact tyS
  | with_reducible refine And.intro tyS ?_
  | ((with_reducible refine w_find3 ?_); (first | rw [find3_one] | rw [starts3] | skip))
  | ((with_reducible refine w_2s ?_); (try rw [find_one]))
  | ((with_reducible refine w_inS ?_); rw [S_list])
  | ((with_reducible refine w_lenS ?hz ?_); (case hz => first | assumption | omega | decide); rw [SX.S_len])
  | ((with_reducible refine w_addS ?hz ?_); (case hz => first | assumption | omega | decide); rw [vS_cat])
  | with_reducible refine w_mk ?_
  | with_reducible refine w_me ?_
  | with_reducible refine w_sfld ?_
  | ((with_reducible refine' w_gtup ?hh ?hn ?_); (case hh => first | assumption | exact upd_same); (case hn => rfl))
  | with_reducible refine w_gcons ?_
  | with_reducible refine w_gnil ?_
  | with_reducible refine w_repl ?_
  | with_reducible refine w_star ?_
  | with_reducible refine w_revL ?_
  | with_reducible refine w_isiS ?_
  | with_reducible refine w_isiI ?_
  | with_reducible refine w_isiN ?_
  | with_reducible refine w_chain ?_
  | with_reducible refine w_iEnumT ?_
  | with_reducible refine w_iZip3 ?_
  | with_reducible refine w_iZip ?_
  | with_reducible refine w_lenR3 ?_
  | with_reducible refine w_x1i ?_
  | with_reducible refine w_x1b ?_
  | with_reducible refine w_x1s ?_
  | with_reducible refine w_int1i ?_
  | with_reducible refine w_int1b ?_
  | ((with_reducible refine w_mod ?hc ?_); (case hc => omega))
  | ((with_reducible refine w_fdivW ?hc ?hd ?_); (case hc => omega); (case hd => omega))
  | ((with_reducible refine w_mul ?hc ?_); (case hc => first | exact Or.inr ⟨by decide, by decide⟩ | exact Or.inl ⟨by decide, by decide⟩))
  | ((with_reducible refine w_pow ?hc ?_); (case hc => exact ⟨by decide, by decide, by decide⟩)))
local macro_rules | `(tactic| walk_at "f1") => `(tactic| first
  | ((with_reducible refine' K11.g_disk ?hW ?hK ?hs ?hx ?_); (case hW => assumption); (case hK => rfl); (case hs => rfl); (case hx => first | assumption | exact upd_same))
  | ((with_reducible refine' K11.g_capacity ?hW ?hK ?hs ?hx ?_); (case hW => assumption); (case hK => rfl); (case hs => rfl); (case hx => first | assumption | exact upd_same))
  | ((with_reducible refine' K11.g_pages ?hW ?hK ?hs ?hx ?_); (case hW => assumption); (case hK => rfl); (case hs => rfl); (case hx => first | assumption | exact upd_same))
  | ((with_reducible refine' K11.g_changed ?hW ?hK ?hs ?hx ?_); (case hW => assumption); (case hK => rfl); (case hs => rfl); (case hx => first | assumption | exact upd_same))
  | ((with_reducible refine' K11.g_open_group ?hW ?hK ?hs ?hx ?_); (case hW => assumption); (case hK => rfl); (case hs => rfl); (case hx => first | assumption | exact upd_same))
  | ((with_reducible refine' K11.g_parts ?hW ?hK ?hs ?hx ?_); (case hW => assumption); (case hK => rfl); (case hs => rfl); (case hx => first | assumption | exact upd_same))
  | ((with_reducible refine' K11.g_reads ?hW ?hK ?hs ?hx ?_); (case hW => assumption); (case hK => rfl); (case hs => rfl); (case hx => first | assumption | exact upd_same))
  | ((with_reducible refine' K11.g_writes ?hW ?hK ?hs ?hx ?_); (case hW => assumption); (case hK => rfl); (case hs => rfl); (case hx => first | assumption | exact upd_same))
  | ((with_reducible refine' K11.g_block_size ?hW ?hK ?hs ?hx ?_); (case hW => assumption); (case hK => rfl); (case hs => rfl); (case hx => first | assumption | exact upd_same))
  | ((with_reducible refine' K11.g_blocks ?hW ?hK ?hs ?hx ?_); (case hW => assumption); (case hK => rfl); (case hs => rfl); (case hx => first | assumption | exact upd_same))
  | ((with_reducible refine' K11.g_log ?hW ?hK ?hs ?hx ?_); (case hW => assumption); (case hK => rfl); (case hs => rfl); (case hx => first | assumption | exact upd_same))
  | ((with_reducible refine' K11.g_waiting ?hW ?hK ?hs ?hx ?_); (case hW => assumption); (case hK => rfl); (case hs => rfl); (case hx => first | assumption | exact upd_same))
  | ((with_reducible refine' K11.g_written ?hW ?hK ?hs ?hx ?_); (case hW => assumption); (case hK => rfl); (case hs => rfl); (case hx => first | assumption | exact upd_same))
  | ((with_reducible refine' K11.g_log_tail ?hW ?hK ?hs ?hx ?_); (case hW => assumption); (case hK => rfl); (case hs => rfl); (case hx => first | assumption | exact upd_same))
  | ((with_reducible refine' K11.g_fuse ?hW ?hK ?hs ?hx ?_); (case hW => assumption); (case hK => rfl); (case hs => rfl); (case hx => first | assumption | exact upd_same))
  | ((with_reducible refine' K11.g_dead ?hW ?hK ?hs ?hx ?_); (case hW => assumption); (case hK => rfl); (case hs => rfl); (case hx => first | assumption | exact upd_same))
  | ((with_reducible refine' K11.g_steps ?hW ?hK ?hs ?hx ?_); (case hW => assumption); (case hK => rfl); (case hs => rfl); (case hx => first | assumption | exact upd_same))
  | walk_at "e1")
local macro_rules | `(tactic| walk_at "s1") => `(tactic| first
  | with_reducible refine w_seq ?_
  | with_reducible refine w_asg ?_
  | with_reducible refine w_ret ?_
  | with_reducible refine w_par ?_
  | with_reducible refine w_drop ?_
  | with_reducible refine w_next ?_
  | with_reducible refine w_ifs ?_
  | ((with_reducible refine' w_aug ?hv ?_); (case hv => rfl))
  | with_reducible refine w_for ?_
  | walk_at "f1")
local macro_rules | `(tactic| walk_at "e") => `(tactic| repeat walk_at "e1")
local macro_rules | `(tactic| walk_at "g") => `(tactic| repeat walk_at "s1")

namespace K11
open Dc Gk M5 M10 M8 M11 LamX
section
variable {K : PySem.W.Frag} {cPg cD cP : Addr} {H5 Hx H6 : Hp} {x d pA cA oA rA bA qA wA dx2 : Addr} {cap : Int}
abbrev D0 : DS := ⟨[], [], [], [], [], none, false, 0⟩
abbrev S0 : PS := ⟨[], [], [], 0, 0⟩
abbrev C0 : Cont := fun _ => none
theorem pi0 : PI K cPg H6 S0 D0 C0 C0 where
  kp := fun p hp => absurd hp List.not_mem_nil
  kc := fun p hp => absurd hp List.not_mem_nil
  ko := fun p hp => absurd hp List.not_mem_nil
  np := List.nodup_nil
  nc := List.nodup_nil
  no := List.nodup_nil
  pg n v e := by
    have e : valV ([] : List (Key × V)) (.inl n) = some v := e
    rw [valV_nil] at e
    cases e
  dk n c e := by cases e
  og n v e := by
    have e : valV ([] : List (Key × V)) (.inl n) = some v := e
    rw [valV_nil] at e
    cases e
  ch n e := by
    have e : (valV ([] : List (Key × V)) (.inl n)).isSome = true := e
    rw [valV_nil] at e
    cases e
  eq _ _ := rfl
  ok n c e := by cases e
  ok2 n c e := by cases e
  wp := rfl
  al := ⟨rfl, rfl⟩
  cn := by decide
theorem sys0 (hx : H5 x = none) (dk5 : DskO K cD H5 d bA qA wA D0) (m1 : d ≠ bA) (m2 : d ≠ qA) (m3 : d ≠ wA) (m4 : bA ≠ qA) (m5 : qA ≠ wA) (m6 : bA ≠ wA) (sx : Same H5 Hx) (exx : ∃ o, Hx x = some o) (s6 : Cs [x] Hx H6) (fp : Hx pA = none) (fc : Hx cA = none) (fo : Hx oA = none) (fr : Hx rA = none)
    (ex : H6 x = some (.ins cP dx2 (F8 (.ref d) (.int cap) (.ref pA) (.ref cA) (.ref oA) (.ref rA) (.int 0) (.int 0)))) (er : H6 rA = some (.lst [])) (ep : H6 pA = some (.dK [])) (ec : H6 cA = some (.dK [])) (eo : H6 oA = some (.dK [])) (n1 : pA ≠ cA) (n2 : pA ≠ oA) (n3 : cA ≠ oA) :
    Sys K cD cP H6 x d cap ⟨dx2, pA, cA, oA, rA, bA, qA, wA⟩ S0 D0 ∧ Same H5 H6 := by
  obtain ⟨ox, exx⟩ := exx
  have s56 : Same H5 H6 := fun b o e => s6 b o (sx b o e) (.inl fun z => by
    rw [List.mem_singleton.mp z, hx] at e
    cases e)
  obtain ⟨⟨ddx, lB, tB, zs, hd, _, _, hq, _⟩, hb, hw, _⟩ := id dk5
  have nx : ∀ {b o}, H5 b = some o → x ≠ b := fun e z => by rw [← z, hx] at e; cases e
  have nf : ∀ {b o f}, H5 b = some o → Hx f = none → f ≠ b := fun e g z => by rw [z, sx _ _ e] at g; cases g
  have nxf : ∀ {f}, Hx f = none → x ≠ f := fun g z => by rw [← z, exx] at g; cases g
  refine ⟨⟨ex, er, ep, ec, eo, dk5.sm s56, ?_⟩, s56⟩
  show [x, pA, cA, oA, rA, d, bA, qA, wA].Nodup
  simp only [List.nodup_cons, List.mem_cons, List.not_mem_nil, or_false, not_or, not_false_eq_true, List.nodup_nil, and_true]
  exact ⟨⟨nxf fp, nxf fc, nxf fo, nxf fr, nx hd, nx hb, nx hq, nx hw⟩, ⟨n1, n2, ne_of ep er (fun z => by cases z), nf hd fp, nf hb fp, nf hq fp, nf hw fp⟩, ⟨n3, ne_of ec er (fun z => by cases z), nf hd fc, nf hb fc, nf hq fc, nf hw fc⟩,
    ⟨ne_of eo er (fun z => by cases z), nf hd fo, nf hb fo, nf hq fo, nf hw fo⟩, ⟨nf hd fr, nf hb fr, nf hq fr, nf hw fr⟩, ⟨m1, m2, m3⟩, ⟨m4, m6⟩, m5⟩
theorem in34 (b : Int) : inV (.int b) [.int 3, .int 4] = decide (b = 3 ∨ b = 4) := by
  rcases Decidable.em (b = 3) with h | h1
  · subst h; rfl
  rcases Decidable.em (b = 4) with h | h2
  · subst h; rfl
  rw [decide_eq_false (by omega)]
  show ((3 == b) || ((4 == b) || false)) = false
  rw [beq_eq_false_iff_ne.mpr (fun z => h1 z.symm), beq_eq_false_iff_ne.mpr (fun z => h2 z.symm)]
  rfl
theorem inInts (b : Int) : ∀ ns : List Int, inV (.int b) (ns.map V.int) = decide (b ∈ ns)
  | [] => rfl
  | n :: r => by
    show ((n == b) || inV (.int b) (r.map V.int)) = _
    rw [inInts b r]
    by_cases h : n = b
    · subst h
      simp
    · rw [beq_eq_false_iff_ne.mpr h, Bool.false_or]
      exact decide_eq_decide.mpr ⟨fun z => List.mem_cons_of_mem _ z, fun z => (List.mem_cons.mp z).resolve_left fun y => h y.symm⟩
theorem flatInts : ∀ ns : List Int, (ns.map V.int).all flatV = true
  | [] => rfl
  | _ :: r => flatInts r
theorem K5.nsl {kvs : List (Key × V)} {ns : List Int} (h : K5 kvs) (nd : ns.Nodup) (m : ∀ n ∈ ns, (valV kvs (.inl n)).isSome = true) : ns.length ≤ 5 := by
  have := sub_len (m := (List.range 5).map fun n : Nat => (n : Int)) nd fun a ha => by
    obtain ⟨v, hv⟩ := Option.isSome_iff_exists.mp (m a ha)
    obtain ⟨n, rfl, hn⟩ := h.at_ hv
    exact List.mem_map.mpr ⟨n, List.mem_range.mpr hn, rfl⟩
  rw [List.length_map, List.length_range] at this
  exact this
/-- pairs (number, 1) -/
def Prk (K : PySem.W.Frag) (H : Hp) : List Addr → List Int → Prop := Paired fun q n => SqT K H q [.int n, .int 1]
theorem Prk.ch {M : List Addr} {H H' : Hp} (s : Ch M H H') : ∀ {qs : List Addr} {ns : List Int}, Prk K H qs ns → Prk K H' qs ns
  | _, _, .nil => .nil
  | _, _, .cons h r => .cons (s.sqT h) (Prk.ch s r)
theorem Prk.kv {H : Hp} : ∀ {qs : List Addr} {ns : List Int}, Prk K H qs ns → Paired (fun q (kv : Key × V) => SqT K H q [kV kv.1, kv.2]) qs (ns.map fun n => ((Sum.inl n : Key), V.int 1))
  | _, _, .nil => .nil
  | _, _, .cons h r => .cons h (Prk.kv r)
theorem two_parts (q : Int → Bool) : ∀ ks : List Int, (ks.filter fun n => !q n).length + (ks.filter q).length = ks.length
  | [] => rfl
  | a :: r => by
    have := two_parts q r
    cases h : q a <;> simp [h] <;> omega
theorem loose_len {cap : Int} {S : PS} {ks grp : List Int} (h5 : K5 S.og) (np : (S.pg.map (·.1)).Nodup) (no : (S.og.map (·.1)).Nodup) (hk : S.pg.map (·.1) = ks.map Sum.inl) (sz : SzI cap S) (sub : ∀ n : Int, (valV S.og (.inl n)).isSome = true → (valV S.pg (.inl n)).isSome = true) (gg : ∀ n : Int, n ∈ grp ↔ (valV S.og (.inl n)).isSome = true)
    (hcap : 1 ≤ cap) (h1 : max cap 1 < ((ks.filter fun n => !decide (n ∈ grp)).length : Int)) : ¬ cap + 1 < (S.pg.length : Int) := by
  intro h2
  have e1 := two_parts (fun n => decide (n ∈ grp)) ks
  obtain ⟨os, ho⟩ := h5.ks
  have e2 : os.length ≤ (ks.filter fun n => decide (n ∈ grp)).length := sub_len (nd_ks ho no) fun n hn => by
    have i := (mem_ks ho n).mp hn
    exact List.mem_filter.mpr ⟨(mem_ks hk n).mpr (sub n i), decide_eq_true ((gg n).mpr i)⟩
  have l1 : ks.length = S.pg.length := by rw [← List.length_map (f := Sum.inl (β := Str)), ← hk, List.length_map]
  have l2 : os.length = S.og.length := by rw [← List.length_map (f := Sum.inl (β := Str)), ← ho, List.length_map]
  unfold SzI at sz
  omega
/-- the keys of a dict of pairs -/
theorem merge_keys : ∀ (l : List Int) (kvs : List (Key × V)) (ks : List Int), kvs.map (·.1) = ks.map Sum.inl → ks.Nodup → ∃ ks' : List Int, (mergeK kvs (l.map fun n => ((Sum.inl n : Key), V.int 1))).map (·.1) = ks'.map Sum.inl ∧ ks'.Nodup ∧ (∀ n, n ∈ ks' ↔ n ∈ ks ∨ n ∈ l) ∧ ks'.length ≤ ks.length + l.length
  | [], kvs, ks, e, h => ⟨ks, e, h, fun n => by simp, by simp⟩
  | a :: l, kvs, ks, e, h => by
    have step : ∃ ks2 : List Int, (putK kvs (.inl a) (.int 1)).map (·.1) = ks2.map Sum.inl ∧ ks2.Nodup ∧ (∀ n, n ∈ ks2 ↔ n ∈ ks ∨ n = a) ∧ ks2.length ≤ ks.length + 1 := by
      by_cases i : a ∈ ks
      · refine ⟨ks, ?_, h, fun n => ⟨.inl, fun z => z.elim id fun y => y ▸ i⟩, Nat.le_succ _⟩
        rw [keys_put, if_pos, e]
        rw [valV_any]
        exact (mem_ks e a).mp i
      · refine ⟨ks ++ [a], ?_, nd_snoc h i, fun n => by rw [List.mem_append, List.mem_singleton], by rw [List.length_append]; exact Nat.le_refl _⟩
        rw [keys_put, if_neg, e, List.map_append]
        · rfl
        · rw [valV_any]
          exact fun z => i ((mem_ks e a).mpr z)
    obtain ⟨ks2, e2, h2, m2, l2⟩ := step
    obtain ⟨ks3, e3, h3, m3, l3⟩ := merge_keys l _ ks2 e2 h2
    refine ⟨ks3, e3, h3, fun n => ?_, by rw [List.length_cons]; omega⟩
    rw [m3, m2, List.mem_cons, or_assoc]
section
variable {σ : L2.St} {H : Hp} {Q : VK} {td te : TE} {tt : TT} {g : TG} {vs : List Nat}
theorem w_lcK {d : Addr} {kvs : List (Key × V)} (hd : H d = some (.dK kvs)) (htd : ∀ (o : Obj) (R : V → Hp → Prop), R (.ref d) (upd H d (.frz o (.dK kvs))) → td σ (upd H d (.frz o (.dK kvs))) R)
    (h : ∀ o D, upd H d (.frz o (.dK kvs)) D = none → ∃ Pv : Nat → Hp → Prop, Pv 0 (upd (upd H d (.frz o (.dK kvs))) D (.lst [])) ∧ (∀ i H, i ≤ kvs.length → Pv i H → H d = some (.frz o (.dK kvs))) ∧
      (∀ i k v H, kvs[i]? = some (k, v) → Pv i H → g (kV k) (wipe σ vs) H fun σ2 H2 => wipe σ2 vs = wipe σ vs ∧ tt σ2 H2 fun b H3 =>
        if b = true then te σ2 H3 fun y H4 => ∃ acc, H4 D = some (.lst acc) ∧ acc.length < sizeLine ∧ Pv (i + 1) (upd H4 D (.lst (acc ++ [y]))) else Pv (i + 1) H3) ∧
      (∀ H, Pv kvs.length H → Q (.ref D) (upd H d (.dK kvs)))) : tLockE (tLc (iKeys td) g tt te vs) σ H Q := by
  refine ⟨d, .dK kvs, hd, trivial, fun o => ?_⟩
  refine htd o _ ⟨d, o, rfl, .inl ⟨kvs, upd_same, fun D hD => ?_⟩⟩
  obtain ⟨Pv, h0, hl, hs, hq⟩ := h o D hD
  refine ⟨fun i m H => m = kvs.length - i ∧ i ≤ kvs.length ∧ Pv i H, ⟨kvs.length, by simp, Nat.zero_le _, h0⟩, ?_⟩
  rintro i m H ⟨rfl, hi, p⟩
  have q := hl i H hi p
  by_cases hlt : i < kvs.length
  · refine .inr ⟨walk_keys.goes i H hlt q, Pv (i + 1), fun H' p' => ⟨kvs.length - (i + 1), by omega, rfl, hlt, p'⟩, fun x H' y => ?_⟩
    obtain ⟨rfl, k, v, e, rfl⟩ := walk_keys.yields i H x H' hlt q y
    exact hs i k v _ e p
  · have e : i = kvs.length := by omega
    subst e
    exact .inl ⟨walk_keys.stops H q, q, hq H p⟩
theorem w_lcKS {D : Ends} {j : Nat} {d : Addr} {kvs : List (Key × V)} (hd : H d = some (.dK kvs)) (htd : ∀ (o : Obj) (R : V → Hp → Prop), R (.ref d) (upd H d (.frz o (.dK kvs))) → td σ (upd H d (.frz o (.dK kvs))) R)
    (h : ∀ o D0, upd H d (.frz o (.dK kvs)) D0 = none → ∃ Pv : Nat → Hp → Prop, Pv 0 (upd (upd H d (.frz o (.dK kvs))) D0 (.lst [])) ∧ (∀ i H, i ≤ kvs.length → Pv i H → H d = some (.frz o (.dK kvs))) ∧
      (∀ i k v H, kvs[i]? = some (k, v) → Pv i H → g (kV k) (wipe σ vs) H fun σ2 H2 => wipe σ2 vs = wipe σ vs ∧ tt σ2 H2 fun b H3 =>
        if b = true then te σ2 H3 fun y H4 => ∃ acc, H4 D0 = some (.lst acc) ∧ acc.length < sizeLine ∧ Pv (i + 1) (upd H4 D0 (.lst (acc ++ [y]))) else Pv (i + 1) H3) ∧
      (∀ H, Pv kvs.length H → D.nx (σ.set j (some (.ref D0))) (upd H d (.dK kvs)))) : tLock (tAsg (tLc (iKeys td) g tt te vs) (gName j)) D σ H := by
  refine ⟨d, .dK kvs, hd, trivial, fun o => ?_⟩
  refine htd o _ ⟨d, o, rfl, .inl ⟨kvs, upd_same, fun D0 hD => ?_⟩⟩
  obtain ⟨Pv, h0, hl, hs, hq⟩ := h o D0 hD
  refine ⟨fun i m H => m = kvs.length - i ∧ i ≤ kvs.length ∧ Pv i H, ⟨kvs.length, by simp, Nat.zero_le _, h0⟩, ?_⟩
  rintro i m H ⟨rfl, hi, p⟩
  have q := hl i H hi p
  by_cases hlt : i < kvs.length
  · refine .inr ⟨walk_keys.goes i H hlt q, Pv (i + 1), fun H' p' => ⟨kvs.length - (i + 1), by omega, rfl, hlt, p'⟩, fun x H' y => ?_⟩
    obtain ⟨rfl, k, v, e, rfl⟩ := walk_keys.yields i H x H' hlt q y
    exact hs i k v _ e p
  · have e : i = kvs.length := by omega
    subst e
    exact .inl ⟨walk_keys.stops H q, q, hq H p⟩
end
/-- the state between two tests of the loop's body -/
def Lp (K : PySem.W.Frag) (cPg cD cP : Addr) (T : List (Addr × Str)) (p : Addr) (dcs : List Addr) (a e d : Addr) (cap : Int) (x : Addr) (u9 u10 u11 : V) (B G : Nat) : L2.St → Hp → Prop := fun σ H => ∃ (z : Zs) (v12 v13 v14 v15 v16 v17 v18 : Option V), σ = [some (.ref a), some (.ref e), some (.ref d), some (.int cap), some (.ref x), some (.ref z.kA), some (.ref z.nA), some (.ref z.gA), some (.ref z.mA), some u9, some u10, some u11, v12, v13, v14, v15, v16, v17, v18] ∧
  Iv K cPg cD cP T p dcs x d cap H z B G
end
end K11
end

section
-- part K11Z
set_option Elab.async false
set_option linter.all false
set_option maxRecDepth 100000
set_option maxHeartbeats 800000
open PySem PySem.Spec PyProof.Rows L2 Fw
local macro_rules | `(tactic| walk_at "e1") => `(tactic| first
  | ((with_reducible refine' w_var ?hv ?_); (case hv => rfl))
  | with_reducible refine w_c ?_
  | with_reducible refine w_op ?_
  | with_reducible refine w_un ?_
  | with_reducible refine w_cons ?_
  | with_reducible refine w_nil ?_
  | with_reducible refine w_cl ?_
  | with_reducible refine w_cb ?_
  | with_reducible refine w_gname ?_
  | with_reducible refine w_gsub ?_
  | with_reducible refine w_test ?_
  | with_reducible refine w_B ?_
  | with_reducible refine w_bl ?_
  | with_reducible refine w_and ?_
  | with_reducible refine w_or ?_
  | with_reducible refine w_not ?_
  | with_reducible refine w_if ?_
  | with_reducible refine w_I0 ?_
  | with_reducible refine Gk.w_rU ?_
  | with_reducible refine Dq.w_orV ?_
  | with_reducible refine Dq.w_js ?_
  | with_reducible refine Dq.w_js0 ?_
  | with_reducible refine Dq.w_fm ?_
  | with_reducible refine Dq.w_andV ?_
  | with_reducible refine Gk.w_iEnum ?_
  | with_reducible refine Dq.w_dget ?_
  | with_reducible refine Dq.w_dpop1 ?_
  | with_reducible refine Dq.w_ddel ?_
  | with_reducible refine Dq.w_din ?_
  | with_reducible refine Dq.w_dnotin ?_
  | with_reducible refine Dq.w_dget2 ?_
  | with_reducible refine Dq.w_dnew ?_
  | with_reducible refine Dq.w_fldaug ?_
  | with_reducible refine Dq.w_aSub ?_
  | with_reducible refine Dq.w_aAdd ?_
  | with_reducible refine Dq.w_mkd ?_
  | with_reducible refine Dq.w_notN0 ?_
  | with_reducible refine Dq.w_isN0 ?_
  | with_reducible refine Dq.w_notNR ?_
  | with_reducible refine Dq.w_isNR ?_
  | with_reducible refine Dq.w_notNI ?_
  | with_reducible refine Dq.w_isNI ?_
  | with_reducible refine L2.w_neOs ?_
  | with_reducible refine w_ipI ?_
  | with_reducible refine w_eqS ?_
  | with_reducible refine w_neS ?_
  | with_reducible refine w_eqI ?_
  | with_reducible refine w_neI ?_
  | with_reducible refine w_eqB ?_
  | with_reducible refine w_neB ?_
  | ((with_reducible refine w_eq ?hs ?_); (case hs => rfl))
  | ((with_reducible refine w_ne ?hs ?_); (case hs => rfl))
  | with_reducible refine w_fld ?_
  | with_reducible refine w_bm ?_
  | with_reducible refine w_bm0 ?_
  | with_reducible refine w_sl ?_
  | with_reducible refine w_part ?_
  | with_reducible refine w_partI ?_
  | with_reducible refine w_nopart ?_
  | ((with_reducible refine' w_ixL ?hh ?ha ?_); (case hh => first | assumption | exact upd_same); (case ha => rfl))
  | ((with_reducible refine' w_setLu ?ha ?_); (case ha => rfl))
  | ((with_reducible refine' w_setL ?hh ?ha ?_); (case hh => first | assumption | exact upd_same); (case ha => rfl))
  | with_reducible refine w_iteT ?_
  | with_reducible refine w_iteF ?_
  | with_reducible refine w_lst ?_
  | with_reducible refine w_tup ?_
  | ((with_reducible refine w_new ?hz ?_); (case hz => rfl))
  | with_reducible refine w_lc ?_
  | with_reducible refine w_iL ?_
  | with_reducible refine w_iT ?_
  | with_reducible refine w_iR1 ?_
  | with_reducible refine w_iR2 ?_
  | with_reducible refine w_yes ?_
  | with_reducible refine w_iStr ?_
  | with_reducible exact tyS
  | with_reducible refine And.intro tyS ?_
  | ((with_reducible refine w_find3 ?_); (first | rw [find3_one] | rw [starts3] | skip))
  | ((with_reducible refine w_2s ?_); (try rw [find_one]))
  | ((with_reducible refine w_inS ?_); rw [S_list])
  | ((with_reducible refine w_lenS ?hz ?_); (case hz => first | assumption | omega | decide); rw [SX.S_len])
  | ((with_reducible refine w_addS ?hz ?_); (case hz => first | assumption | omega | decide); rw [vS_cat])
  | with_reducible refine w_mk ?_
  | with_reducible refine w_me ?_
  | with_reducible refine w_sfld ?_
  | ((with_reducible refine' w_gtup ?hh ?hn ?_); (case hh => first | assumption | exact upd_same); (case hn => rfl))
  | with_reducible refine w_gcons ?_
  | with_reducible refine w_gnil ?_
  | with_reducible refine w_repl ?_
  | with_reducible refine w_star ?_
  | with_reducible refine w_revL ?_
  | with_reducible refine w_isiS ?_
  | with_reducible refine w_isiI ?_
  | with_reducible refine w_isiN ?_
  | with_reducible refine w_chain ?_
  | with_reducible refine w_iEnumT ?_
  | with_reducible refine w_iZip3 ?_
  | with_reducible refine w_iZip ?_
  | with_reducible refine w_lenR3 ?_
  | with_reducible refine w_x1i ?_
  | with_reducible refine w_x1b ?_
  | with_reducible refine w_x1s ?_
  | with_reducible refine w_int1i ?_
  | with_reducible refine w_int1b ?_
  | ((with_reducible refine w_mod ?hc ?_); (case hc => omega))
  | ((with_reducible refine w_fdivW ?hc ?hd ?_); (case hc => omega); (case hd => omega))
  | ((with_reducible refine w_mul ?hc ?_); (case hc => first | exact Or.inr ⟨by decide, by decide⟩ | exact Or.inl ⟨by decide, by decide⟩))
  | ((with_reducible refine w_pow ?hc ?_); (case hc => exact ⟨by decide, by decide, by decide⟩)))
local macro_rules | `(tactic| walk_at "f1") => `(tactic| first
  | ((with_reducible refine' K11.g_disk ?hW ?hK ?hs ?hx ?_); (case hW => assumption); (case hK => rfl); (case hs => rfl); (case hx => first | assumption | exact upd_same))
  | ((with_reducible refine' K11.g_capacity ?hW ?hK ?hs ?hx ?_); (case hW => assumption); (case hK => rfl); (case hs => rfl); (case hx => first | assumption | exact upd_same))
  | ((with_reducible refine' K11.g_pages ?hW ?hK ?hs ?hx ?_); (case hW => assumption); (case hK => rfl); (case hs => rfl); (case hx => first | assumption | exact upd_same))
  | ((with_reducible refine' K11.g_changed ?hW ?hK ?hs ?hx ?_); (case hW => assumption); (case hK => rfl); (case hs => rfl); (case hx => first | assumption | exact upd_same))
  | ((with_reducible refine' K11.g_open_group ?hW ?hK ?hs ?hx ?_); (case hW => assumption); (case hK => rfl); (case hs => rfl); (case hx => first | assumption | exact upd_same))
  | ((with_reducible refine' K11.g_parts ?hW ?hK ?hs ?hx ?_); (case hW => assumption); (case hK => rfl); (case hs => rfl); (case hx => first | assumption | exact upd_same))
  | ((with_reducible refine' K11.g_reads ?hW ?hK ?hs ?hx ?_); (case hW => assumption); (case hK => rfl); (case hs => rfl); (case hx => first | assumption | exact upd_same))
  | ((with_reducible refine' K11.g_writes ?hW ?hK ?hs ?hx ?_); (case hW => assumption); (case hK => rfl); (case hs => rfl); (case hx => first | assumption | exact upd_same))
  | ((with_reducible refine' K11.g_block_size ?hW ?hK ?hs ?hx ?_); (case hW => assumption); (case hK => rfl); (case hs => rfl); (case hx => first | assumption | exact upd_same))
  | ((with_reducible refine' K11.g_blocks ?hW ?hK ?hs ?hx ?_); (case hW => assumption); (case hK => rfl); (case hs => rfl); (case hx => first | assumption | exact upd_same))
  | ((with_reducible refine' K11.g_log ?hW ?hK ?hs ?hx ?_); (case hW => assumption); (case hK => rfl); (case hs => rfl); (case hx => first | assumption | exact upd_same))
  | ((with_reducible refine' K11.g_waiting ?hW ?hK ?hs ?hx ?_); (case hW => assumption); (case hK => rfl); (case hs => rfl); (case hx => first | assumption | exact upd_same))
  | ((with_reducible refine' K11.g_written ?hW ?hK ?hs ?hx ?_); (case hW => assumption); (case hK => rfl); (case hs => rfl); (case hx => first | assumption | exact upd_same))
  | ((with_reducible refine' K11.g_log_tail ?hW ?hK ?hs ?hx ?_); (case hW => assumption); (case hK => rfl); (case hs => rfl); (case hx => first | assumption | exact upd_same))
  | ((with_reducible refine' K11.g_fuse ?hW ?hK ?hs ?hx ?_); (case hW => assumption); (case hK => rfl); (case hs => rfl); (case hx => first | assumption | exact upd_same))
  | ((with_reducible refine' K11.g_dead ?hW ?hK ?hs ?hx ?_); (case hW => assumption); (case hK => rfl); (case hs => rfl); (case hx => first | assumption | exact upd_same))
  | ((with_reducible refine' K11.g_steps ?hW ?hK ?hs ?hx ?_); (case hW => assumption); (case hK => rfl); (case hs => rfl); (case hx => first | assumption | exact upd_same))
  | walk_at "e1")
local macro_rules | `(tactic| walk_at "s1") => `(tactic| first
  | with_reducible refine w_seq ?_
  | with_reducible refine w_asg ?_
  | with_reducible refine w_ret ?_
  | with_reducible refine w_par ?_
  | with_reducible refine w_drop ?_
  | with_reducible refine w_next ?_
  | with_reducible refine w_ifs ?_
  | ((with_reducible refine' w_aug ?hv ?_); (case hv => rfl))
  | with_reducible refine w_for ?_
  | walk_at "f1")
local macro_rules | `(tactic| walk_at "e") => `(tactic| repeat walk_at "e1")
local macro_rules | `(tactic| walk_at "g") => `(tactic| repeat walk_at "s1")

namespace K11
open Dc Gk M5 M10 M8 M11 LamX
def spLaw (K : PySem.W.Frag) (Pl Pf : Addr) : Sp := fun vs H Q _ => ∃ (a : Addr) (ns : List Int), vs = [.ref a] ∧ SqL K H a (ns.map V.int) ∧ ns.length ≤ 63 ∧ Tabs (TQ Pl Pf) H ∧ ∀ H', Q (.bl true) H'
section
variable {P : Program} {w : World} {K : PySem.W.Frag} {mg : Str → Option Value} {base : Heap} {cPF cPg cDF cD aE cP : Addr}
theorem ok_law {f c Pl Pf : Addr} {fd : FuncData} (W : Wz K mg cPF cPg cDF cD aE cP) (F : FunD K "law" "law" (defArgs s_law) (defBody s_law) (defScope s_law) [] [] f fd) (hc : fd.code = .ref c) (TB : TabB base mg c Pl) (nT : Pl ≠ Pf)
    (c__law_roll : Cl P w K mg base 1 "_law_roll" spRoll) (c__law_rounds : Cl P w K mg base 2 "_law_rounds" (spRounds K)) (c__law_page : Cl P w K mg base 3 "_law_page" (spLPage K cPg)) (c__law_same : Cl P w K mg base 2 "_law_same" (spSame K cPg)) (c_Page : Mc P w K mg base 1 "Page" cPg (spInit K cPg))
    (c_page_from : Cl P w K mg base 3 "page_from" (spFrom K cPg cPF (TQ Pl Pf))) (c_Disk1 : Dq.Mcd P w K mg base 1 "Disk" cD (spDisk K cD) [.non, .ref aE]) (c_Pool : Mc P w K mg base 1 "Pool" cP (spPool K cPF cP))
    (c_Pool_page : Me P w K mg base 6 cP "page" (spPage K cPg cD cP (TQ Pl Pf))) (c_Pool_put : Me P w K mg base 6 cP "put" (spPut K cPF cPg cD cP)) (c_Pool_group_images : Me P w K mg base 4 cP "group_images" (spImages K cPg cD cP))
    (c_Pool_close_group : Me P w K mg base 6 cP "close_group" (spClose K cPg cD cP)) (c_Pool_drop_group : Me P w K mg base 6 cP "drop_group" (spDrop K cPg cD cP)) (c_Pool_flush : Me P w K mg base 5 cP "flush" (spFlush K cPF cPg cD cP)) :
    FnOk P w K mg base (L2.CX P w) 11 f fd ["script"] (spLaw K Pl Pf) := by
  have hTm := tq_l (Pl := Pl) (Pf := Pf)
  have hTu := tq_ul nT
  have wp := W.toWp
  have wd := W.toWd
  obtain ⟨oc, od, dV, kV, doc, pm, an, cdv, ct, osl, rfl, lk, hcd, _, _⟩ := F.ex
  obtain rfl : cdv = .ref c := hc
  refine fn_of lk hcd sc_law (fun vs H Q E h => ?_) fun A outer s H vs Q E hr h => ?_
  · obtain ⟨a, ns, rfl, _⟩ := h; rfl
  obtain ⟨a, ns, rfl, hS, h63, hT, q⟩ := h
  refine ⟨_, (pss_cons (ps_for (passes_of rfl) rfl (pi_list (pe_cl c__law_rounds hr (by decide) rfl passL (pa_cons (pv 0) (pa_cons pe_int pa_nil)))) (pg_name (i := 1) sc_law.nd rfl (Or.inl rfl))
    (pss_cons (ps_asg (pe_tup (pa_cons (Dq.pe_mcd c_Disk1 hr (by decide) rfl passL (pa_cons pe_int pa_nil)) (pa_cons (pe_op op_add pe_int (pe_cl c__law_roll hr (by decide) rfl passL (pa_cons (pv 1) (pa_cons pe_int pa_nil)))) pa_nil))) (pg_tup rfl (pgs_cons (pg_name (i := 2) sc_law.nd rfl (by first | exact Or.inl rfl | exact Or.inr rfl)) (pgs_cons (pg_name (i := 3) sc_law.nd rfl (Or.inl rfl)) pgs_nil))))
    (pss_cons (ps_asg (pe_tup (pa_cons (pe_mc c_Pool hr (by decide) rfl passL (pa_cons (pv 2) (pa_cons (pv 3) pa_nil))) (pa_cons pe_dnewK (pa_cons pe_dnewK (pa_cons (pe_lst pa_nil) (pa_cons pe_dnewK pa_nil)))))) (pg_tup rfl (pgs_cons (pg_name (i := 4) sc_law.nd rfl (Or.inr rfl)) (pgs_cons (pg_name (i := 5) sc_law.nd rfl (Or.inl rfl)) (pgs_cons (pg_name (i := 6) sc_law.nd rfl (by first | exact Or.inl rfl | exact Or.inr rfl)) (pgs_cons (pg_name (i := 7) sc_law.nd rfl (by first | exact Or.inl rfl | exact Or.inr rfl)) (pgs_cons (pg_name (i := 8) sc_law.nd rfl (Or.inl rfl)) pgs_nil)))))))
    (pss_cons (ps_for (passes_of rfl) rfl (pi_range1 rfl W.n_range (pa_cons pe_int pa_nil)) (pg_name (i := 9) sc_law.nd rfl (Or.inl rfl))
    (pss_cons (ps_asg (pe_cl c__law_page hr (by decide) rfl passL (pa_cons (pv 1) pa_nil)) (pg_sub (pv 6) (pv 9) (set_dict (hu_of hr))))
    (pss_one (ps_expr (pe_me c_Pool_put hr (by decide) passL (pv 4) (pa_cons (pv 9) (pa_cons (pe_dget (hu_of hr) (pv 6) (pv 9) (fun _ _ => rfl)) pa_nil)))))))
    (pss_cons (ps_expr (pe_me0 c_Pool_close_group hr (by decide) passL (pv 4)))
    (pss_cons (ps_set (i := 5) sc_law.nd rfl (Or.inl rfl) (pe_callTy Dq.call_dictC rfl W.n_dict (by decide +kernel) (pa_cons (pv 6) pa_nil)))
    (pss_cons (ps_for (passes_of rfl) rfl (pi_range1 rfl W.n_range (pa_cons (pe_cl c__law_roll hr (by decide) rfl passL (pa_cons (pv 1) (pa_cons pe_int pa_nil))) pa_nil)) (pg_name (i := 10) sc_law.nd rfl (Or.inl rfl))
    (pss_cons (ps_par (i := 11) (j := 9) (by rfl) sc_law.nd rfl rfl (by decide) rfl rfl (pa_cons (pe_cl c__law_roll hr (by decide) rfl passL (pa_cons (pv 1) (pa_cons pe_int pa_nil))) (pa_cons (pe_cl c__law_roll hr (by decide) rfl passL (pa_cons (pv 1) (pa_cons pe_int pa_nil))) pa_nil)) (by rfl))
    (pss_cons (ps_if (PW.pt (pw_and (pt_cmpR op_lt (pv 11) pe_int (nomark _)) (pw_and1 (pt_not (pt_val (pe_cl c__law_same hr (by decide) rfl passL (pa_cons (pe_me c_Pool_page hr (by decide) passL (pv 4) (pa_cons (pv 9) pa_nil)) (pa_cons (pe_dget (hu_of hr) (pv 6) (pv 9) (fun _ _ => rfl)) pa_nil))))))))
    (pss_one (ps_ret pe_bl))
    pss_nil)
    (pss_cons (ps_if (pt_cmpR op_in_seq (pv 11) (pe_lst (pa_cons pe_int (pa_cons pe_int pa_nil))) (by with_unfolding_all rfl))
    (pss_cons (ps_asg (pe_cl c__law_page hr (by decide) rfl passL (pa_cons (pv 1) pa_nil)) (pg_sub (pv 6) (pv 9) (set_dict (hu_of hr))))
    (pss_cons (ps_if (pt_cmpR op_notIn_seq (pv 9) (pv 7) (by with_unfolding_all rfl))
    (pss_one (ps_asg (pe_callB call_len_seq rfl W.n_len PySem.boot_len (pa_cons (pe_fld (pv 2) rfl) pa_nil)) (pg_sub (pv 8) (pv 9) (set_dict (hu_of hr)))))
    pss_nil)
    (pss_cons (ps_expr (pe_me c_Pool_put hr (by decide) passL (pv 4) (pa_cons (pv 9) (pa_cons (pe_dget (hu_of hr) (pv 6) (pv 9) (fun _ _ => rfl)) pa_nil))))
    (pss_one (ps_set (i := 7) sc_law.nd rfl (by first | exact Or.inl rfl | exact Or.inr rfl) (pe_op op_cat (pv 7) (pe_lst (pa_cons (pv 9) pa_nil))))))))
    pss_nil)
    (pss_cons (ps_if (pt_cmpR op_eq (pv 11) pe_int (nomark _))
    (pss_cons (ps_set (i := 12) sc_law.nd rfl (Or.inl rfl) (pe_me0 c_Pool_group_images hr (by decide) passL (pv 4)))
    (pss_cons (ps_if (pt_cmpR (op_neD (hu64 hr)) (pe_lc (own := [("one", 13), ("data", 14)]) rfl sc_law.nd (pi_list (pv 12)) (blkOk_by (own := [("one", 13), ("data", 14)]) (N := ["script", "dice", "disk", "capacity", "pool", "kept", "now", "group", "marks", "number", "step", "sort", "images", "one", "data", "told_now", "loose", "number_now", "large"]) (sc := defScope s_law) (by decide +kernel)) (fun _ _ _ _ _ => (Fw.pg_tupK K 2 rfl rfl (pgs_cons (pg_name (i := 13) sc_law.nd rfl (by first | exact Or.inl rfl | exact Or.inr rfl)) (pgs_cons (pg_name (i := 14) sc_law.nd rfl (by first | exact Or.inl rfl | exact Or.inr rfl)) pgs_nil)) rfl rfl)) (fun _ _ _ _ _ => pts_nil) (fun _ _ _ _ _ => (pv 13))) (pe_callB (call_sortedDI rfl) rfl W.n_sorted (by decide +kernel) (pa_cons (pe_callTy (call_dictP rfl) rfl W.n_dict (by decide +kernel) (pa_cons (pe_lc (own := [("one", 13)]) rfl sc_law.nd (pi_list (pv 7)) (blkOk_by (own := [("one", 13)]) (N := ["script", "dice", "disk", "capacity", "pool", "kept", "now", "group", "marks", "number", "step", "sort", "images", "one", "data", "told_now", "loose", "number_now", "large"]) (sc := defScope s_law) (by decide +kernel)) (fun _ _ _ _ _ => (pg_name (i := 13) sc_law.nd rfl (by first | exact Or.inl rfl | exact Or.inr rfl))) (fun _ _ _ _ _ => pts_nil) (fun _ _ _ _ _ => (pe_tup (pa_cons (pv 13) (pa_cons pe_int pa_nil))))) pa_nil)) pa_nil)) (nomark _))
    (pss_one (ps_ret pe_bl))
    pss_nil)
    (pss_cons (ps_if (pt_cmpR (op_neD (hu64 hr)) (pe_lc (own := [("one", 13), ("data", 14)]) rfl sc_law.nd (pi_list (pv 12)) (blkOk_by (own := [("one", 13), ("data", 14)]) (N := ["script", "dice", "disk", "capacity", "pool", "kept", "now", "group", "marks", "number", "step", "sort", "images", "one", "data", "told_now", "loose", "number_now", "large"]) (sc := defScope s_law) (by decide +kernel)) (fun _ _ _ _ _ => (Fw.pg_tupK K 2 rfl rfl (pgs_cons (pg_name (i := 13) sc_law.nd rfl (by first | exact Or.inl rfl | exact Or.inr rfl)) (pgs_cons (pg_name (i := 14) sc_law.nd rfl (by first | exact Or.inl rfl | exact Or.inr rfl)) pgs_nil)) rfl rfl)) (fun _ _ _ _ _ => (pts_one (pt_not (pt_val (pe_cl c__law_same hr (by decide) rfl passL (pa_cons (pe_cl c_page_from hr (by decide) rfl passL (pa_cons (pv 14) pa_nil)) (pa_cons (pe_dget (hu_of hr) (pv 6) (pv 13) (fun _ _ => rfl)) pa_nil))))))) (fun _ _ _ _ _ => (pv 13))) (pe_lst pa_nil) (nomark _))
    (pss_one (ps_ret pe_bl))
    pss_nil)
    (pss_cons (ps_expr (pe_me0 c_Pool_close_group hr (by decide) passL (pv 4)))
    (pss_one (ps_asg (pe_tup (pa_cons (pe_callTy Dq.call_dictC rfl W.n_dict (by decide +kernel) (pa_cons (pv 6) pa_nil)) (pa_cons (pe_lst pa_nil) pa_nil))) (pg_tup rfl (pgs_cons (pg_name (i := 5) sc_law.nd rfl (Or.inl rfl)) (pgs_cons (pg_name (i := 7) sc_law.nd rfl (by first | exact Or.inl rfl | exact Or.inr rfl)) pgs_nil)))))))))
    pss_nil)
    (pss_cons (ps_if (pt_cmpR op_eq (pv 11) pe_int (nomark _))
    (pss_cons (ps_expr (pe_me0 c_Pool_drop_group hr (by decide) passL (pv 4)))
    (pss_one (ps_asg (pe_tup (pa_cons (pe_callTy Dq.call_dictC rfl W.n_dict (by decide +kernel) (pa_cons (pv 5) pa_nil)) (pa_cons (pe_lst pa_nil) pa_nil))) (pg_tup rfl (pgs_cons (pg_name (i := 6) sc_law.nd rfl (by first | exact Or.inl rfl | exact Or.inr rfl)) (pgs_cons (pg_name (i := 7) sc_law.nd rfl (by first | exact Or.inl rfl | exact Or.inr rfl)) pgs_nil))))))
    pss_nil)
    (pss_cons (ps_if (pt_cmpR op_eq (pv 11) pe_int (nomark _))
    (pss_cons (ps_set (i := 15) sc_law.nd rfl (Or.inl rfl) (pe_lamT W.d__law_told W.e_PageFault.og hTm hTu TB rfl (("law" : Str) ++ (".<locals>." : Str)) rfl hr (defScope s_law) rfl (by decide +kernel) rfl (fun _ _ _ _ _ => rfl) rfl (fun A outer s H E f c1 hr => (pe_me0 c_Pool_flush hr (by decide) passLam (pv 4)))))
    (pss_cons (ps_if (pt_cmpR op_ne (pe_cmpR op_eq (pv 15) pe_str (nomark _)) (pe_cmpR (op_neD (hu64 hr)) (pv 7) (pe_lst pa_nil) (nomark _)) (nomark _))
    (pss_one (ps_ret pe_bl))
    pss_nil)
    (pss_one (ps_if (PW.pt (pw_and (pt_cmpR (op_eqD (hu64 hr)) (pv 7) (pe_lst pa_nil) (nomark _)) (pw_and1 (pt_cmpR (op_neD (hu64 hr)) (pe_lc (own := [("one", 13)]) rfl sc_law.nd (pi_range1 rfl W.n_range (pa_cons pe_int pa_nil)) (blkOk_by (own := [("one", 13)]) (N := ["script", "dice", "disk", "capacity", "pool", "kept", "now", "group", "marks", "number", "step", "sort", "images", "one", "data", "told_now", "loose", "number_now", "large"]) (sc := defScope s_law) (by decide +kernel)) (fun _ _ _ _ _ => (pg_name (i := 13) sc_law.nd rfl (by first | exact Or.inl rfl | exact Or.inr rfl))) (fun _ _ _ _ _ => (pts_one (pt_not (pt_val (pe_cl c__law_same hr (by decide) rfl passL (pa_cons (pe_cl c_page_from hr (by decide) rfl passL (pa_cons (pe_dget (hu_of hr) (pe_fldK K (pv 2) rfl rfl) (pv 13) (fun _ _ => rfl)) pa_nil)) (pa_cons (pe_dget (hu_of hr) (pv 6) (pv 13) (fun _ _ => rfl)) pa_nil))))))) (fun _ _ _ _ _ => (pv 13))) (pe_lst pa_nil) (nomark _)))))
    (pss_one (ps_ret pe_bl))
    pss_nil))))
    pss_nil)
    (pss_cons (ps_lock (ps_setLc (i := 16) (own := [("one", 13)]) rfl sc_law.nd rfl rfl (sw_true rfl rfl rfl (by decide +kernel)) (pi_keys (pe_fld (pv 4) rfl)) (blkOk_by (own := [("one", 13)]) (N := ["script", "dice", "disk", "capacity", "pool", "kept", "now", "group", "marks", "number", "step", "sort", "images", "one", "data", "told_now", "loose", "number_now", "large"]) (sc := defScope s_law) (by decide +kernel)) (fun _ _ _ _ _ => (pg_name (i := 13) sc_law.nd rfl (by first | exact Or.inl rfl | exact Or.inr rfl))) (fun _ _ _ _ _ => (pts_one (pt_cmpR (op_notInK K rfl) (pv 13) (pv 7) (by with_unfolding_all rfl)))) (fun _ _ _ _ _ => (pv 13))))
    (pss_cons (ps_if (PW.pt (pw_and (pt_cmpR op_gt (pe_callB call_len_seq rfl W.n_len PySem.boot_len (pa_cons (pv 16) pa_nil)) (pe_callB (call_max2 rfl) rfl W.n_max (by decide +kernel) (pa_cons (pv 3) (pa_cons pe_int pa_nil))) (nomark _)) (pw_and1 (pt_cmpR op_gt (pe_callB L2.call_lenD rfl W.n_len PySem.boot_len (pa_cons (pe_fld (pv 4) rfl) pa_nil)) (pe_op op_add (pv 3) pe_int) (nomark _)))))
    (pss_one (ps_ret pe_bl))
    pss_nil)
    (pss_one (ps_for (passes_of rfl) rfl (pi_list (pv 7)) (pg_name (i := 13) sc_law.nd rfl (by first | exact Or.inl rfl | exact Or.inr rfl))
    (pss_one (ps_if (pt_cmpR (op_neD (hu64 hr)) (pe_lc (own := [("number_now", 17), ("data", 14)]) rfl sc_law.nd (pi_list (pe_slice sl_list (pe_fld (pv 2) rfl) (po_some (pe_dget (hu_of hr) (pv 8) (pv 13) (fun _ _ => rfl))) po_none)) (blkOk_by (own := [("number_now", 17), ("data", 14)]) (N := ["script", "dice", "disk", "capacity", "pool", "kept", "now", "group", "marks", "number", "step", "sort", "images", "one", "data", "told_now", "loose", "number_now", "large"]) (sc := defScope s_law) (by decide +kernel)) (fun _ _ _ _ _ => (Fw.pg_tupK K 2 rfl rfl (pgs_cons (pg_name (i := 17) sc_law.nd rfl (by first | exact Or.inl rfl | exact Or.inr rfl)) (pgs_cons (pg_name (i := 14) sc_law.nd rfl (by first | exact Or.inl rfl | exact Or.inr rfl)) pgs_nil)) rfl rfl)) (fun _ _ _ _ _ => (pts_one (pt_cmpR op_eq (pv 17) (pv 13) (nomark _)))) (fun _ _ _ _ _ => pe_int)) (pe_lst pa_nil) (nomark _))
    (pss_one (ps_ret pe_bl))
    pss_nil)))))))))))))
    (pss_cons (ps_for (passes_of rfl) rfl (pi_range1 rfl W.n_range (pa_cons pe_int pa_nil)) (pg_name (i := 9) sc_law.nd rfl (Or.inl rfl))
    (pss_one (ps_if (pt_not (pt_val (pe_cl c__law_same hr (by decide) rfl passL (pa_cons (pe_me c_Pool_page hr (by decide) passL (pv 4) (pa_cons (pv 9) pa_nil)) (pa_cons (pe_dget (hu_of hr) (pv 6) (pv 9) (fun _ _ => rfl)) pa_nil)))))
    (pss_one (ps_ret pe_bl))
    pss_nil)))
    (pss_cons (ps_set (i := 18) sc_law.nd rfl (Or.inr rfl) (pe_mc c_Page hr (by decide) rfl passL (pa_cons pe_int (pa_cons pe_int (pa_cons (pe_lst (pa_cons (pe_tup (pa_cons (pe_tup (pa_cons pe_int pa_nil)) (pa_cons (pe_op op_repA (pe_tup (pa_cons pe_int pa_nil)) pe_int) pa_nil))) pa_nil)) pa_nil)))))
    (pss_cons (ps_if (PW.pt (pw_or (pt_cmpR (op_neO (hu64 hr)) (pe_lamT W.d__law_told W.e_PageFault.og hTm hTu TB rfl (("law" : Str) ++ (".<locals>." : Str)) rfl hr (defScope s_law) rfl (by decide +kernel) rfl (fun _ _ _ _ _ => rfl) rfl (fun A outer s H E f c1 hr => (pe_me c_Pool_put hr (by decide) passLam (pv 4) (pa_cons pe_int (pa_cons (pv 18) pa_nil))))) pe_str (nomark _)) (pw_or1 (pt_not (pt_val (pe_cl c__law_same hr (by decide) rfl passL (pa_cons (pe_me c_Pool_page hr (by decide) passL (pv 4) (pa_cons pe_int pa_nil)) (pa_cons (pe_dget (hu_of hr) (pv 6) pe_int (fun _ _ => rfl)) pa_nil))))))))
    (pss_one (ps_ret pe_bl))
    pss_nil)
    (pss_one (ps_if (PW.pt (pw_or (pt_cmpR op_lt (pe_fld (pv 4) rfl) pe_int (nomark _)) (pw_or (pt_cmpR op_lt (pe_fld (pv 4) rfl) (pe_callB call_len_seq rfl W.n_len PySem.boot_len (pa_cons (pe_lock (pe_lc (own := [("one", 13)]) rfl sc_law.nd (pi_keys (pe_fld (pv 2) rfl)) (blkOk_by (own := [("one", 13)]) (N := ["script", "dice", "disk", "capacity", "pool", "kept", "now", "group", "marks", "number", "step", "sort", "images", "one", "data", "told_now", "loose", "number_now", "large"]) (sc := defScope s_law) (by decide +kernel)) (fun _ _ _ _ _ => (pg_name (i := 13) sc_law.nd rfl (by first | exact Or.inl rfl | exact Or.inr rfl))) (fun _ _ _ _ _ => pts_nil) (fun _ _ _ _ _ => (pv 13)))) pa_nil)) (nomark _)) (pw_or1 (pt_cmpR op_ne (pe_fld (pv 4) rfl) (pv 3) (nomark _))))))
    (pss_one (ps_ret pe_bl))
    pss_nil))))))))))))
    (pss_one (ps_ret (pe_cmpR op_eq (pe_lamT W.d__law_told W.e_PageFault.og hTm hTu TB rfl (("law" : Str) ++ (".<locals>." : Str)) rfl hr (defScope s_law) rfl (by decide +kernel) rfl (fun _ _ _ _ _ => rfl) rfl (fun A outer s H E f c1 hr => (pe_mc c_Pool hr (by decide) rfl passLam (pa_cons (Dq.pe_mcd c_Disk1 hr (by decide) rfl passLam (pa_cons pe_int pa_nil)) (pa_cons pe_int pa_nil))))) pe_str (nomark _))))), ?_⟩
  walk_at "g"
  refine ⟨a, ns, 1, rfl, hS, h63, fun p H1 dcs s1 fp ep hds hl => ?_⟩
  refine w_forL (SqL.of ep) (fun i σ Hc => Good (TQ Pl Pf) p dcs Hc ∧ ∃ v1 v2 v3 v4 v5 v6 v7 v8 v9 v10 v11 v12 v13 v14 v15 v16 v17 v18 : Option V, σ = [some (.ref a), v1, v2, v3, v4, v5, v6, v7, v8, v9, v10, v11, v12, v13, v14, v15, v16, v17, v18])
    ⟨⟨ep, fun d hd => (hds d hd).1, hT.ext s1⟩, none, none, none, none, none, none, none, none, none, none, none, none, none, none, none, none, none, none, rfl⟩ (fun i σ Hc _ h => SqL.of h.1.lst) ?_ ?_
  · rintro i x σ H2 hi ⟨g, v1, v2, v3, v4, v5, v6, v7, v8, v9, v10, v11, v12, v13, v14, v15, v16, v17, v18, rfl⟩
    obtain ⟨e, he, rfl⟩ : ∃ d ∈ dcs, x = V.ref d := by
      obtain ⟨d, e1, e2⟩ := map_get hi
      exact ⟨d, List.mem_of_getElem? e1, e2⟩
    walk_at "g"
    intro d dx hd hdx ne
    have sx : Same H2 (upd (upd H2 dx (.own d)) d (.ins cD dx [])) := (same_new hdx _).trans (same_new (by rw [upd_ne ne.symm]; exact hd) _)
    refine ⟨d, dx, aE, [], .non, [], rfl, upd_same, W.k_e _, .inl ⟨rfl, rfl⟩, fun bA qA wA H3 s3 f1 f2 f3 n1 n2 n3 d3 => ⟨rfl, ?_⟩⟩
    have ux : ∀ {b}, (upd (upd H2 dx (.own d)) d (.ins cD dx [])) b = none → d ≠ b := fun h z => by rw [← z, upd_same] at h; cases h
    have s23 : Same H2 H3 := fun b o e => s3 b o (sx b o e) (.inl fun z => by
      rw [List.mem_singleton.mp z, hd] at e
      cases e)
    have fr2 : ∀ {b}, (upd (upd H2 dx (.own d)) d (.ins cD dx [])) b = none → H2 b = none := fun {b} h => by
      cases e : H2 b with
      | none => rfl
      | some o => rw [sx b o e] at h; cases h
    have g3 : Good (TQ Pl Pf) p dcs H3 := g.ch (M := []) (Ch.of s23) List.not_mem_nil (fun _ _ => .inl List.not_mem_nil) (g.tab.ext s23)
    walk_at "g"
    refine w_roll (by decide) (by decide) (Kp.refl e H3) (g3.dice e he) fun r H4 r0 r1 k4 _ d4 => ?_
    have c34 := Cs.kp k4 (g3.dice e he)
    have ed : ∀ {b}, H2 b = none → b ∉ [e] := fun h z => by
      obtain ⟨u, v, w, y⟩ := g.dice e he
      rw [List.mem_singleton.mp z, y] at h
      cases h
    have g4 : Good (TQ Pl Pf) p dcs H4 := g3.ch c34.ch (fun z => g3.ne he (List.mem_singleton.mp z)) (fun b hb => by
      by_cases y : b = e
      · exact .inr (y ▸ d4)
      · exact .inl fun z => y (List.mem_singleton.mp z)) (M11.Tabs.cs g3.tab c34)
    have dk4 := d3.ch c34.ch (ed hd) (ed (fr2 f1)) (ed (fr2 f2)) (ed (fr2 f3))
    have h24 : ∀ {b o}, H2 b = some o → ∃ o', H4 b = some o' := fun {b o} h => by
      by_cases y : b = e
      · obtain ⟨u, v, w, y'⟩ := d4
        exact ⟨_, y ▸ y'⟩
      · exact ⟨o, k4 _ _ y (s23 _ _ h)⟩
    clear k4 d4
    have hcap : 1 ≤ 1 + r := by omega
    walk_at "g"
    generalize 1 + r = cap at hcap
    intro t1 ht1
    have s5 := same_new ht1 (.tup [.ref d, .int cap])
    have e5 : upd H4 t1 (.tup [.ref d, .int cap]) t1 = some (.tup [.ref d, .int cap]) := upd_same
    generalize upd H4 t1 (.tup [.ref d, .int cap]) = H5 at s5 e5
    have dk5 := dk4.sm s5
    have g5 := g4.ch (M := []) (Ch.of s5) List.not_mem_nil (fun _ _ => .inl List.not_mem_nil) (g4.tab.ext s5)
    refine w_gtup e5 rfl ?_
    walk_at "g"
    intro x dx2 hx hdx2 ne2
    have sx5 : Same H5 (upd (upd H5 dx2 (.own x)) x (.ins cP dx2 [])) := (same_new hdx2 _).trans (same_new (by rw [upd_ne ne2.symm]; exact hx) _)
    refine ⟨x, dx2, d, cap, rfl, upd_same, fun z => by omega, fun _ pA cA oA rA H6 s6 fp1 fc1 fo1 fr1 ex er ep1 ec1 eo1 m1 m2 m3 => ⟨rfl, ?_⟩⟩
    obtain ⟨sy6, s56⟩ := sys0 hx dk5 (ux f1) (ux f2) (ux f3) n1 n2 n3 sx5 ⟨_, upd_same⟩ s6 fp1 fc1 fo1 fr1 ex er ep1 ec1 eo1 m1 m2 m3
    have g6 := g5.ch (M := []) (Ch.of s56) List.not_mem_nil (fun _ _ => .inl List.not_mem_nil) (g5.tab.ext s56)
    have nM : ∀ {b o}, H2 b = some o → b ∉ [x, pA, cA, oA, rA, d, bA, qA, wA] := fun {b o} h z => by
      obtain ⟨o', h5⟩ := h24 h
      replace h5 := s5 _ _ h5
      simp only [List.mem_cons, List.not_mem_nil, or_false] at z
      rcases z with z | z | z | z | z | z | z | z | z
      · rw [z, hx] at h5; cases h5
      · rw [z] at h5; have := sx5 _ _ h5; rw [fp1] at this; cases this
      · rw [z] at h5; have := sx5 _ _ h5; rw [fc1] at this; cases this
      · rw [z] at h5; have := sx5 _ _ h5; rw [fo1] at this; cases this
      · rw [z] at h5; have := sx5 _ _ h5; rw [fr1] at this; cases this
      · rw [z, hd] at h; cases h
      · rw [z, fr2 f1] at h; cases h
      · rw [z, fr2 f2] at h; cases h
      · rw [z, fr2 f3] at h; cases h
    clear hx hdx2 ne2 sx5 s6 fp1 fc1 fo1 fr1 ex er ep1 ec1 eo1 m1 m2 m3 dk5 dk4 d3
    walk_at "g"
    intro kA hkA
    have s7 := same_new hkA (.dK [])
    have ek : upd H6 kA (.dK []) kA = some (.dK []) := upd_same
    generalize upd H6 kA (.dK []) = H7 at s7 ek
    walk_at "g"
    intro nA hnA
    have s8 := same_new hnA (.dK [])
    have en : upd H7 nA (.dK []) nA = some (.dK []) := upd_same
    generalize upd H7 nA (.dK []) = H8 at s8 en
    walk_at "g"
    intro gA hgA
    have s9 := same_new hgA (.lst [])
    have eg : upd H8 gA (.lst []) gA = some (.lst []) := upd_same
    generalize upd H8 gA (.lst []) = H9 at s9 eg
    walk_at "g"
    intro mA hmA
    have s10 := same_new hmA (.dK [])
    have em : upd H9 mA (.dK []) mA = some (.dK []) := upd_same
    generalize upd H9 mA (.dK []) = H10 at s10 em
    walk_at "g"
    intro t2 ht2
    have s11 := same_new ht2 (.tup [.ref x, .ref kA, .ref nA, .ref gA, .ref mA])
    have e11 : upd H10 t2 (.tup [.ref x, .ref kA, .ref nA, .ref gA, .ref mA]) t2 = some (.tup [.ref x, .ref kA, .ref nA, .ref gA, .ref mA]) := upd_same
    generalize upd H10 t2 (.tup [.ref x, .ref kA, .ref nA, .ref gA, .ref mA]) = H11 at s11 e11
    have st : St K cPg cD cP (TQ Pl Pf) p dcs x d cap H11 ⟨⟨dx2, pA, cA, oA, rA, bA, qA, wA⟩, S0, D0, C0, C0, C0, nA, kA, mA, gA, [], [], [], 0, 0, []⟩ := by
      have sy7 := sy6.sm s7
      have sy8 := sy7.sm s8
      have sy9 := sy8.sm s9
      have s611 := (((s7.trans s8).trans s9).trans s10).trans s11
      have k5 : ∀ {P : Prop}, (∃ p, p ∈ ([] : List (Key × V))) → P := fun ⟨p, h⟩ => absurd h List.not_mem_nil
      refine ⟨sy6.sm s611, pi0, ⟨g6.ch (M := []) (Ch.of s611) List.not_mem_nil (fun _ _ => .inl List.not_mem_nil) (g6.tab.ext s611), s11 _ _ (s10 _ _ (s9 _ _ en)), s11 _ _ (s10 _ _ (s9 _ _ (s8 _ _ ek))), s11 _ _ em, s11 _ _ (s10 _ _ eg),
        ⟨sy7.nin hnA, sy6.nin hkA, sy9.nin hmA, sy8.nin hgA, nM g.lst⟩, fun b hb => ?_, ⟨(ne_of_none ek hnA).symm, ne_of_none (s9 _ _ en) hmA, ne_of_none (s9 _ _ (s8 _ _ ek)) hmA⟩, fun b hb => ?_⟩, fun n hn => absurd hn (Nat.not_lt_zero _), fun n hn => absurd hn (Nat.not_lt_zero _),
        ⟨fun p h => k5 ⟨p, h⟩, List.nodup_nil⟩, ⟨fun p h => k5 ⟨p, h⟩, List.nodup_nil⟩, ⟨fun p h => k5 ⟨p, h⟩, List.nodup_nil⟩, Int.le_refl _, ?_⟩
      · obtain ⟨u, v, w, y⟩ := g.dice b hb
        exact nM y
      · obtain ⟨u, v, w, y⟩ := g6.dice b hb
        exact (ne_of_none ((s7.trans s8) _ _ y) hgA).symm
      · show ((0 : Nat) : Int) ≤ max cap _
        omega
    clear sy6 s56 nM s7 ek s8 en s9 eg s10 em s11 hkA hnA hgA hmA ht2 g6 g5 g4 g3 s5 e5 h24 c34 ed fr2 s23 ux f1 f2 f3 n1 n2 n3 s3 sx hd hdx ne ht1
    refine w_gtup e11 rfl ?_
    clear e11
    walk_at "g"
    generalize (⟨dx2, pA, cA, oA, rA, bA, qA, wA⟩ : Ad) = L0 at st
    refine w_forRp ⟨by decide, by decide⟩ (fun i σ H' => ∃ (v9 : Option V) (L : Ad) (S : PS) (D : DS) (now : Cont) (nk : List (Key × V)), σ = [some (.ref a), some (.ref e), some (.ref d), some (.int cap), some (.ref x), some (.ref kA), some (.ref nA), some (.ref gA), some (.ref mA), v9, v10, v11, v12, v13, v14, v15, v16, v17, v18] ∧
      St K cPg cD cP (TQ Pl Pf) p dcs x d cap H' ⟨L, S, D, now, C0, now, nA, kA, mA, gA, nk, [], [], i, 0, []⟩ ∧ S.wr ≤ 5 * i) ⟨v9, L0, S0, D0, C0, [], rfl, st, Int.le_refl _⟩ ?_ ?_
    · clear st
      rintro i σ H' hi5 ⟨w9, L, S, D, now, nk, rfl, st, hw⟩
      have hi6 : i < 5 := by omega
      rw [Int.zero_add]
      walk_at "g"
      refine ⟨e, rfl, st.rs.good.dice e he, fun q' H1' c k1 d1 hq pok => ?_⟩
      have st1 := st.kp he k1 d1
      have l5 := st1.kn.1.len st1.kn.2
      walk_at "g"
      refine ⟨nA, _, rfl, DPut.k (k := .inl (i : Int)) st1.rs.n1 (Nat.lt_of_le_of_lt l5 (by decide)), ?_⟩
      have st2 := st1.setN (N := i + 1) (st1.kn.1.put hi6) (nodup_put st1.kn.2) (st1.cn.put hq (N' := i + 1) fun m hm => by show m = i ∨ m < i; omega)
      have hq2 : PgC K cPg (upd H1' nA (.dK (putK nk (.inl (i : Int)) (.ref q')))) q' c := (Kps.dk st1.rs.n1).p _ _ hq
      change St K cPg cD cP (TQ Pl Pf) p dcs x d cap (upd H1' nA (.dK (putK nk (.inl (i : Int)) (.ref q')))) ⟨L, S, D, now, C0, now.set i (some c), nA, kA, mA, gA, putK nk (.inl (i : Int)) (.ref q'), [], [], i + 1, 0, []⟩ at st2
      generalize upd H1' nA (.dK (putK nk (.inl (i : Int)) (.ref q'))) = H2' at st2 hq2
      clear st1 st k1 d1 hq l5
      have hx := st2.sy.hx
      walk_at "g"
      refine ⟨x, L.dx, _, rfl, hx, mp_none (by decide +kernel), ?_⟩
      walk_at "g"
      refine ⟨nA, .ref q', rfl, put_same (k := Sum.inl (i : Int)) ▸ DGet.k (k := .inl (i : Int)) st2.rs.n1, ?_⟩
      walk_at "g"
      refine ⟨x, d, cap, L, S, D, now, C0, i, q', c, rfl, st2.sy, st2.pi, hcap, hi6, by omega, st2.sz, hq2, by have := pok.len; omega, (fun z => by have := pok.sz; omega), fun _ => ⟨pok, fun H3' S' D' s3 sy3 pi3 tr ogs sz3 => ?_⟩⟩
      have w1 := tr.w1
      have st3 := st2.deed2 (M' := 0) s3.ch (M11.Tabs.cs st2.rs.good.tab s3) Nw.refl sy3 pi3 tr.rd sz3 (.inl rfl)
      exact ⟨_, _, _, _, _, _, rfl, st3, by omega⟩
    · clear st
      rintro σ H' ⟨w9, L, S, D, now, nk, rfl, st, hw⟩
      rw [show (5 : Int).toNat = 5 from rfl] at st hw
      have hx := st.sy.hx
      walk_at "g"
      refine ⟨x, L.dx, _, rfl, hx, mp_none (by decide +kernel), ?_⟩
      walk_at "g"
      refine ⟨x, d, cap, L, S, D, now, C0, rfl, st.sy, st.pi, hcap, by omega, fun H1' L1 S1 D1 s1' nw sy1 pi1 q1 w0 w1 og1 sz1 => ?_⟩
      have st1 := st.deed2 (M' := 0) s1'.ch (M11.Tabs.cs st.rs.good.tab s1') nw sy1 pi1 (by rw [q1]; exact Int.le_refl _) sz1 (.inl rfl)
      clear hx st s1' nw sy1 pi1
      walk_at "g"
      refine ⟨nA, nk, rfl, .inl st1.rs.n1, fun k hk => ?_⟩
      have s2' := same_new hk (.dK nk)
      have st2 := st1.newK hk s2' upd_same rfl
      generalize upd H1' k (.dK nk) = H2' at st2
      have iv : Iv K cPg cD cP (TQ Pl Pf) p dcs x d cap H2' ⟨L1, S1, D1, now, now, now, nA, k, mA, gA, nk, nk, [], 5, 5, []⟩ 30 0 := ⟨st2, rfl, rfl, rfl, fun m => by
        show m ∈ ([] : List Int) ↔ (valV S1.og (.inl m)).isSome = true
        rw [og1, valV_nil]
        exact ⟨fun z => absurd z List.not_mem_nil, fun z => absurd z Bool.false_ne_true⟩, fun m hm => absurd hm List.not_mem_nil, by show S1.wr ≤ ((30 : Nat) : Int); omega, Nat.le_refl _⟩
      clear st1 st2 s2' hk
      walk_at "g"
      refine w_roll (by decide) (by decide) (Kp.refl e H2') (iv.st.rs.good.dice e he) fun m H3' m0 m1 k3 _ d3' => ?_
      replace iv := iv.kp he k3 d3'
      clear k3 d3'
      walk_at "g"
      refine w_forRp ⟨m0, by omega⟩ (fun i σ H' => ∃ (z : Zs) (v9 v10 v11 v12 v13 v14 v15 v16 v17 v18 : Option V), σ = [some (.ref a), some (.ref e), some (.ref d), some (.int cap), some (.ref x), some (.ref z.kA), some (.ref z.nA), some (.ref z.gA), some (.ref z.mA), v9, v10, v11, v12, v13, v14, v15, v16, v17, v18] ∧
        Iv K cPg cD cP (TQ Pl Pf) p dcs x d cap H' z (30 + 25 * i) i) ⟨_, w9, v10, v11, v12, v13, v14, v15, v16, v17, v18, rfl, iv⟩ ?_ ?_
      · clear iv
        rintro i σ H' hi31 ⟨z, w9, w10, w11, w12, w13, w14, w15, w16, w17, w18, rfl, iv⟩
        have hi : i ≤ 30 := by omega
        walk_at "g"
        refine w_roll (by decide) (by decide) (Kp.refl e H') (iv.st.rs.good.dice e he) fun sort H1' t0 t1 k3 _ d3' => ?_
        replace iv := iv.kp he k3 d3'
        clear k3 d3'
        walk_at "g"
        refine w_roll (by decide) (by decide) (Kp.refl e H1') (iv.st.rs.good.dice e he) fun n H2' n0 n1 k3 _ d3' => ?_
        replace iv := iv.kp he k3 d3'
        clear k3 d3'
        obtain ⟨n, rfl⟩ := Int.eq_ofNat_of_zero_le n0
        have hn : n < 5 := by omega
        generalize hB : 30 + 25 * i = B at iv
        walk_at "s1"
        refine ⟨_, _, rfl, ?_⟩
        walk_at "s1"
        refine w_ifRest (Lp K cPg cD cP (TQ Pl Pf) p dcs a e d cap x (.int (n : Int)) (.int (0 + (i : Int))) (.int sort) (B + 5) i) (fun N hN => ?_) ?_
        · walk_at "g"
          refine w_iteD (fun c1 => ?_) (fun c1 => ?_)
          · have hx := iv.st.sy.hx
            walk_at "g"
            refine ⟨x, z.L.dx, _, rfl, hx, mp_none (by decide +kernel), ?_⟩
            walk_at "g"
            obtain ⟨q1, c0, hv, hnow, hq1⟩ := iv.at_ hn
            refine ⟨x, d, cap, z.L, z.S, z.D, z.now, z.kept, n, c0, rfl, iv.st.sy, iv.st.pi, hcap, hn, hnow, by have := iv.b; omega, iv.st.sz, iv.st.rs.good.tab, fun p1 H3' S' D' ch3 t3 sy3 pi3 tr og3 sz3 hp1 => ?_⟩
            have hq2 := (Kps.of (cPg := cPg) iv.st.sy ch3).p _ _ hq1
            replace iv := iv.page ch3 t3 sy3 pi3 tr og3 sz3
            clear ch3 t3 sy3 pi3 tr og3 sz3 hx hq1
            walk_at "g"
            refine ⟨z.nA, .ref q1, rfl, hv ▸ DGet.k (k := .inl (n : Int)) iv.st.rs.n1, ?_⟩
            walk_at "g"
            refine ⟨p1, q1, c0, rfl, hp1, hq2, fun H4' s4 => ?_⟩
            walk_at "g"
            rw [Bool.not_true]
            walk_at "g"
            exact hN _ _ ⟨{ z with S := S', D := D' }, _, _, _, _, _, _, _, rfl, iv.sm s4⟩
          · exact hN _ _ ⟨_, _, _, _, _, _, _, _, rfl, iv.le (by omega) (Nat.le_refl _)⟩
        · clear iv
          rintro σ' H3' ⟨z, w12, w13, w14, w15, w16, w17, w18, rfl, iv⟩
          walk_at "s1"
          refine w_ifRest (Lp K cPg cD cP (TQ Pl Pf) p dcs a e d cap x (.int (n : Int)) (.int (0 + (i : Int))) (.int sort) (B + 10) (i + 1)) (fun N hN => ?_) ?_
          · walk_at "g"
            intro l34 hl34
            have s4 := same_new hl34 (.lst [.int 3, .int 4])
            refine ⟨l34, _, rfl, .inl (SqL.of upd_same), rfl, rfl, ?_⟩
            generalize upd H3' l34 (.lst [.int 3, .int 4]) = H4' at s4
            replace iv := iv.sm s4
            rw [if_neg Bool.false_ne_true, in34]
            walk_at "g"
            refine w_iteD (fun c1 => ?_) (fun c1 => ?_)
            · walk_at "g"
              refine ⟨e, rfl, iv.st.rs.good.dice e he, fun q1 H5' c0 k5 d5 hq pok => ?_⟩
              replace iv := iv.kp he k5 d5
              clear k5 d5
              walk_at "g"
              refine ⟨z.nA, _, rfl, DPut.k (k := .inl (n : Int)) iv.st.rs.n1 (Nat.lt_of_le_of_lt (iv.st.kn.1.len iv.st.kn.2) (by decide)), ?_⟩
              have st2 := iv.st.setN (N := 5) (iv.st.kn.1.put hn) (nodup_put iv.st.kn.2) (iv.st.cn.put hq (N' := 5) fun m hm => .inr (by rw [iv.eN]; exact hm))
              have hq2 : PgC K cPg (upd H5' z.nA (.dK (putK z.nk (.inl (n : Int)) (.ref q1)))) q1 c0 := (Kps.dk iv.st.rs.n1).p _ _ hq
              generalize upd H5' z.nA (.dK (putK z.nk (.inl (n : Int)) (.ref q1))) = H6' at st2 hq2
              obtain ⟨_, ez, eN, eM, gg, mm, hb, hg⟩ := iv
              clear hq s4 hl34 c1
              walk_at "s1"
              refine w_ifRest (fun σ' H' => ∃ mk' : List (Key × V), σ' = [some (.ref a), some (.ref e), some (.ref d), some (.int cap), some (.ref x), some (.ref z.kA), some (.ref z.nA), some (.ref z.gA), some (.ref z.mA), some (.int (n : Int)), some (.int (0 + (i : Int))), some (.int sort), w12, w13, w14, w15, w16, w17, w18] ∧
                St K cPg cD cP (TQ Pl Pf) p dcs x d cap H' { z with nk := putK z.nk (.inl (n : Int)) (.ref q1), ln := z.ln.set n (some c0), N := 5, mz := mk' } ∧ PgC K cPg H' q1 c0 ∧ Mk z.D mk' z.grp ∧ ((n : Int) ∉ z.grp → valV mk' (.inl (n : Int)) = some (.int (z.D.ws.length : Nat)))) (fun N2 hN2 => ?_) ?_
              · walk_at "g"
                refine ⟨z.gA, _, rfl, .inl (SqL.of st2.rs.g1), rfl, flatInts _, ?_⟩
                rw [if_pos rfl, inInts]
                walk_at "g"
                refine w_iteN (fun c2 => ?_) (fun c2 => ?_)
                · obtain ⟨⟨ddx, lB, tB, zs, hd6, _, _, hq6, hps⟩, _⟩ := id st2.sy.dk
                  have hzl : zs.length = z.D.ws.length := Paired.length hps
                  walk_at "g"
                  refine ⟨z.L.qA, _, rfl, .inl (SqL.of hq6), ?_⟩
                  rw [List.length_map, hzl]
                  walk_at "g"
                  refine ⟨z.mA, _, rfl, DPut.k (k := .inl (n : Int)) st2.rs.m1 (Nat.lt_of_le_of_lt (st2.km.1.len st2.km.2) (by decide)), ?_⟩
                  refine hN2 _ _ ⟨putK z.mz (.inl (n : Int)) (.int (z.D.ws.length : Nat)), rfl, st2.setM (st2.km.1.put hn) (nodup_put st2.km.2), (Kps.dk st2.rs.m1).p _ _ hq2, fun m hm => ?_, fun _ => put_same⟩
                  rw [put_ne (inl_ne fun (y : m = (n : Int)) => c2 (by rw [← y]; exact hm))]
                  exact mm m hm
                · exact hN2 _ _ ⟨z.mz, rfl, st2, hq2, mm, fun y => absurd c2 y⟩
              · clear st2 hq2
                rintro σ' H6' ⟨mk', rfl, st2, hq2, mm2, hmk⟩
                have hx := st2.sy.hx
                walk_at "g"
                refine ⟨x, z.L.dx, _, rfl, hx, mp_none (by decide +kernel), ?_⟩
                walk_at "g"
                refine ⟨z.nA, .ref q1, rfl, put_same (k := Sum.inl (n : Int)) ▸ DGet.k (k := .inl (n : Int)) st2.rs.n1, ?_⟩
                walk_at "g"
                refine ⟨x, d, cap, z.L, z.S, z.D, z.now, z.kept, n, q1, c0, rfl, st2.sy, st2.pi, hcap, hn, by omega, st2.sz, hq2, by have := pok.len; omega, (fun z => by have := pok.sz; omega), fun _ => ⟨pok, fun H7' S' D' s7 sy7 pi7 tr ogs sz7 => ?_⟩⟩
                have g7 := s7.ch.lst st2.rs.g1 st2.rs.fr.2.2.2.1
                walk_at "g"
                intro ln hln
                have s8 := same_new hln (.lst [.int (n : Int)])
                have e8 : upd H7' ln (.lst [.int (n : Int)]) ln = some (.lst [.int (n : Int)]) := upd_same
                generalize upd H7' ln (.lst [.int (n : Int)]) = H8' at s8 e8
                refine w_catL (s8 _ _ g7) e8 (by rw [List.length_map]; show z.grp.length + 1 ≤ 2000; omega) fun gn hgn => ?_
                walk_at "g"
                refine hN _ _ ⟨_, _, _, _, _, _, _, _, rfl, (Iv.put st2 (by show z.ln.set n (some c0) = _; rw [ez]) rfl eM gg mm2 hb hg hmk s7 sy7 pi7 tr ogs sz7 (Same.free s8 hgn) (s8.trans (same_new hgn _)) ?_).le (by omega) (Nat.le_refl _)⟩
                rw [upd_same, List.map_append]
                rfl
            · exact hN _ _ ⟨_, _, _, _, _, _, _, _, rfl, iv.le (by omega) (by omega)⟩
          · clear iv
            rintro σ' H3' ⟨z, w12, w13, w14, w15, w16, w17, w18, rfl, iv⟩
            walk_at "s1"
            refine w_ifRest (Lp K cPg cD cP (TQ Pl Pf) p dcs a e d cap x (.int (n : Int)) (.int (0 + (i : Int))) (.int sort) (B + 15) (i + 1)) (fun N hN => ?_) ?_
            · walk_at "g"
              refine w_iteD (fun c1 => ?_) (fun c1 => ?_)
              · have hx := iv.st.sy.hx
                walk_at "g"
                refine ⟨x, z.L.dx, _, rfl, hx, mp_none (by decide +kernel), ?_⟩
                walk_at "g"
                refine ⟨x, d, cap, z.L, z.S, z.D, z.now, z.kept, rfl, iv.st.sy, iv.st.pi, fun im H4' ns zs s4 fim eim hIm hsr hnd hmem => ?_⟩
                have hnl : ns.length ≤ 5 := iv.st.pi.ko.nsl hnd fun n hn => (hmem n).mp hn
                replace iv := iv.sm s4
                clear s4 hx
                walk_at "g"
                refine w_lcLn (SqL.of eim) fun D1 hD1 => ⟨fun i H2 => Same H4' H2 ∧ H2 D1 = some (.lst ((ns.take i).map V.int)), ⟨same_new hD1 _, upd_same⟩, fun i H2 _ h => SqL.of (h.1 _ _ eim), ?_, ?_⟩
                · rintro j v H5' hj ⟨s5, e5⟩
                  obtain ⟨z1, hz1, rfl⟩ := map_get hj
                  obtain ⟨m, hm, a1, c1', _, t1', t2'⟩ := paired_get hIm hz1
                  refine w_gtupS (sqT_same t1' s5) rfl ?_
                  walk_at "g"
                  refine ⟨rfl, ?_⟩
                  walk_at "g"
                  refine ⟨_, e5, by rw [List.length_map, List.length_take]; exact Nat.lt_of_le_of_lt (by omega : min j ns.length ≤ 5) (by decide), same_upd s5 hD1, ?_⟩
                  rw [upd_same, List.take_add_one, hm, List.map_append]
                  rfl
                · rintro H5' ⟨s5, e5⟩
                  have hzl : zs.length = ns.length := Paired.length hIm
                  rw [List.length_map, hzl, List.take_length] at e5
                  replace iv := iv.sm s5
                  replace eim := s5 _ _ eim
                  replace hIm : Imgs K H5' z.now zs ns := hIm.ch (Ch.of (M := []) s5)
                  clear s5 hD1
                  walk_at "g"
                  refine w_lcLn (SqL.of iv.st.rs.g1) fun D2 hD2 => ⟨fun j H2 => ∃ qs : List Addr, qs.length = j ∧ Same H5' H2 ∧ H2 D2 = some (.lst (qs.map V.ref)) ∧ Prk K H2 qs (z.grp.take j), ⟨[], rfl, same_new hD2 _, upd_same, .nil⟩, fun j H2 _ ⟨qs, _, s6, _⟩ => SqL.of (s6 _ _ iv.st.rs.g1), ?_, ?_⟩
                  · rintro j v H6' hj ⟨qs, hql, s6, e6, pk⟩
                    obtain ⟨m, hm, rfl⟩ := ints_get hj
                    have hjl : j < z.grp.length := (List.getElem?_eq_some_iff.mp hm).1
                    have hgl := iv.g
                    walk_at "g"
                    refine ⟨rfl, ?_⟩
                    walk_at "g"
                    intro tt htt
                    have s7 := same_new htt (.tup [.int m, .int 1])
                    have e7 : upd H6' tt (.tup [.int m, .int 1]) tt = some (.tup [.int m, .int 1]) := upd_same
                    generalize upd H6' tt (.tup [.int m, .int 1]) = H7' at s7 e7
                    replace e6 := s7 _ _ e6
                    replace pk : Prk K H7' qs (z.grp.take j) := pk.ch (Ch.of (M := []) s7)
                    refine ⟨_, e6, by rw [List.length_map]; exact Nat.lt_of_le_of_lt (by omega : qs.length ≤ 40) (by decide), qs ++ [tt], by rw [List.length_append, hql]; rfl, same_upd (s6.trans s7) hD2, by rw [upd_same, List.map_append]; rfl, ?_⟩
                    rw [List.take_add_one, hm]
                    have cw : Ch [D2] H7' (upd H7' D2 (.lst (qs.map V.ref ++ [.ref tt]))) := ((Cs.refl _ _).wr mem1 e6 trivial).ch
                    exact Paired.snoc (pk.ch cw) (cw.sqT (SqT.of e7))
                  · rintro H6' ⟨qs, hql, s6, e6, pk⟩
                    rw [List.length_map, List.take_length] at pk
                    replace iv := iv.sm s6
                    replace eim := s6 _ _ eim
                    replace e5 := s6 _ _ e5
                    replace hIm : Imgs K H6' z.now zs ns := hIm.ch (Ch.of (M := []) s6)
                    clear s6 hD2
                    walk_at "g"
                    refine ⟨D2, qs, _, rfl, SqL.of e6, pk.kv, fun dct hdct => ?_⟩
                    obtain ⟨ks, hk1, hk2, hk3, hk4⟩ := merge_keys z.grp [] [] rfl List.nodup_nil
                    have s7 := same_new hdct (.dK (mergeK [] (z.grp.map fun n => ((Sum.inl n : Key), V.int 1))))
                    have e7 : upd H6' dct (.dK (mergeK [] (z.grp.map fun n => ((Sum.inl n : Key), V.int 1)))) dct = some (.dK (mergeK [] (z.grp.map fun n => ((Sum.inl n : Key), V.int 1)))) := upd_same
                    generalize upd H6' dct (.dK (mergeK [] (z.grp.map fun n => ((Sum.inl n : Key), V.int 1)))) = H7' at s7 e7
                    have hgl := iv.g
                    walk_at "g"
                    refine ⟨dct, _, ks, rfl, .inl e7, hk1, by simp only [List.length_nil] at hk4; omega, fun ys p8 hpm hys hp8 => ?_⟩
                    have s8 := same_new hp8 (.lst (ys.map V.int))
                    have e8 : upd H7' p8 (.lst (ys.map V.int)) p8 = some (.lst (ys.map V.int)) := upd_same
                    generalize upd H7' p8 (.lst (ys.map V.int)) = H8' at s8 e8
                    have heq : ns = ys := srt_eq hsr hys hnd ((hpm.nodup_iff).mpr hk2) fun m => by
                      rw [hmem, ← iv.gg, hpm.mem_iff, hk3]
                      simp
                    refine w_neLs (SqL.of ((s7.trans s8) _ _ e5)) (SqL.of e8) ?_
                    rw [decide_eq_true heq, Bool.not_true]
                    replace s8 := s7.trans s8
                    replace iv := iv.sm s8
                    replace eim := s8 _ _ eim
                    replace hIm : Imgs K H8' z.now zs ns := hIm.ch (Ch.of (M := []) s8)
                    clear s7 e7 s8 e8 hp8 hdct hk1 hk2 hk3 hk4 e6 pk hpm hys
                    walk_at "g"
                    have wd3 : ∀ {b : Addr} {G : Nat}, Iv K cPg cD cP (TQ Pl Pf) p dcs x d cap H8' z B G → True := fun _ => trivial
                    refine w_lcLn (SqL.of eim) fun D3 hD3 => ⟨fun j H2 => Iv K cPg cD cP (TQ Pl Pf) p dcs x d cap H2 z (B + 10) (i + 1) ∧ H2 im = some (.lst (zs.map V.ref)) ∧ Imgs K H2 z.now zs ns ∧ H2 D3 = some (.lst []), ⟨iv.sm (same_new hD3 _), same_new hD3 (.lst []) _ _ eim, hIm.ch (Ch.of (M := []) (same_new hD3 _)), upd_same⟩, fun j H2 _ h => SqL.of h.2.1, ?_, ?_⟩
                    · rintro j v H9' hj ⟨iv, eim, hIm, e9⟩
                      obtain ⟨z1, hz1, rfl⟩ := map_get hj
                      obtain ⟨m, hm, a1, c1', hnow1, t1', t2'⟩ := paired_get hIm hz1
                      have hin := (hmem m).mp (List.mem_of_getElem? hm)
                      obtain ⟨mv, hmv⟩ := Option.isSome_iff_exists.mp hin
                      obtain ⟨m, rfl, hm5⟩ := iv.st.pi.ko.at_ hmv
                      have pok := iv.st.pi.ok _ _ hnow1
                      refine w_gtupS t1' rfl ?_
                      walk_at "g"
                      refine ⟨rfl, ?_⟩
                      walk_at "g"
                      refine ⟨a1, bytC c1', rfl, t2', pok.by_, by rw [pok.bl]; decide, iv.st.rs.good.tab, ?_⟩
                      rw [pok.back]
                      intro p1 H10' x10 t10 hp1
                      replace iv := iv.ex x10 t10
                      replace eim := ext_lst x10 eim
                      replace e9 := ext_lst x10 e9
                      replace hIm : Imgs K H10' z.now zs ns := hIm.ch (Ch.ex (M := []) x10)
                      obtain ⟨q1, c0, hv, hnow, hq1⟩ := iv.at_ hm5
                      rw [hnow1] at hnow
                      cases hnow
                      walk_at "g"
                      refine ⟨z.nA, .ref q1, rfl, hv ▸ DGet.k (k := .inl (m : Int)) iv.st.rs.n1, ?_⟩
                      walk_at "g"
                      refine ⟨p1, q1, c1', rfl, hp1, hq1, fun H11' s11 => ?_⟩
                      walk_at "g"
                      rw [Bool.not_true]
                      walk_at "g"
                      exact ⟨iv.sm s11, s11 _ _ eim, hIm.ch (Ch.of (M := []) s11), s11 _ _ e9⟩
                    · rintro H9' ⟨iv, eim, hIm, e9⟩
                      clear wd3 e5
                      walk_at "g"
                      intro l0 hl0
                      refine w_ne00 (same_new hl0 (.lst []) _ _ e9) upd_same ?_
                      replace iv := iv.sm (same_new hl0 (.lst []))
                      generalize upd H9' l0 (.lst []) = H10' at iv
                      have hx := iv.st.sy.hx
                      have hbw := iv.b
                      clear eim hIm e9 hl0
                      walk_at "g"
                      refine ⟨x, z.L.dx, _, rfl, hx, mp_none (by decide +kernel), ?_⟩
                      walk_at "g"
                      refine ⟨x, d, cap, z.L, z.S, z.D, z.now, z.kept, rfl, iv.st.sy, iv.st.pi, hcap, by omega, fun H11' L' S' D' s11 nw sy11 pi11 r11 _ w11 og11 sz11 => ?_⟩
                      have n11 := s11.ch.dk iv.st.rs.n1 iv.st.rs.fr.1
                      walk_at "g"
                      refine ⟨z.nA, z.nk, rfl, .inl n11, fun k hk => ?_⟩
                      have s12 := same_new hk (.dK z.nk)
                      have e12 : upd H11' k (.dK z.nk) k = some (.dK z.nk) := upd_same
                      generalize upd H11' k (.dK z.nk) = H12' at s12 e12
                      walk_at "g"
                      intro gn hgn
                      have s13 := same_new hgn (.lst [])
                      have e13 : upd H12' gn (.lst []) gn = some (.lst []) := upd_same
                      generalize upd H12' gn (.lst []) = H13' at s13 e13
                      walk_at "g"
                      intro t14 ht14
                      have s14 := same_new ht14 (.tup [.ref k, .ref gn])
                      have e14 : upd H13' t14 (.tup [.ref k, .ref gn]) t14 = some (.tup [.ref k, .ref gn]) := upd_same
                      generalize upd H13' t14 (.tup [.ref k, .ref gn]) = H14' at s14 e14
                      refine w_gtup e14 rfl ?_
                      walk_at "g"
                      exact hN _ _ ⟨_, _, _, _, _, _, _, _, rfl, (iv.close s11 nw sy11 pi11 r11 w11 og11 sz11 hk s12 e12 hgn s13 e13).sm s14⟩
              · exact hN _ _ ⟨_, _, _, _, _, _, _, _, rfl, iv.le (by omega) (Nat.le_refl _)⟩
            · clear iv
              rintro σ' H3' ⟨z, w12, w13, w14, w15, w16, w17, w18, rfl, iv⟩
              walk_at "s1"
              refine w_ifRest (Lp K cPg cD cP (TQ Pl Pf) p dcs a e d cap x (.int (n : Int)) (.int (0 + (i : Int))) (.int sort) (B + 20) (i + 1)) (fun N hN => ?_) ?_
              · walk_at "g"
                refine w_iteD (fun c1 => ?_) (fun c1 => ?_)
                · have hx := iv.st.sy.hx
                  have hbw := iv.b
                  walk_at "g"
                  refine ⟨x, z.L.dx, _, rfl, hx, mp_none (by decide +kernel), ?_⟩
                  walk_at "g"
                  refine ⟨x, d, cap, z.L, z.S, z.D, z.now, z.kept, rfl, iv.st.sy, iv.st.pi, hcap, by omega, fun H11' L' S' D' s11 nw sy11 pi11 r11 _ w11 og11 sz11 => ?_⟩
                  have n11 := s11.ch.dk iv.st.rs.k1 iv.st.rs.fr.2.1
                  walk_at "g"
                  refine ⟨z.kA, z.kk, rfl, .inl n11, fun k hk => ?_⟩
                  have s12 := same_new hk (.dK z.kk)
                  have e12 : upd H11' k (.dK z.kk) k = some (.dK z.kk) := upd_same
                  generalize upd H11' k (.dK z.kk) = H12' at s12 e12
                  walk_at "g"
                  intro gn hgn
                  have s13 := same_new hgn (.lst [])
                  have e13 : upd H12' gn (.lst []) gn = some (.lst []) := upd_same
                  generalize upd H12' gn (.lst []) = H13' at s13 e13
                  walk_at "g"
                  intro t14 ht14
                  have s14 := same_new ht14 (.tup [.ref k, .ref gn])
                  have e14 : upd H13' t14 (.tup [.ref k, .ref gn]) t14 = some (.tup [.ref k, .ref gn]) := upd_same
                  generalize upd H13' t14 (.tup [.ref k, .ref gn]) = H14' at s14 e14
                  refine w_gtup e14 rfl ?_
                  walk_at "g"
                  exact hN _ _ ⟨_, _, _, _, _, _, _, _, rfl, (iv.drop s11 nw sy11 pi11 r11 w11 og11 sz11 hk s12 e12 hgn s13 e13).sm s14⟩
                · exact hN _ _ ⟨_, _, _, _, _, _, _, _, rfl, iv.le (by omega) (Nat.le_refl _)⟩
              · clear iv
                rintro σ' H3' ⟨z, w12, w13, w14, w15, w16, w17, w18, rfl, iv⟩
                walk_at "s1"
                refine w_ifRest (Lp K cPg cD cP (TQ Pl Pf) p dcs a e d cap x (.int (n : Int)) (.int (0 + (i : Int))) (.int sort) (B + 25) (i + 1)) (fun N hN => ?_) ?_
                · walk_at "g"
                  refine w_iteD (fun c1 => ?_) (fun c1 => ?_)
                  · walk_at "g"
                    refine ⟨iv.st.rs.good.tab, fun H4' x4 t4 => ?_⟩
                    replace iv := iv.ex x4 t4
                    clear x4 t4
                    refine w_lamT ?_
                    have hx := iv.st.sy.hx
                    have hbw := iv.b
                    walk_at "g"
                    refine ⟨x, z.L.dx, _, rfl, hx, mp_none (by decide +kernel), ?_⟩
                    walk_at "g"
                    refine ⟨x, d, cap, z.L, z.S, z.D, z.now, z.kept, rfl, iv.st.sy, iv.st.pi, by omega, fun hne H5' s5 => ⟨true, W.x_PP, fun _ => ?_, fun h => absurd h (by decide)⟩, fun h0 H5' L' S' D' s5 nw sy5 pi5 r5 _ w5 og5 pg5 hb => ?_⟩
                    · have hg : z.grp ≠ [] := fun y => hne (val_empty iv.st.pi.ko fun m hm => by
                        have := (iv.gg m).mpr hm
                        rw [y] at this
                        cases this)
                      replace iv := iv.sm s5
                      clear s5 hx
                      walk_at "g"
                      intro l0 hl0
                      replace iv := iv.sm (same_new hl0 (.lst []))
                      have e0 : upd H5' l0 (.lst []) l0 = some (.lst (([] : List Int).map V.int)) := upd_same
                      generalize upd H5' l0 (.lst []) = H6' at iv e0
                      refine w_neLs (SqL.of iv.st.rs.g1) (SqL.of e0) ?_
                      rw [decide_eq_true rfl, decide_eq_false hg, Bool.not_false]
                      walk_at "g"
                      rw [show (true != true) = false from rfl]
                      walk_at "g"
                      intro l1 hl1
                      replace iv := iv.sm (same_new hl1 (.lst []))
                      have e1 : upd H6' l1 (.lst []) l1 = some (.lst (([] : List Int).map V.int)) := upd_same
                      generalize upd H6' l1 (.lst []) = H7' at iv e1
                      refine w_eqLs (SqL.of iv.st.rs.g1) (SqL.of e1) ?_
                      rw [decide_eq_false hg]
                      walk_at "g"
                      exact hN _ _ ⟨_, _, _, _, _, _, _, _, rfl, iv.le (by omega) (Nat.le_refl _)⟩
                    · have hg : z.grp = [] := List.eq_nil_iff_forall_not_mem.mpr fun m hm => by
                        have := (iv.gg m).mp hm
                        rw [h0, valV_nil] at this
                        cases this
                      replace iv := iv.flush s5 nw sy5 pi5 r5 w5 hg og5 pg5 h0
                      clear s5 hx nw sy5 pi5
                      walk_at "g"
                      intro l0 hl0
                      have sl := same_new hl0 (.lst [])
                      have e0 : upd H5' l0 (.lst []) l0 = some (.lst (([] : List Int).map V.int)) := upd_same
                      generalize upd H5' l0 (.lst []) = H6' at sl e0
                      replace iv := iv.sm sl
                      replace hb : ∀ (m : Int) (c' : Pgc), z.now m = some c' → ∃ a, valV D'.bs (.inl m) = some (.ref a) ∧ SqT K H6' a ((bytC c').map V.int) := fun m c' h => (hb m c' h).elim fun a h => ⟨a, h.1, sqT_same h.2 sl⟩
                      clear sl
                      refine w_neLs (SqL.of iv.st.rs.g1) (SqL.of e0) ?_
                      rw [decide_eq_false (fun h => by cases h), show (z.grp) = [] from hg, decide_eq_true rfl, Bool.not_true]
                      walk_at "g"
                      rw [show (false != false) = false from rfl]
                      walk_at "g"
                      intro l1 hl1
                      have sl := same_new hl1 (.lst [])
                      have e1 : upd H6' l1 (.lst []) l1 = some (.lst (([] : List Int).map V.int)) := upd_same
                      generalize upd H6' l1 (.lst []) = H7' at sl e1
                      replace iv := iv.sm sl
                      replace hb : ∀ (m : Int) (c' : Pgc), z.now m = some c' → ∃ a, valV D'.bs (.inl m) = some (.ref a) ∧ SqT K H7' a ((bytC c').map V.int) := fun m c' h => (hb m c' h).elim fun a h => ⟨a, h.1, sqT_same h.2 sl⟩
                      clear sl
                      refine w_eqLs (SqL.of iv.st.rs.g1) (SqL.of e1) ?_
                      rw [show (z.grp) = [] from hg, decide_eq_true rfl]
                      walk_at "g"
                      refine w_lcRp ⟨by decide, by decide⟩ fun D9 hD9 => ⟨fun j H2 => Iv K cPg cD cP (TQ Pl Pf) p dcs x d cap H2 { z with L := L', S := S', D := D' } (B + 25) (i + 1) ∧ H2 D9 = some (.lst []) ∧ ∀ (m : Int) (c' : Pgc), z.now m = some c' → ∃ a, valV D'.bs (.inl m) = some (.ref a) ∧ SqT K H2 a ((bytC c').map V.int), ⟨iv.sm (same_new hD9 _), upd_same, fun m c' h => (hb m c' h).elim fun a h => ⟨a, h.1, sqT_same h.2 (same_new hD9 _)⟩⟩, ?_, ?_⟩
                      · clear iv hb e0 e1 hl0 hl1 hD9
                        rintro j H8' hj ⟨iv, e9, hb⟩
                        rw [Int.zero_add]
                        have hj5 : j < 5 := by omega
                        walk_at "g"
                        refine ⟨rfl, ?_⟩
                        obtain ⟨⟨ddx, lB, tB, zs9, hd9, _⟩, hbs, _⟩ := id iv.st.sy.dk
                        obtain ⟨q1, c0, hv, hnow, hq1⟩ := iv.at_ hj5
                        have pok := iv.st.pi.ok _ _ hnow
                        obtain ⟨a1, ha1, hab⟩ := hb j c0 hnow
                        walk_at "g"
                        refine ⟨L'.bA, .ref a1, rfl, ha1 ▸ DGet.k (k := .inl (j : Int)) hbs, ?_⟩
                        walk_at "g"
                        refine ⟨a1, bytC c0, rfl, hab, pok.by_, by rw [pok.bl]; decide, iv.st.rs.good.tab, ?_⟩
                        rw [pok.back]
                        intro p1 H10' x10 t10 hp1
                        replace iv := iv.ex x10 t10
                        replace e9 := ext_lst x10 e9
                        replace hq1 := (Kps.ex (K := K) (cPg := cPg) x10).p _ _ hq1
                        replace hb : ∀ (m : Int) (c' : Pgc), z.now m = some c' → ∃ a, valV D'.bs (.inl m) = some (.ref a) ∧ SqT K H10' a ((bytC c').map V.int) := fun m c' h => (hb m c' h).elim fun a h => ⟨a, h.1, sqT_ex h.2 x10⟩
                        walk_at "g"
                        refine ⟨z.nA, .ref q1, rfl, hv ▸ DGet.k (k := .inl (j : Int)) iv.st.rs.n1, ?_⟩
                        walk_at "g"
                        refine ⟨p1, q1, c0, rfl, hp1, hq1, fun H11' s11 => ?_⟩
                        walk_at "g"
                        rw [Bool.not_true]
                        walk_at "g"
                        exact ⟨iv.sm s11, s11 _ _ e9, fun m c' h => (hb m c' h).elim fun a h => ⟨a, h.1, sqT_same h.2 s11⟩⟩
                      · clear iv hb e0 e1 hl0 hl1 hD9
                        rintro H8' ⟨iv, e9, hb⟩
                        walk_at "g"
                        intro l2 hl2
                        refine w_ne00 (same_new hl2 (.lst []) _ _ e9) upd_same ?_
                        walk_at "g"
                        exact hN _ _ ⟨{ z with L := L', S := S', D := D' }, _, _, _, _, _, _, _, rfl, iv.sm (same_new hl2 _)⟩
                  · exact hN _ _ ⟨_, _, _, _, _, _, _, _, rfl, iv.le (by omega) (Nat.le_refl _)⟩
                · clear iv
                  rintro σ' H3' ⟨z, w12, w13, w14, w15, w16, w17, w18, rfl, iv⟩
                  have hx := iv.st.sy.hx
                  obtain ⟨ks, hks⟩ := iv.st.pi.kp.ks
                  have nxp : x ≠ z.L.pA := ne_of hx iv.st.sy.pg (fun z => by cases z)
                  have ngp : z.gA ≠ z.L.pA := ne_of iv.st.rs.g1 iv.st.sy.pg (fun z => by cases z)
                  walk_at "s1"
                  refine w_lcKS iv.st.sy.pg (fun o R h => g_pages wp rfl rfl ((upd_ne nxp).trans hx) h) fun o D0 hD0 => ⟨fun j H2 => Same (upd H3' z.L.pA (.frz o (.dK z.S.pg))) H2 ∧ H2 D0 = some (.lst (((ks.take j).filter fun n => !decide (n ∈ z.grp)).map V.int)), ⟨same_new hD0 _, upd_same⟩, fun j H2 _ h => h.1 _ _ upd_same, ?_, ?_⟩
                  · rintro j k v H4' hj ⟨s4, e4⟩
                    have hkj : (z.S.pg.map (·.1))[j]? = some k := by rw [List.getElem?_map, hj]; rfl
                    rw [hks, List.getElem?_map] at hkj
                    obtain ⟨m, hm, rfl⟩ := Option.map_eq_some_iff.mp hkj
                    have lk : ks.length = z.S.pg.length := by rw [← List.length_map (f := Sum.inl (β := Str)), ← hks, List.length_map]
                    have l5 := iv.st.pi.kp.len iv.st.pi.np
                    rw [show L2.kV (Sum.inl m) = V.int m from rfl]
                    walk_at "g"
                    refine ⟨rfl, ?_⟩
                    walk_at "g"
                    refine ⟨z.gA, _, rfl, .inl (SqL.of (s4 _ _ ((upd_ne ngp).trans iv.st.rs.g1))), rfl, flatInts _, ?_⟩
                    rw [if_pos rfl, inInts]
                    by_cases c3 : m ∈ z.grp
                    · rw [decide_eq_true c3, Bool.not_true]
                      walk_at "g"
                      refine ⟨s4, ?_⟩
                      rw [e4, List.take_add_one, hm, List.filter_append]
                      simp [c3]
                    · rw [decide_eq_false c3, Bool.not_false]
                      walk_at "g"
                      refine ⟨_, e4, ?_, same_upd s4 hD0, ?_⟩
                      · rw [List.length_map]
                        exact Nat.lt_of_le_of_lt (Nat.le_trans (List.length_filter_le _ _) (by rw [List.length_take]; omega : _ ≤ 5)) (by decide)
                      · rw [upd_same, List.take_add_one, hm, List.filter_append]
                        simp [c3]
                  · rintro H4' ⟨s4, e4⟩
                    have sl := same_lock iv.st.sy.pg s4
                    have nD0 : D0 ≠ z.L.pA := (ne_of_none upd_same hD0).symm
                    replace e4 : upd H4' z.L.pA (.dK z.S.pg) D0 = _ := (upd_ne nD0).trans e4
                    generalize upd H4' z.L.pA (.dK z.S.pg) = H5' at sl e4
                    replace iv := iv.sm sl
                    have lk : ks.length = z.S.pg.length := by rw [← List.length_map (f := Sum.inl (β := Str)), ← hks, List.length_map]
                    rw [← lk, List.take_length] at e4
                    clear sl s4 nD0 hD0 hx
                    walk_at "s1"
                    refine w_ifRest (Lp K cPg cD cP (TQ Pl Pf) p dcs a e d cap x (.int (n : Int)) (.int (0 + (i : Int))) (.int sort) (B + 25) (i + 1)) (fun N hN => ?_) ?_
                    · have hx := iv.st.sy.hx
                      walk_at "g"
                      refine ⟨D0, _, rfl, .inl (SqL.of e4), ?_⟩
                      rw [List.length_map]
                      walk_at "g"
                      refine ⟨_, _, rfl, ?_⟩
                      walk_at "g"
                      refine w_iteD (fun c1 => ?_) (fun c1 => ?_)
                      · walk_at "g"
                        refine ⟨_, _, rfl, iv.st.sy.pg, ?_⟩
                        walk_at "g"
                        have hll := loose_len iv.st.pi.ko iv.st.pi.np iv.st.pi.no hks iv.st.sz (fun m hm => (Option.isSome_iff_exists.mp hm).elim fun v hv => (iv.st.pi.og m v hv).1) iv.gg hcap (by split at c1 <;> omega)
                        rw [decide_eq_false hll]
                        walk_at "g"
                        exact hN _ _ ⟨_, _, _, _, _, _, _, _, rfl, iv⟩
                      · exact hN _ _ ⟨_, _, _, _, _, _, _, _, rfl, iv⟩
                    · clear iv e4 hks lk nxp ngp
                      rintro σ' H3' ⟨z, w12, w13, w14, w15, w16, w17, w18, rfl, iv⟩
                      walk_at "g"
                      refine w_forL (SqL.of iv.st.rs.g1) (fun j σ H2 => ∃ v13 : Option V, σ = [some (.ref a), some (.ref e), some (.ref d), some (.int cap), some (.ref x), some (.ref z.kA), some (.ref z.nA), some (.ref z.gA), some (.ref z.mA), some (.int (n : Int)), some (.int (0 + (i : Int))), some (.int sort), w12, v13, w14, w15, w16, w17, w18] ∧ Iv K cPg cD cP (TQ Pl Pf) p dcs x d cap H2 z (B + 25) (i + 1))
                        ⟨w13, rfl, iv⟩ (fun j σ H2 _ ⟨_, _, iv⟩ => SqL.of iv.st.rs.g1) ?_ ?_
                      · clear iv
                        rintro j v σ H4' hj ⟨v13, rfl, iv⟩
                        obtain ⟨m, hm, rfl⟩ := ints_get hj
                        obtain ⟨mk, h1, h2, h3⟩ := iv.mm m (List.mem_of_getElem? hm)
                        obtain ⟨⟨ddx, lB, tB, zs9, hd9, _, _, hq9, hps⟩, _⟩ := id iv.st.sy.dk
                        walk_at "g"
                        refine ⟨z.mA, .int (mk : Nat), rfl, h1 ▸ DGet.k (k := .inl m) iv.st.rs.m1, ?_⟩
                        walk_at "g"
                        refine ⟨z.L.qA, _, rfl, SqL.of hq9, fun w1 hw1 => ?_⟩
                        rw [cut_drop, ← List.map_drop]
                        have s5 := same_new hw1 (.lst ((zs9.drop mk).map V.ref))
                        have e5 : upd H4' w1 (.lst ((zs9.drop mk).map V.ref)) w1 = some (.lst ((zs9.drop mk).map V.ref)) := upd_same
                        generalize upd H4' w1 (.lst ((zs9.drop mk).map V.ref)) = H5' at s5 e5
                        replace iv := iv.sm s5
                        replace hps : Prs K H5' zs9 z.D.ws := hps.ch (Ch.of (M := []) s5)
                        refine w_lcLn (SqL.of e5) fun D1 hD1 => ⟨fun j2 H2 => Same H5' H2 ∧ H2 D1 = some (.lst []), ⟨same_new hD1 _, upd_same⟩, fun j2 H2 _ h => SqL.of (h.1 _ _ e5), ?_, ?_⟩
                        · rintro j2 v H6' hj2 ⟨s6, e6⟩
                          obtain ⟨z1, hz1, rfl⟩ := map_get hj2
                          rw [List.getElem?_drop] at hz1
                          obtain ⟨⟨pn, pa⟩, hp, gz⟩ := paired_get hps hz1
                          have hpn : pn ≠ m := h3 (pn, pa) (List.mem_of_getElem? (i := j2) (by rw [List.getElem?_drop]; exact hp))
                          refine w_gtupS (sqT_same gz s6) rfl ?_
                          walk_at "g"
                          refine ⟨rfl, ?_⟩
                          walk_at "g"
                          rw [decide_eq_false hpn]
                          walk_at "g"
                          exact ⟨s6, e6⟩
                        · rintro H6' ⟨s6, e6⟩
                          replace iv := iv.sm s6
                          walk_at "g"
                          intro l0 hl0
                          refine w_ne00 (same_new hl0 (.lst []) _ _ e6) upd_same ?_
                          walk_at "g"
                          exact ⟨_, rfl, iv.sm (same_new hl0 _)⟩
                      · clear iv
                        rintro σ H4' ⟨v13, rfl, iv⟩
                        walk_at "g"
                        exact ⟨z, _, _, _, _, _, _, _, _, _, _, rfl, iv.le (by omega) (Nat.le_refl _)⟩
      · clear iv
        rintro σ H' ⟨z, w9, w10, w11, w12, w13, w14, w15, w16, w17, w18, rfl, iv⟩
        replace iv := iv.le (B' := 780) (G' := 30) (by omega) (by omega)
        walk_at "g"
        refine w_forRp ⟨by decide, by decide⟩ (fun i σ H' => ∃ (z : Zs) (v9 : Option V), σ = [some (.ref a), some (.ref e), some (.ref d), some (.int cap), some (.ref x), some (.ref z.kA), some (.ref z.nA), some (.ref z.gA), some (.ref z.mA), v9, w10, w11, w12, w13, w14, w15, w16, w17, w18] ∧
          Iv K cPg cD cP (TQ Pl Pf) p dcs x d cap H' z (780 + 5 * i) 30) ⟨z, w9, rfl, iv⟩ ?_ ?_
        · clear iv
          rintro n σ H' hn5 ⟨z, v9, rfl, iv⟩
          have hn : n < 5 := by omega
          rw [Int.zero_add]
          have hx := iv.st.sy.hx
          walk_at "g"
          refine ⟨x, z.L.dx, _, rfl, hx, mp_none (by decide +kernel), ?_⟩
          walk_at "g"
          obtain ⟨q1, c0, hv, hnow, hq1⟩ := iv.at_ hn
          refine ⟨x, d, cap, z.L, z.S, z.D, z.now, z.kept, n, c0, rfl, iv.st.sy, iv.st.pi, hcap, hn, hnow, by have := iv.b; omega, iv.st.sz, iv.st.rs.good.tab, fun p1 H3' S' D' ch3 t3 sy3 pi3 tr og3 sz3 hp1 => ?_⟩
          have hq2 := (Kps.of (cPg := cPg) iv.st.sy ch3).p _ _ hq1
          replace iv := iv.page ch3 t3 sy3 pi3 tr og3 sz3
          clear ch3 t3 sy3 pi3 tr og3 sz3 hx hq1
          walk_at "g"
          refine ⟨z.nA, .ref q1, rfl, hv ▸ DGet.k (k := .inl (n : Int)) iv.st.rs.n1, ?_⟩
          walk_at "g"
          refine ⟨p1, q1, c0, rfl, hp1, hq2, fun H4' s4 => ?_⟩
          walk_at "g"
          rw [Bool.not_true]
          walk_at "g"
          exact ⟨{ z with S := S', D := D' }, _, rfl, (iv.sm s4).le (by omega) (Nat.le_refl _)⟩
        · clear iv
          rintro σ H' ⟨z, v9, rfl, iv⟩
          replace iv := iv.le (B' := 805) (G' := 30) (by rw [show (5 : Int).toNat = 5 from rfl]; omega) (Nat.le_refl _)
          walk_at "g"
          intro ka hka
          have s1' := same_new hka (.tup [.int 1])
          have e1 : upd H' ka (.tup [.int 1]) ka = some (.tup [.int 1]) := upd_same
          generalize upd H' ka (.tup [.int 1]) = H1' at s1' e1
          walk_at "g"
          intro kb hkb
          have s2' := same_new hkb (.tup [.int 1])
          have e2 : upd H1' kb (.tup [.int 1]) kb = some (.tup [.int 1]) := upd_same
          generalize upd H1' kb (.tup [.int 1]) = H2' at s2' e2
          walk_at "g"
          refine w_repInts (k := 90) (SqT.of e2) (by decide) (by decide) fun va H3' s3' e3 => ?_
          have e13 := (s2'.trans s3') _ _ e1
          walk_at "g"
          intro zt hzt
          have s4' := same_new hzt (.tup [.ref ka, .ref va])
          have e4 : upd H3' zt (.tup [.ref ka, .ref va]) zt = some (.tup [.ref ka, .ref va]) := upd_same
          generalize upd H3' zt (.tup [.ref ka, .ref va]) = H4' at s4' e4
          walk_at "g"
          intro Lz hLz
          have s5' := same_new hLz (.lst [.ref zt])
          have e5 : upd H4' Lz (.lst [.ref zt]) Lz = some (.lst [.ref zt]) := upd_same
          generalize upd H4' Lz (.lst [.ref zt]) = H5' at s5' e5
          walk_at "g"
          intro y dy hy hdy ney
          have sn : Same H5' (upd (upd H5' dy (.own y)) y (.ins cPg dy [])) := (same_new hdy _).trans (same_new (by rw [upd_ne ney.symm]; exact hy) _)
          have cc : CelsO K H5' [zt] [([1], List.replicate (Int.toNat 90) 1)] := .cons ⟨ka, va, SqT.of (s5' _ _ e4), SqT.of ((s4'.trans s5') _ _ e13), sqT_same e3 (s4'.trans s5')⟩ .nil
          refine ⟨y, dy, Lz, 2, 0, [zt], [([1], List.replicate (Int.toNat 90) 1)], rfl, upd_same, SqL.of (sn _ _ e5), CelsO.sm sn cc, by decide, fun tt ys H6' kp ex et cy => ⟨rfl, ?_⟩⟩
          have sm : Same H5' H6' := fun b o eb => kp b o (fun z => by rw [z, hy] at eb; cases eb) (sn b o eb)
          replace iv := iv.sm (((((s1'.trans s2').trans s3').trans s4').trans s5').trans sm)
          have pg : PgC K cPg H6' y (2, 0, [([1], List.replicate (Int.toNat 90) 1)]) := ⟨dy, tt, ys, ex, et, cy⟩
          clear s1' e1 s2' e2 s3' e3 e13 s4' e4 s5' e5 sn cc kp ex et cy sm hka hkb hzt hLz hy hdy ney
          walk_at "g"
          refine ⟨iv.st.rs.good.tab, fun H7' x7 t7 => ?_⟩
          replace iv := iv.ex x7 t7
          replace pg := (Kps.ex (K := K) (cPg := cPg) x7).p _ _ pg
          clear x7 t7
          refine w_lamT ?_
          have hx := iv.st.sy.hx
          have hbw := iv.b
          walk_at "g"
          refine ⟨x, z.L.dx, _, rfl, hx, mp_none (by decide +kernel), ?_⟩
          walk_at "g"
          refine ⟨x, d, cap, z.L, z.S, z.D, z.now, z.kept, 1, y, _, rfl, iv.st.sy, iv.st.pi, hcap, by decide, by omega, iv.st.sz, pg, by decide, fun _ H8' s8 => ⟨true, W.x_PP, fun _ => ?_, fun h => absurd h (by decide)⟩, fun z => absurd z (by decide)⟩
          replace iv := iv.sm s8
          clear s8 pg hx
          have hx := iv.st.sy.hx
          walk_at "g"
          rw [decide_eq_true rfl, Bool.not_true]
          walk_at "g"
          refine ⟨x, z.L.dx, _, rfl, hx, mp_none (by decide +kernel), ?_⟩
          walk_at "g"
          obtain ⟨q1, c0, hv, hnow, hq1⟩ := iv.at_ (n := 1) (by decide)
          refine ⟨x, d, cap, z.L, z.S, z.D, z.now, z.kept, 1, c0, rfl, iv.st.sy, iv.st.pi, hcap, by decide, hnow, by omega, iv.st.sz, iv.st.rs.good.tab, fun p1 H3' S' D' ch3 t3 sy3 pi3 tr og3 sz3 hp1 => ?_⟩
          have hq2 := (Kps.of (cPg := cPg) iv.st.sy ch3).p _ _ hq1
          replace iv := iv.page ch3 t3 sy3 pi3 tr og3 sz3
          clear ch3 t3 sy3 pi3 tr og3 sz3 hx hq1
          walk_at "g"
          refine ⟨z.nA, .ref q1, rfl, hv ▸ DGet.k (k := .inl ((1 : Nat) : Int)) iv.st.rs.n1, ?_⟩
          walk_at "g"
          refine ⟨p1, q1, c0, rfl, hp1, hq2, fun H4' s4 => ?_⟩
          replace iv := iv.sm s4
          clear s4 hp1 hq2 hv hnow
          walk_at "g"
          rw [Bool.not_true]
          have hx := iv.st.sy.hx
          walk_at "g"
          have hrd := iv.st.rd
          rw [decide_eq_false (by show ¬ S'.rd < 0; have : 0 ≤ S'.rd := hrd; omega)]
          walk_at "g"
          obtain ⟨⟨ddx, lB, tB, zs9, hd9, _⟩, hbs, _⟩ := id iv.st.sy.dk
          have ndb : d ≠ z.L.bA := ne_of hd9 hbs (fun z => by cases z)
          have hcn := iv.st.pi.cn
          have hwl := iv.st.pi.wlen (B := 820) (by have := iv.b; omega)
          have hbl : D'.bs.length ≤ 820 := by have := hwl.2.2; show D'.bs.length ≤ 820; have : D'.bs.length + D'.ws.length ≤ 820 := hwl.2.2; omega
          replace hcn : ((D'.bs.length + D'.ws.length : Nat) : Int) ≤ S'.wr := hcn
          refine w_lcK hbs (fun o R h => g_blocks wd rfl rfl ((upd_ne ndb).trans hd9) h) fun o D9 hD9 => ⟨fun j H2 => Same (upd H4' z.L.bA (.frz o (.dK D'.bs))) H2 ∧ H2 D9 = some (.lst ((D'.bs.take j).map fun p => L2.kV p.1)), ⟨same_new hD9 _, upd_same⟩, fun j H2 _ h => h.1 _ _ upd_same, ?_, ?_⟩
          · rintro j k v H5' hj ⟨s5, e5⟩
            have hlt : j < D'.bs.length := (List.getElem?_eq_some_iff.mp hj).1
            walk_at "g"
            refine ⟨rfl, ?_⟩
            walk_at "g"
            refine ⟨_, e5, by rw [List.length_map, List.length_take]; exact Nat.lt_of_le_of_lt (by omega : min j D'.bs.length ≤ 820) (by decide), same_upd s5 hD9, ?_⟩
            have hj' : D'.bs[j]? = some (k, v) := hj
            rw [upd_same, List.take_add_one, hj', List.map_append]
            rfl
          · rintro H5' ⟨s5, e5⟩
            have sl := same_lock hbs s5
            have nD9 : D9 ≠ z.L.bA := (ne_of_none upd_same hD9).symm
            replace e5 : upd H5' z.L.bA (.dK D'.bs) D9 = _ := (upd_ne nD9).trans e5
            change tNil _ (upd H5' z.L.bA (.dK D'.bs)) _
            replace iv := iv.sm (show Same H4' (upd H5' z.L.bA (.dK D'.bs)) from sl)
            generalize upd H5' z.L.bA (.dK D'.bs) = H6' at e5 iv
            rw [List.take_length] at e5
            clear sl hx s5
            have hx := iv.st.sy.hx
            walk_at "g"
            refine ⟨D9, _, rfl, .inl (SqL.of e5), ?_⟩
            rw [List.length_map]
            walk_at "g"
            rw [decide_eq_false (by show ¬ S'.wr < ((D'.bs.length : Nat) : Int); omega)]
            walk_at "g"
            rw [decide_eq_true rfl, Bool.not_true]
            walk_at "g"
            exact ⟨iv.st.rs.good, _, _, _, _, _, _, _, _, _, _, _, _, _, _, _, _, _, _, rfl⟩
  · rintro σ H' ⟨g, v1, v2, v3, v4, v5, v6, v7, v8, v9, v10, v11, v12, v13, v14, v15, v16, v17, v18, rfl⟩
    walk_at "g"
    refine ⟨g.tab, fun H1 x1 t1 => ?_⟩
    refine w_lamT ?_
    walk_at "g"
    intro d dx hd hdx ne
    refine ⟨d, dx, aE, [], .non, [], rfl, upd_same, W.k_e _, .inl ⟨rfl, rfl⟩, fun bA qA wA H3 s3 f1 f2 f3 n1 n2 n3 d3 => ⟨rfl, ?_⟩⟩
    walk_at "g"
    intro x dx2 hx hdx2 ne2
    refine ⟨x, dx2, d, 0, rfl, upd_same, fun _ H4 s4 => ⟨true, W.x_PP, fun _ => ?_, fun h => absurd h (by decide)⟩, fun z => absurd z (by decide)⟩
    walk_at "g"
    rw [decide_eq_true rfl]
    exact q H4
end
end K11
end

section
-- part K11Z2
set_option Elab.async false
set_option linter.all false
set_option maxRecDepth 100000
namespace K11
open PySem PySem.Spec PyProof.Rows L2 Fw
def emptyT (K : PySem.W.Frag) (a : Addr) : Bool := match K.lookup a with
  | some ⟨.type c, _, .seq its _, _⟩ => decide (c = "tuple") && decide (its.size = 0)
  | _ => false
theorem emptyT_ok {K : PySem.W.Frag} {a : Addr} (h : emptyT K a = true) (H : Hp) : SqT K H a [] := by
  unfold emptyT at h
  cases q : K.lookup a with
  | none =>
    rw [q] at h
    cases h
  | some o =>
    obtain ⟨oc, od, dt, osl⟩ := o
    rw [q] at h
    cases oc with
    | type c =>
      cases dt with
      | seq its n =>
        have h' : (decide (c = "tuple") && decide (its.size = 0)) = true := h
        obtain ⟨h1, h2⟩ := He.ba h'
        have z : its.size = 0 := of_decide_eq_true h2
        refine .inr ⟨_, its, n, q, congrArg Value.type (of_decide_eq_true h1), rfl, by rw [z]; exact Nat.zero_le _, ?_⟩
        rw [show its.toList = [] from List.eq_nil_of_length_eq_zero (by simpa using z)]
        exact .nil
      | _ => cases h
    | _ => cases dt <;> cases h
end K11
end

section
-- part K11XI0
set_option Elab.async false
set_option linter.all false
set_option maxRecDepth 100000
set_option maxHeartbeats 0
namespace K11
open PySem PySem.Spec PyProof.Rows L2 Fw Dc Gk M5 M10 M8 M11
def fnD : List He.DefD := [⟨("fixed", none), "fixed", "fixed", defArgs s_fixed, defBody s_fixed, defScope s_fixed, [], []⟩,
  ⟨("number_from", none), "number_from", "number_from", defArgs s_number_from, defBody s_number_from, defScope s_number_from, [], []⟩,
  ⟨("checksum", none), "checksum", "checksum", defArgs s_checksum, defBody s_checksum, defScope s_checksum, [], []⟩,
  ⟨("page_bytes", none), "page_bytes", "page_bytes", defArgs s_page_bytes, defBody s_page_bytes, defScope s_page_bytes, [], []⟩,
  ⟨("page_from", none), "page_from", "page_from", defArgs s_page_from, defBody s_page_from, defScope s_page_from, [], []⟩,
  ⟨("cell_from", none), "cell_from", "cell_from", defArgs s_cell_from, defBody s_cell_from, defScope s_cell_from, [], []⟩,
  ⟨("_law_dice", none), "_law_dice", "_law_dice", defArgs s__law_dice, defBody s__law_dice, defScope s__law_dice, [], []⟩,
  ⟨("_law_roll", none), "_law_roll", "_law_roll", defArgs s__law_roll, defBody s__law_roll, defScope s__law_roll, [], []⟩,
  ⟨("_law_rounds", none), "_law_rounds", "_law_rounds", defArgs s__law_rounds, defBody s__law_rounds, defScope s__law_rounds, [], []⟩,
  ⟨("_law_told", none), "_law_told", "_law_told", defArgs s__law_told, defBody s__law_told, defScope s__law_told, [], []⟩,
  ⟨("_law_page", none), "_law_page", "_law_page", defArgs s__law_page, defBody s__law_page, defScope s__law_page, [], []⟩,
  ⟨("_law_same", none), "_law_same", "_law_same", defArgs s__law_same, defBody s__law_same, defScope s__law_same, [], []⟩,
  ⟨("law", none), "law", "law", defArgs s_law, defBody s_law, defScope s_law, [], []⟩,
  ⟨("Page", some "__init__"), "__init__", "Page.__init__", defArgs s_Page___init__, defBody s_Page___init__, defScope s_Page___init__, [], []⟩,
  ⟨("Page", some "shown"), "shown", "Page.shown", defArgs s_Page_shown, defBody s_Page_shown, defScope s_Page_shown, [], []⟩,
  ⟨("Page", some "size"), "size", "Page.size", defArgs s_Page_size, defBody s_Page_size, defScope s_Page_size, [], []⟩,
  ⟨("Pool", some "__init__"), "__init__", "Pool.__init__", defArgs s_Pool___init__, defBody s_Pool___init__, defScope s_Pool___init__, [], []⟩,
  ⟨("Pool", some "page"), "page", "Pool.page", defArgs s_Pool_page, defBody s_Pool_page, defScope s_Pool_page, [], []⟩,
  ⟨("Pool", some "put"), "put", "Pool.put", defArgs s_Pool_put, defBody s_Pool_put, defScope s_Pool_put, [], []⟩,
  ⟨("Pool", some "group_images"), "group_images", "Pool.group_images", defArgs s_Pool_group_images, defBody s_Pool_group_images, defScope s_Pool_group_images, [], []⟩,
  ⟨("Pool", some "close_group"), "close_group", "Pool.close_group", defArgs s_Pool_close_group, defBody s_Pool_close_group, defScope s_Pool_close_group, [], []⟩,
  ⟨("Pool", some "drop_group"), "drop_group", "Pool.drop_group", defArgs s_Pool_drop_group, defBody s_Pool_drop_group, defScope s_Pool_drop_group, [], []⟩,
  ⟨("Pool", some "leave_group"), "leave_group", "Pool.leave_group", defArgs s_Pool_leave_group, defBody s_Pool_leave_group, defScope s_Pool_leave_group, [], []⟩,
  ⟨("Pool", some "flush"), "flush", "Pool.flush", defArgs s_Pool_flush, defBody s_Pool_flush, defScope s_Pool_flush, [], []⟩,
  ⟨("Pool", some "write_page"), "write_page", "Pool.write_page", defArgs s_Pool_write_page, defBody s_Pool_write_page, defScope s_Pool_write_page, [], []⟩,
  ⟨("Pool", some "make_room"), "make_room", "Pool.make_room", defArgs s_Pool_make_room, defBody s_Pool_make_room, defScope s_Pool_make_room, [], []⟩,
  ⟨("Pool", some "least_used"), "least_used", "Pool.least_used", defArgs s_Pool_least_used, defBody s_Pool_least_used, defScope s_Pool_least_used, [], []⟩,
  ⟨("Disk", some "__init__"), "__init__", "Disk.__init__", defArgs s_Disk___init__, defBody s_Disk___init__, defScope s_Disk___init__, [.non, .adr (He.dflAt ("Disk", some "__init__") 1)], []⟩,
  ⟨("Disk", some "step"), "step", "Disk.step", defArgs s_Disk_step, defBody s_Disk_step, defScope s_Disk_step, [], []⟩,
  ⟨("Disk", some "read_block"), "read_block", "Disk.read_block", defArgs s_Disk_read_block, defBody s_Disk_read_block, defScope s_Disk_read_block, [], []⟩,
  ⟨("Disk", some "write_block"), "write_block", "Disk.write_block", defArgs s_Disk_write_block, defBody s_Disk_write_block, defScope s_Disk_write_block, [], []⟩,
  ⟨("Disk", some "sync_blocks"), "sync_blocks", "Disk.sync_blocks", defArgs s_Disk_sync_blocks, defBody s_Disk_sync_blocks, defScope s_Disk_sync_blocks, [], []⟩]
def faD : List He.Fa := [.glo "fixed", .glo "number_from", .glo "checksum", .glo "page_bytes", .glo "page_from", .glo "cell_from", .glo "_law_dice", .glo "_law_roll", .glo "_law_rounds", .glo "_law_told", .glo "_law_page", .glo "_law_same", .glo "law", .glo "Page", .glo "Pool", .glo "Disk", .glo "PageFault", .glo "DiskFault", .free "abs", .free "int", .free "str", .free "len", .free "range", .free "tuple", .free "sum", .free "any", .free "max", .free "sorted", .free "dict", .int "MODULUS" 65521, .int "META" 1, .int "LEAF" 2, .int "INNER" 3, .int "FREE" 4, .int "LINK_BYTES" 4, .int "COUNT_BYTES" 2, .int "HEAD" 7, .int "TAIL" 4, .int "LENGTH_BYTES" 2, .int "CELL" 4, .cls "Page", .noat "Page" "kind", .noat "Page" "link", .noat "Page" "cells", .meth "Page" "shown", .meth "Page" "size", .mkr "Page", .cls "Pool", .noat "Pool" "disk", .noat "Pool" "capacity", .noat "Pool" "pages", .noat "Pool" "changed", .noat "Pool" "open_group", .noat "Pool" "parts", .noat "Pool" "reads", .noat "Pool" "writes", .meth "Pool" "page", .meth "Pool" "put", .meth "Pool" "group_images", .meth "Pool" "close_group", .meth "Pool" "drop_group", .meth "Pool" "leave_group", .meth "Pool" "flush", .meth "Pool" "write_page", .meth "Pool" "make_room", .meth "Pool" "least_used", .mkr "Pool", .cls "Disk", .noat "Disk" "block_size", .noat "Disk" "blocks", .noat "Disk" "log", .noat "Disk" "waiting", .noat "Disk" "written", .noat "Disk" "log_tail", .noat "Disk" "fuse", .noat "Disk" "dead", .noat "Disk" "steps", .meth "Disk" "step", .meth "Disk" "read_block", .meth "Disk" "write_block", .meth "Disk" "sync_blocks", .mkr "Disk", .exc "PageFault", .exc "DiskFault", .exm "PageFault" "PageFault" true]
def exD (K : PySem.W.Frag) : Bool := emptyT K (He.dflAt ("Disk", some "__init__") 1 K) && (He.eqO (PySem.W.nsIn K mainGlobals "accumulate") (some (some (.type "itertools.accumulate"))) && (decide ((He.cT K ("law", none)).2 ≠ (He.cT K ("page_from", none)).2)))
abbrev tfD : List He.Defn := [("law", none), ("page_from", none)]
abbrev R0 : PySem.W.OpenRow := PySem.W.OpenLaw.row PySem.Challenge.rw_tablestack_k11_a_few_pages_in_memory
abbrev hk0 : PySem.W.Hook := He.hookX 5 faD fnD [] tfD exD
def ob0 (s : PySem.W.SharedT) : He.AlX := He.obsX 5 faD fnD [] tfD exD (HandSHeadRun.getT s)
theorem ob0_eq (s : PySem.W.SharedT) : ob0 s = hk0.obs s.abs := He.obsX_eq (HandSHeadRun.getT_eq s)
def loose0 : List Str := [("_wall" : Str), ("TableError" : Str), ("PageFault" : Str), ("DiskFault" : Str), ("Page" : Str), ("Pool" : Str), ("Disk" : Str), ("MODULUS" : Str), ("META" : Str), ("LEAF" : Str), ("INNER" : Str), ("FREE" : Str), ("LINK_BYTES" : Str), ("COUNT_BYTES" : Str), ("HEAD" : Str), ("TAIL" : Str), ("LENGTH_BYTES" : Str), ("CELL" : Str), ("fixed" : Str), ("number_from" : Str), ("checksum" : Str), ("page_bytes" : Str), ("page_from" : Str), ("cell_from" : Str), ("_law_dice" : Str), ("_law_roll" : Str), ("_law_rounds" : Str), ("_law_told" : Str), ("_law_page" : Str), ("_law_same" : Str)]
end K11
end

section
-- part K11XI
set_option Elab.async false
set_option linter.all false
set_option maxRecDepth 100000
set_option maxHeartbeats 2000000
namespace K11
open PySem PySem.Spec PyProof.Rows L2 Fw LamX Dc Gk M5 M10 M8 M11

theorem facts {w : World} {K : PySem.W.Frag} {h : Heap} {mg : Str → Option Value} (X : K.In h) (G : h.Ns mainGlobals mg) (c : He.SaysX faD fnD [] tfD exD w h K) :
    Wz K mg (He.ga K "PageFault") (He.ga K "Page") (He.ga K "DiskFault") (He.ga K "Disk") (He.dflAt ("Disk", some "__init__") 1 K) (He.ga K "Pool") := by
  have d := c.t.d
  have glo : ∀ {x : Str}, (He.Fa.glo x).ok K = true → mg x = some (.ref (He.ga K x)) := fun h => He.glo_ok X G h
  have fre : ∀ {x : Str}, (He.Fa.free x).ok K = true → mg x = none := fun h => He.free_ok X G h
  have it : ∀ {x : Str} {n : Int}, (He.Fa.int x n).ok K = true → Cin mg x n := fun h => by
    obtain ⟨t, e⟩ := He.int_ok X G h
    exact ⟨_, e, t, rfl⟩
  obtain ⟨xe1PageFault, xe2PageFault, xe3PageFault, xe4PageFault⟩ := He.exc_ok (d.fact 82 (f := .exc "PageFault") rfl)
  obtain ⟨xe1DiskFault, xe2DiskFault, xe3DiskFault, xe4DiskFault⟩ := He.exc_ok (d.fact 83 (f := .exc "DiskFault") rfl)

  have hx := c.more
  unfold exD at hx
  obtain ⟨hx0, hx⟩ := He.ba hx
  obtain ⟨hx1, hx⟩ := He.ba hx
  have hx2 := hx
  exact {
    p_cl := He.cls_ok (d.fact 40 (f := .cls "Page") rfl)
    p_kind := He.noat_ok (d.fact 41 (f := .noat "Page" "kind") rfl)
    p_link := He.noat_ok (d.fact 42 (f := .noat "Page" "link") rfl)
    p_cells := He.noat_ok (d.fact 43 (f := .noat "Page" "cells") rfl)
    p_g := glo (d.fact 13 (f := .glo "Page") rfl)
    p_i := by
      obtain ⟨fd, q⟩ := d.def_ 13 (d := ⟨("Page", some "__init__"), "__init__", "Page.__init__", defArgs s_Page___init__, defBody s_Page___init__, defScope s_Page___init__, [], []⟩) rfl
      exact ⟨_, fd, q, He.mkr_ok (d.fact 46 (f := .mkr "Page") rfl)⟩
    p_shown := by
      obtain ⟨fd, q⟩ := d.def_ 14 (d := ⟨("Page", some "shown"), "shown", "Page.shown", defArgs s_Page_shown, defBody s_Page_shown, defScope s_Page_shown, [], []⟩) rfl
      exact ⟨_, fd, q, He.meth_ok (d.fact 44 (f := .meth "Page" "shown") rfl)⟩
    p_size := by
      obtain ⟨fd, q⟩ := d.def_ 15 (d := ⟨("Page", some "size"), "size", "Page.size", defArgs s_Page_size, defBody s_Page_size, defScope s_Page_size, [], []⟩) rfl
      exact ⟨_, fd, q, He.meth_ok (d.fact 45 (f := .meth "Page" "size") rfl)⟩
    q_cl := He.cls_ok (d.fact 47 (f := .cls "Pool") rfl)
    q_disk := He.noat_ok (d.fact 48 (f := .noat "Pool" "disk") rfl)
    q_capacity := He.noat_ok (d.fact 49 (f := .noat "Pool" "capacity") rfl)
    q_pages := He.noat_ok (d.fact 50 (f := .noat "Pool" "pages") rfl)
    q_changed := He.noat_ok (d.fact 51 (f := .noat "Pool" "changed") rfl)
    q_open_group := He.noat_ok (d.fact 52 (f := .noat "Pool" "open_group") rfl)
    q_parts := He.noat_ok (d.fact 53 (f := .noat "Pool" "parts") rfl)
    q_reads := He.noat_ok (d.fact 54 (f := .noat "Pool" "reads") rfl)
    q_writes := He.noat_ok (d.fact 55 (f := .noat "Pool" "writes") rfl)
    q_g := glo (d.fact 14 (f := .glo "Pool") rfl)
    q_i := by
      obtain ⟨fd, q⟩ := d.def_ 16 (d := ⟨("Pool", some "__init__"), "__init__", "Pool.__init__", defArgs s_Pool___init__, defBody s_Pool___init__, defScope s_Pool___init__, [], []⟩) rfl
      exact ⟨_, fd, q, He.mkr_ok (d.fact 66 (f := .mkr "Pool") rfl)⟩
    q_page := by
      obtain ⟨fd, q⟩ := d.def_ 17 (d := ⟨("Pool", some "page"), "page", "Pool.page", defArgs s_Pool_page, defBody s_Pool_page, defScope s_Pool_page, [], []⟩) rfl
      exact ⟨_, fd, q, He.meth_ok (d.fact 56 (f := .meth "Pool" "page") rfl)⟩
    q_put := by
      obtain ⟨fd, q⟩ := d.def_ 18 (d := ⟨("Pool", some "put"), "put", "Pool.put", defArgs s_Pool_put, defBody s_Pool_put, defScope s_Pool_put, [], []⟩) rfl
      exact ⟨_, fd, q, He.meth_ok (d.fact 57 (f := .meth "Pool" "put") rfl)⟩
    q_group_images := by
      obtain ⟨fd, q⟩ := d.def_ 19 (d := ⟨("Pool", some "group_images"), "group_images", "Pool.group_images", defArgs s_Pool_group_images, defBody s_Pool_group_images, defScope s_Pool_group_images, [], []⟩) rfl
      exact ⟨_, fd, q, He.meth_ok (d.fact 58 (f := .meth "Pool" "group_images") rfl)⟩
    q_close_group := by
      obtain ⟨fd, q⟩ := d.def_ 20 (d := ⟨("Pool", some "close_group"), "close_group", "Pool.close_group", defArgs s_Pool_close_group, defBody s_Pool_close_group, defScope s_Pool_close_group, [], []⟩) rfl
      exact ⟨_, fd, q, He.meth_ok (d.fact 59 (f := .meth "Pool" "close_group") rfl)⟩
    q_drop_group := by
      obtain ⟨fd, q⟩ := d.def_ 21 (d := ⟨("Pool", some "drop_group"), "drop_group", "Pool.drop_group", defArgs s_Pool_drop_group, defBody s_Pool_drop_group, defScope s_Pool_drop_group, [], []⟩) rfl
      exact ⟨_, fd, q, He.meth_ok (d.fact 60 (f := .meth "Pool" "drop_group") rfl)⟩
    q_leave_group := by
      obtain ⟨fd, q⟩ := d.def_ 22 (d := ⟨("Pool", some "leave_group"), "leave_group", "Pool.leave_group", defArgs s_Pool_leave_group, defBody s_Pool_leave_group, defScope s_Pool_leave_group, [], []⟩) rfl
      exact ⟨_, fd, q, He.meth_ok (d.fact 61 (f := .meth "Pool" "leave_group") rfl)⟩
    q_flush := by
      obtain ⟨fd, q⟩ := d.def_ 23 (d := ⟨("Pool", some "flush"), "flush", "Pool.flush", defArgs s_Pool_flush, defBody s_Pool_flush, defScope s_Pool_flush, [], []⟩) rfl
      exact ⟨_, fd, q, He.meth_ok (d.fact 62 (f := .meth "Pool" "flush") rfl)⟩
    q_write_page := by
      obtain ⟨fd, q⟩ := d.def_ 24 (d := ⟨("Pool", some "write_page"), "write_page", "Pool.write_page", defArgs s_Pool_write_page, defBody s_Pool_write_page, defScope s_Pool_write_page, [], []⟩) rfl
      exact ⟨_, fd, q, He.meth_ok (d.fact 63 (f := .meth "Pool" "write_page") rfl)⟩
    q_make_room := by
      obtain ⟨fd, q⟩ := d.def_ 25 (d := ⟨("Pool", some "make_room"), "make_room", "Pool.make_room", defArgs s_Pool_make_room, defBody s_Pool_make_room, defScope s_Pool_make_room, [], []⟩) rfl
      exact ⟨_, fd, q, He.meth_ok (d.fact 64 (f := .meth "Pool" "make_room") rfl)⟩
    q_least_used := by
      obtain ⟨fd, q⟩ := d.def_ 26 (d := ⟨("Pool", some "least_used"), "least_used", "Pool.least_used", defArgs s_Pool_least_used, defBody s_Pool_least_used, defScope s_Pool_least_used, [], []⟩) rfl
      exact ⟨_, fd, q, He.meth_ok (d.fact 65 (f := .meth "Pool" "least_used") rfl)⟩
    k_cl := He.cls_ok (d.fact 67 (f := .cls "Disk") rfl)
    k_block_size := He.noat_ok (d.fact 68 (f := .noat "Disk" "block_size") rfl)
    k_blocks := He.noat_ok (d.fact 69 (f := .noat "Disk" "blocks") rfl)
    k_log := He.noat_ok (d.fact 70 (f := .noat "Disk" "log") rfl)
    k_waiting := He.noat_ok (d.fact 71 (f := .noat "Disk" "waiting") rfl)
    k_written := He.noat_ok (d.fact 72 (f := .noat "Disk" "written") rfl)
    k_log_tail := He.noat_ok (d.fact 73 (f := .noat "Disk" "log_tail") rfl)
    k_fuse := He.noat_ok (d.fact 74 (f := .noat "Disk" "fuse") rfl)
    k_dead := He.noat_ok (d.fact 75 (f := .noat "Disk" "dead") rfl)
    k_steps := He.noat_ok (d.fact 76 (f := .noat "Disk" "steps") rfl)
    k_g := glo (d.fact 15 (f := .glo "Disk") rfl)
    k_i := by
      obtain ⟨fd, q⟩ := d.def_ 27 (d := ⟨("Disk", some "__init__"), "__init__", "Disk.__init__", defArgs s_Disk___init__, defBody s_Disk___init__, defScope s_Disk___init__, [.non, .adr (He.dflAt ("Disk", some "__init__") 1)], []⟩) rfl
      exact ⟨_, fd, q, He.mkr_ok (d.fact 81 (f := .mkr "Disk") rfl)⟩
    k_step := by
      obtain ⟨fd, q⟩ := d.def_ 28 (d := ⟨("Disk", some "step"), "step", "Disk.step", defArgs s_Disk_step, defBody s_Disk_step, defScope s_Disk_step, [], []⟩) rfl
      exact ⟨_, fd, q, He.meth_ok (d.fact 77 (f := .meth "Disk" "step") rfl)⟩
    k_read_block := by
      obtain ⟨fd, q⟩ := d.def_ 29 (d := ⟨("Disk", some "read_block"), "read_block", "Disk.read_block", defArgs s_Disk_read_block, defBody s_Disk_read_block, defScope s_Disk_read_block, [], []⟩) rfl
      exact ⟨_, fd, q, He.meth_ok (d.fact 78 (f := .meth "Disk" "read_block") rfl)⟩
    k_write_block := by
      obtain ⟨fd, q⟩ := d.def_ 30 (d := ⟨("Disk", some "write_block"), "write_block", "Disk.write_block", defArgs s_Disk_write_block, defBody s_Disk_write_block, defScope s_Disk_write_block, [], []⟩) rfl
      exact ⟨_, fd, q, He.meth_ok (d.fact 79 (f := .meth "Disk" "write_block") rfl)⟩
    k_sync_blocks := by
      obtain ⟨fd, q⟩ := d.def_ 31 (d := ⟨("Disk", some "sync_blocks"), "sync_blocks", "Disk.sync_blocks", defArgs s_Disk_sync_blocks, defBody s_Disk_sync_blocks, defScope s_Disk_sync_blocks, [], []⟩) rfl
      exact ⟨_, fd, q, He.meth_ok (d.fact 80 (f := .meth "Disk" "sync_blocks") rfl)⟩
    n_abs := fre (d.fact 18 (f := .free "abs") rfl)
    n_int := fre (d.fact 19 (f := .free "int") rfl)
    n_str := fre (d.fact 20 (f := .free "str") rfl)
    n_len := fre (d.fact 21 (f := .free "len") rfl)
    n_range := fre (d.fact 22 (f := .free "range") rfl)
    n_tuple := fre (d.fact 23 (f := .free "tuple") rfl)
    n_sum := fre (d.fact 24 (f := .free "sum") rfl)
    n_any := fre (d.fact 25 (f := .free "any") rfl)
    n_max := fre (d.fact 26 (f := .free "max") rfl)
    n_sorted := fre (d.fact 27 (f := .free "sorted") rfl)
    n_dict := fre (d.fact 28 (f := .free "dict") rfl)
    d_fixed := by
      obtain ⟨fd, q⟩ := d.def_ 0 (d := ⟨("fixed", none), "fixed", "fixed", defArgs s_fixed, defBody s_fixed, defScope s_fixed, [], []⟩) rfl
      exact ⟨_, fd, q, glo (d.fact 0 (f := .glo "fixed") rfl)⟩
    d_number_from := by
      obtain ⟨fd, q⟩ := d.def_ 1 (d := ⟨("number_from", none), "number_from", "number_from", defArgs s_number_from, defBody s_number_from, defScope s_number_from, [], []⟩) rfl
      exact ⟨_, fd, q, glo (d.fact 1 (f := .glo "number_from") rfl)⟩
    d_checksum := by
      obtain ⟨fd, q⟩ := d.def_ 2 (d := ⟨("checksum", none), "checksum", "checksum", defArgs s_checksum, defBody s_checksum, defScope s_checksum, [], []⟩) rfl
      exact ⟨_, fd, q, glo (d.fact 2 (f := .glo "checksum") rfl)⟩
    d_page_bytes := by
      obtain ⟨fd, q⟩ := d.def_ 3 (d := ⟨("page_bytes", none), "page_bytes", "page_bytes", defArgs s_page_bytes, defBody s_page_bytes, defScope s_page_bytes, [], []⟩) rfl
      exact ⟨_, fd, q, glo (d.fact 3 (f := .glo "page_bytes") rfl)⟩
    d_page_from := by
      obtain ⟨fd, q⟩ := d.def_ 4 (d := ⟨("page_from", none), "page_from", "page_from", defArgs s_page_from, defBody s_page_from, defScope s_page_from, [], []⟩) rfl
      exact ⟨_, fd, q, glo (d.fact 4 (f := .glo "page_from") rfl)⟩
    d_cell_from := by
      obtain ⟨fd, q⟩ := d.def_ 5 (d := ⟨("cell_from", none), "cell_from", "cell_from", defArgs s_cell_from, defBody s_cell_from, defScope s_cell_from, [], []⟩) rfl
      exact ⟨_, fd, q, glo (d.fact 5 (f := .glo "cell_from") rfl)⟩
    d__law_dice := by
      obtain ⟨fd, q⟩ := d.def_ 6 (d := ⟨("_law_dice", none), "_law_dice", "_law_dice", defArgs s__law_dice, defBody s__law_dice, defScope s__law_dice, [], []⟩) rfl
      exact ⟨_, fd, q, glo (d.fact 6 (f := .glo "_law_dice") rfl)⟩
    d__law_roll := by
      obtain ⟨fd, q⟩ := d.def_ 7 (d := ⟨("_law_roll", none), "_law_roll", "_law_roll", defArgs s__law_roll, defBody s__law_roll, defScope s__law_roll, [], []⟩) rfl
      exact ⟨_, fd, q, glo (d.fact 7 (f := .glo "_law_roll") rfl)⟩
    d__law_rounds := by
      obtain ⟨fd, q⟩ := d.def_ 8 (d := ⟨("_law_rounds", none), "_law_rounds", "_law_rounds", defArgs s__law_rounds, defBody s__law_rounds, defScope s__law_rounds, [], []⟩) rfl
      exact ⟨_, fd, q, glo (d.fact 8 (f := .glo "_law_rounds") rfl)⟩
    d__law_told := by
      obtain ⟨fd, q⟩ := d.def_ 9 (d := ⟨("_law_told", none), "_law_told", "_law_told", defArgs s__law_told, defBody s__law_told, defScope s__law_told, [], []⟩) rfl
      exact ⟨_, fd, q, glo (d.fact 9 (f := .glo "_law_told") rfl)⟩
    d__law_page := by
      obtain ⟨fd, q⟩ := d.def_ 10 (d := ⟨("_law_page", none), "_law_page", "_law_page", defArgs s__law_page, defBody s__law_page, defScope s__law_page, [], []⟩) rfl
      exact ⟨_, fd, q, glo (d.fact 10 (f := .glo "_law_page") rfl)⟩
    d__law_same := by
      obtain ⟨fd, q⟩ := d.def_ 11 (d := ⟨("_law_same", none), "_law_same", "_law_same", defArgs s__law_same, defBody s__law_same, defScope s__law_same, [], []⟩) rfl
      exact ⟨_, fd, q, glo (d.fact 11 (f := .glo "_law_same") rfl)⟩
    e_PageFault := ⟨xe1PageFault, glo (d.fact 16 (f := .glo "PageFault") rfl), xe2PageFault, xe3PageFault, xe4PageFault⟩
    e_DiskFault := ⟨xe1DiskFault, glo (d.fact 17 (f := .glo "DiskFault") rfl), xe2DiskFault, xe3DiskFault, xe4DiskFault⟩
    c_MODULUS := it (d.fact 29 (f := .int "MODULUS" 65521) rfl)
    c_META := it (d.fact 30 (f := .int "META" 1) rfl)
    c_LEAF := it (d.fact 31 (f := .int "LEAF" 2) rfl)
    c_INNER := it (d.fact 32 (f := .int "INNER" 3) rfl)
    c_FREE := it (d.fact 33 (f := .int "FREE" 4) rfl)
    c_LINK_BYTES := it (d.fact 34 (f := .int "LINK_BYTES" 4) rfl)
    c_COUNT_BYTES := it (d.fact 35 (f := .int "COUNT_BYTES" 2) rfl)
    c_HEAD := it (d.fact 36 (f := .int "HEAD" 7) rfl)
    c_TAIL := it (d.fact 37 (f := .int "TAIL" 4) rfl)
    c_LENGTH_BYTES := it (d.fact 38 (f := .int "LENGTH_BYTES" 2) rfl)
    c_CELL := it (d.fact 39 (f := .int "CELL" 4) rfl)
    x_PP := He.exm_ok (d.fact 84 (f := .exm "PageFault" "PageFault" true) rfl)
    k_e := fun H => emptyT_ok hx0 H
    g_accumulate := PySem.W.mg_of X G (He.eqO_ok hx1)
  }
end K11
end

section
-- part K11XJ
set_option Elab.async false
set_option linter.all false
set_option maxRecDepth 100000
set_option maxHeartbeats 0
namespace K11
open PySem PySem.Spec PyProof.Rows L2 Fw Dc Gk M5 M10 M8 M11
theorem run0 (w : World) : HandSHeadRun.RunEqI R0 (PySem.W.view R0.prog [0, 37]) hk0 ob0 4000 loose0 w := by
  unfold HandSHeadRun.RunEqI
  kernel_rfl
end K11
end

section
-- part K11XK
set_option Elab.async false
set_option linter.all false
set_option maxRecDepth 100000
set_option maxHeartbeats 2000000
namespace K11
open PySem PySem.Spec PyProof.Rows L2 Fw LamX Dc Gk M5 M10 M8 M11
theorem law_at {w : World} {h : Heap} {K : PySem.W.Frag} {mg : Str → Option Value} {fa : Addr} (X : K.In h) (G : h.Ns mainGlobals mg) (hfa : mg ("law" : Str) = some (.ref fa)) (c : He.SaysX faD fnD [] tfD exD w h K) :
    LawAtS PySem.Challenge.rw_tablestack_k11_a_few_pages_in_memory w K (L2.CX (PySem.Challenge.rw_tablestack_k11_a_few_pages_in_memory).prog w) 11 63 "script" mg fa h := by
  have W := facts X G c
  have d := c.t.d
  obtain ⟨fd, F⟩ := d.defs (d := ⟨("law", none), "law", "law", defArgs s_law, defBody s_law, defScope s_law, [], []⟩) (by repeat (first | exact List.mem_cons_self | apply List.mem_cons_of_mem))
  have e := hfa.symm.trans (He.glo_ok X G (d.facts (f := .glo "law") (by repeat (first | exact List.mem_cons_self | apply List.mem_cons_of_mem))))
  cases e
  have b := FunD.bindsA (ps := ["script"]) F fun _ _ _ _ _ _ us hl => match us, hl with | [_], _ => rfl
  have hcode : fd.code = .ref (He.cT K ("law", none)).1 := by
    obtain ⟨oc, od, dV, kV, doc, pm, an, cdv, ct, osl, rfl, lk, hcd, _, _⟩ := F.ex
    obtain ⟨c', rfl⟩ := He.codeIn_ref hcd
    show Value.ref c' = _
    exact congrArg Value.ref (He.codeOf_eq lk rfl).symm
  refine ⟨fd, tfD.map (He.cT K), spLaw K (He.cT K ("law", none)).2 (He.cT K ("page_from", none)).2, ?_, ?_, ?_, fun s v => b s [v] rfl, fun H a ns hl _ hH hS => ?_, fun base hK hm hT => ?_⟩
  · intro p hp
    obtain ⟨q, hq, rfl⟩ := List.mem_map.mp hp
    exact c.empty q hq
  · intro p hp
    obtain ⟨q, hq, rfl⟩ := List.mem_map.mp hp
    exact c.out q hq
  · intro p hp
    obtain ⟨q, hq, rfl⟩ := List.mem_map.mp hp
    exact PySem.W.codeHd_of_K X (c.hd q hq)
  · refine ⟨a, ns, rfl, hS, hl, fun q hq => ?_, fun _ => rfl⟩
    rcases List.mem_cons.mp hq with rfl | hq
    · exact TabS.nil (hH _ (List.mem_map_of_mem List.mem_cons_self))
    rw [List.mem_singleton.mp hq]
    exact TabS.nil (hH _ (List.mem_map_of_mem (List.mem_cons_of_mem _ List.mem_cons_self)))
  · have TB := hT _ (List.mem_map_of_mem List.mem_cons_self)
    have hx := c.more
    unfold exD at hx
    obtain ⟨hx0, hx⟩ := He.ba hx
    obtain ⟨hx1, hx⟩ := He.ba hx
    have hx2 := hx
    have TF1 : TabF K mg base (He.cT K ("page_from", none)).2 := by
      obtain ⟨fd2, F2⟩ := d.def_ 4 (d := ⟨("page_from", none), "page_from", "page_from", defArgs s_page_from, defBody s_page_from, defScope s_page_from, [], []⟩) rfl
      refine ⟨_, (He.cT K ("page_from", none)).1, fd2, F2, He.glo_ok X G (d.fact 4 (f := .glo "page_from") rfl), ?_, hT _ (List.mem_map_of_mem (List.mem_cons_of_mem _ List.mem_cons_self))⟩
      obtain ⟨oc, od, dV, kV, doc, pm, an, cdv, ct, osl, rfl, lk, hcd, _, _⟩ := F2.ex
      obtain ⟨c', rfl⟩ := He.codeIn_ref hcd
      show Value.ref c' = _
      exact congrArg Value.ref (He.codeOf_eq lk rfl).symm
    have nT01 : (He.cT K ("law", none)).2 ≠ (He.cT K ("page_from", none)).2 := of_decide_eq_true hx2
    have roll := ok__law_roll (P := (PySem.Challenge.rw_tablestack_k11_a_few_pages_in_memory).prog) (w := w) (base := base) W.toWl
    have dice := ok__law_dice (P := (PySem.Challenge.rw_tablestack_k11_a_few_pages_in_memory).prog) (w := w) (base := base) W.toWl
    have rounds := ok__law_rounds W.toWl dice
    have fx := ok_fixed (P := (PySem.Challenge.rw_tablestack_k11_a_few_pages_in_memory).prog) (w := w) (base := base) W.toWx
    have nfr := ok_number_from (P := (PySem.Challenge.rw_tablestack_k11_a_few_pages_in_memory).prog) (w := w) (base := base) W.toWx
    have ck := ok_checksum W.toWx fx
    have pi := ok_pg_init (P := (PySem.Challenge.rw_tablestack_k11_a_few_pages_in_memory).prog) (w := w) (base := base) W.toWx
    have psh := ok_pg_shown (P := (PySem.Challenge.rw_tablestack_k11_a_few_pages_in_memory).prog) (w := w) (base := base) W.toWx
    have psz := ok_pg_size (P := (PySem.Challenge.rw_tablestack_k11_a_few_pages_in_memory).prog) (w := w) (base := base) W.toWx
    have pb := ok_page_bytes W.toWx fx ck psz
    have cf := ok_cell_from W.toWx nfr
    have pf := ok_page_from W.toWx TF1 nT01 ck nfr cf pi
    have st := ok_step (P := (PySem.Challenge.rw_tablestack_k11_a_few_pages_in_memory).prog) (w := w) (base := base) W.toWd
    have rb := ok_read_block (P := (PySem.Challenge.rw_tablestack_k11_a_few_pages_in_memory).prog) (w := w) (base := base) W.toWd
    have wb := ok_write_block W.toWd st
    have sb := ok_sync_blocks W.toWd st
    have i1 := ok_init1 (P := (PySem.Challenge.rw_tablestack_k11_a_few_pages_in_memory).prog) (w := w) (base := base) W.toWd
    have lu := ok_least_used (P := (PySem.Challenge.rw_tablestack_k11_a_few_pages_in_memory).prog) (w := w) (base := base) W.toWp
    have wpg := ok_write_page W.toWp pb wb
    have pini := ok_pool_init (P := (PySem.Challenge.rw_tablestack_k11_a_few_pages_in_memory).prog) (w := w) (base := base) W.toWp
    have lv := ok_leave_group (P := (PySem.Challenge.rw_tablestack_k11_a_few_pages_in_memory).prog) (w := w) (base := base) W.toWp
    have mr := ok_make_room W.toWp wpg lu
    have pg := ok_page W.toWp pf rb mr
    have pt := ok_put W.toWp psz mr
    have cg := ok_close_group W.toWp mr
    have dg := ok_drop_group W.toWp lv mr
    have fl := ok_flush W.toWp wpg sb
    have gi := ok_group_images W.toWp pb
    have lp := ok__law_page W roll pi
    have ls := ok__law_same W psh
    exact ok_law W F hcode TB nT01 roll rounds lp ls pi pf i1 pini pg pt gi cg dg fl
end K11
open PySem PySem.W PySem.Calls PyProof.Rows
theorem PySem.Challenge.cw_tablestack_k11_a_few_pages_in_memory_holds : PySem.Challenge.rw_tablestack_k11_a_few_pages_in_memory.Holds := by
  w_on; o_law
  refine HandSHeadRun.head_imp (r := OpenLaw.row PySem.Challenge.rw_tablestack_k11_a_few_pages_in_memory) (q := view (OpenLaw.row PySem.Challenge.rw_tablestack_k11_a_few_pages_in_memory).prog [0, 37]) (H := K11.hk0) (ob := K11.ob0) (M := 4000) (loose := K11.loose0) (d := HandSHeadRun.topDef (OpenLaw.row PySem.Challenge.rw_tablestack_k11_a_few_pages_in_memory).prog 37) (kwd := []) K11.ob0_eq
    K11.run0 (by kernel_rfl) (by kernel_rfl) (by kernel_rfl) (by rfl) (by first | assumption | decide +kernel) (by decide +kernel) ⟨rfl, rfl, rfl, rfl, rfl, by decide +kernel⟩ ?hw ?hc
  case hw => w_witness2
  case hc =>
    refine LamX.walk_ofTsE (l := PySem.Challenge.rw_tablestack_k11_a_few_pages_in_memory) (n := 63) (k := 11) (x := "script") (CX := fun w => L2.CX (PySem.Challenge.rw_tablestack_k11_a_few_pages_in_memory).prog w) rfl (by decide) (by kernel_rfl) ⟨rfl, by decide, by decide⟩ ?F (fun _ _ _ _ _ z => by
      obtain ⟨_, _, _, _, _, _, _, _, _, _, _, _, z⟩ := z
      exact z)
    intro w mg fa h Y G hmg0
    obtain ⟨K, KX, c⟩ := Y
    have hmg : mg ("law" : PySem.Str) = some (.ref fa) := by
      have e : (HandSHeadRun.topDef (OpenLaw.row PySem.Challenge.rw_tablestack_k11_a_few_pages_in_memory).prog 37).name = ("law" : PySem.Str) := by kernel_rfl
      rw [← e]
      exact hmg0
    exact ⟨K, KX, K11.law_at KX G hmg c⟩
end
