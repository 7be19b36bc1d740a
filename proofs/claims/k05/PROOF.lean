import PyProof.Rows.All
import Wide.All
import OpenK.AllK
import Wide.FinOn
import PyProof.EqAt
import PyProof.EqKinds
import PyProof.TupleCall
import KE.KLam
import HandS.ForMost
import HandS.Wide
import HandS.StrMore
import HandS.Replace
import HandS.FStr
import HandS.Exc
import HandS.ExcOwn
import HandS.TryMany
import HandS.WordsExc
import HandS.Small
import HandS.RaiseMore
import HandS.Deep
import HandS.DeepEq
import HandS.CallRecv
import HandS.Lambda
import HandS.EndBits
import HandS.EndTab
import HandS.HeadWalk
import HandS.Defaults
import HandS.Head0
import HandS.Head1
import HandS.Head2
import HandS.HeadHook1
import HandS.HeadHook2
import HandS.HeadHook3
import HandS.HeadHook4
import HandS.ReplaceLit
import HandS.Star
import HandS.Style
import HandS.IsInst
import HandS.TupAny
import HandS.TupMul
import PyProof.AutoSeq1
import KE.GoesMore
import KE.GoesEnum
import HandS.Zip
import PyProof.ListRange
import HandS.More
import HandS.MapSum
import PyProof.CallType
import PyProof.RangeIter
import KE.LtData
import HandS.Head3
import PySem.Challenge.RW_tablestack_k05_keys_and_records_as_bytes
section
-- part Fw
set_option Elab.async false
set_option linter.all false
set_option maxRecDepth 100000
set_option maxHeartbeats 2000000
/-! Fw: words of our own over the hand layer: a def that may be called by its name, what is kept of a heap, dice. -/
namespace Fw
open PySem PySem.Spec PyProof.Rows L2

/-- a def of the module that may be called by its name x; it may raise -/
structure Cl (P : Program) (w : World) (K : PySem.W.Frag) (mg : Str → Option Value) (base : Heap) (k : Nat) (x : Str) (sp : Sp) : Prop where
  ex : ∃ (f : Addr) (fd : FuncData) (ps : List Str), FnOk P w K mg base (L2.CX P w) k f fd ps sp ∧ mg x = some (.ref f) ∧ PySem.W.keepIn K (.ref f) = true ∧ Binds K fd ps []
abbrev FnP (K : PySem.W.Frag) (mg : Str → Option Value) (x : Str) (st : Stmt) : Prop := ∃ (f : Addr) (fd : FuncData), FunD K x x (defArgs st) (defBody st) (defScope st) [] [] f fd ∧ mg x = some (.ref f)
section
variable {P : Program} {w : World} {K : PySem.W.Frag} {mg : Str → Option Value} {base : Heap} {x : Str} {st : Stmt}
theorem cl_mk {N ps : List Str} {k : Nat} {sp : Sp} (F : FnP K mg x st) (S : FnScope N ps (defScope st))
    (b : ∀ (kV doc pm : Value) (an : Option Addr) (cdv ct : Value) (us : List Value), us.length = ps.length → bindArgs (PySem.W.fnOf x x (defArgs st) (defBody st) (defScope st) .none kV doc pm an cdv ct) ⟨us, []⟩ = pure (ps.zip us))
    (len : ∀ vs H Q E, sp vs H Q E → vs.length = ps.length)
    (hbody : ∀ (f : Addr) (cdv : Value) (A : Around) (outer : List Env) (s : Shared) (H : Hp) (vs : List V) (Q : VK) (E : XK), Room k (A.deeper (envOfC x (defScope st) s.heap.objs.size f cdv)) → sp vs H Q E →
      ∃ t, PSs (cxOf (L2.CX P w) P w K mg base N x (defScope st) f cdv A outer s H E) (defBody st) t ∧ t { nx := fun _ H' => Q .non H', rt := Q } (start N vs) H) : Cl P w K mg base (k + 1) x sp := by
  obtain ⟨f, fd, F, m⟩ := F
  exact ⟨f, fd, ps, F.ok S len (hbody f), m, F.kp, F.bindsN b⟩
theorem Cl.mono {j k : Nat} {sp : Sp} (c : Cl P w K mg base j x sp) (h : j ≤ k) : Cl P w K mg base k x sp := by
  obtain ⟨f, fd, ps, F, m, kp, b⟩ := c.ex
  exact ⟨f, fd, ps, F.mono h, m, kp, b⟩
/-- a promise that says more -/
theorem Cl.imp {k : Nat} {sp sp' : Sp} (c : Cl P w K mg base k x sp) (h : ∀ vs H Q E, sp' vs H Q E → sp vs H Q E) : Cl P w K mg base k x sp' := by
  obtain ⟨f, fd, ps, F, m, kp, b⟩ := c.ex
  exact ⟨f, fd, ps, ⟨fun vs H Q E q => F.len vs H Q E (h _ _ _ _ q), fun A outer s H args us vs Q E hr e0 hb r q => F.run A outer s H args us vs Q E hr e0 hb r (h _ _ _ _ q)⟩, m, kp, b⟩
end
def tCl (sp : Sp) (E : XK) (t : TA) : TE := fun σ H Q => t σ H fun vs H1 => sp vs H1 Q E
section
variable {X : Cx} {k j : Nat} {C : Addr} {x m : Str} {sp : Sp} {E : XK} {p pos apos : Pos} {e o : Expr} {es : List Expr} {ta : TE} {t : TA}
theorem pe_cl (c : Cl X.prog X.w X.K X.mg X.base k x sp) (hr : Room j X.A) (hk : k ≤ j) (hg : Gl X x) (hx : Passes (L2.CX X.prog X.w) X E) (ha : PA X (e :: es) t)
    (hdb : (x == ("__debug__" : Str)) = false := by decide) (he : starEach (e :: es) X.env = (false, eval e X.env) :: starEach es X.env := by rfl) (hpl : (backTo pos (starEach es X.env)).any (·.1) = false := by rfl) :
    PE X (.Call (.Name x p) (e :: es) [] pos) (tCl sp E t) := by
  obtain ⟨f, fd, ps, F, hm, kp, b⟩ := c.ex
  refine ⟨fun pins s σ H Q I h => ?_⟩
  refine (pe_call F (hr.mono hk) hg hm kp b .nil hx ha hdb he hpl).run pins s σ H Q I ?_
  have q : t σ H fun vs H1 => sp vs H1 Q E := h
  show t σ H fun vs H1 => sp (vs ++ []) H1 Q E
  have e0 : (fun (vs : List V) (H1 : Hp) => sp (vs ++ []) H1 Q E) = fun vs H1 => sp vs H1 Q E := by
    funext vs H1
    rw [List.append_nil]
  rw [e0]
  exact q
/-- what leaves a def's own body -/
theorem passD {P : Program} {w : World} {K : PySem.W.Frag} {mg : Str → Option Value} {base : Heap} {N : List Str} {x : Str} {sc : Scope} {f : Addr} {cdv : Value} {A : Around} {outer : List Env} {s : Shared} {H : Hp} {E : XK} :
    Passes (L2.CX P w) (cxOf (L2.CX P w) P w K mg base N x sc f cdv A outer s H E) E := passes_call (takes_of rfl rfl rfl rfl) fun _ _ _ _ h => h
end

/-! ### texts as lists of signs -/
abbrev T (l : List Nat) : V := .str ⟨l.toArray⟩
theorem tl_mk (l : List Nat) : ((⟨l.toArray⟩ : Str).cps.toList) = l := by simp
theorem len_mk (l : List Nat) : (⟨l.toArray⟩ : Str).length = l.length := by simp [Str.length]

/-! ### heaps: all but one object is kept -/
def Kp (d : Addr) (H H' : Hp) : Prop := ∀ b o, b ≠ d → H b = some o → H' b = some o
theorem Kp.refl (d : Addr) (H : Hp) : Kp d H H := fun _ _ _ h => h
theorem Kp.trans {d : Addr} {H H1 H2 : Hp} (a : Kp d H H1) (b : Kp d H1 H2) : Kp d H H2 := fun c o n h => b c o n (a c o n h)
theorem Kp.at_ {d : Addr} {H : Hp} {o : HO} : Kp d H (upd H d o) := fun b u n h => by rw [upd_ne n]; exact h
theorem Kp.of {d : Addr} {H H' : Hp} (h : Same H H') : Kp d H H' := fun b o _ e => h b o e
theorem same_new {H : Hp} {p : Addr} (h : H p = none) (o : HO) : Same H (upd H p o) := fun b u q => by rw [upd_ne (ne_of_none q h)]; exact q
theorem Kp.new {d : Addr} {H : Hp} {p : Addr} {o : HO} (h : H p = none) : Kp d H (upd H p o) := Kp.of (same_new h o)
/-- three ints at d -/
def Dice (H : Hp) (d : Addr) : Prop := ∃ a b c : Int, H d = some (.lst [.int a, .int b, .int c])
theorem Dice.new {H : Hp} {d p : Addr} {o : HO} (h : Dice H d) (hp : H p = none) : Dice (upd H p o) d := by
  obtain ⟨a, b, c, e⟩ := h
  exact ⟨a, b, c, by rw [upd_ne (ne_of_none e hp)]; exact e⟩
/-! ### classes -/
/-- a class that may be made by its name x -/
structure Mc (P : Program) (w : World) (K : PySem.W.Frag) (mg : Str → Option Value) (base : Heap) (k : Nat) (x : Str) (C : Addr) (sp : Sp) : Prop where
  ex : ∃ (f : Addr) (fd : FuncData) (ps : List Str), Mk K C f ∧ FnOk P w K mg base (L2.CX P w) k f fd ps sp ∧ mg x = some (.ref C) ∧ Binds K fd ps []
/-- a method m of the class at C -/
structure Me (P : Program) (w : World) (K : PySem.W.Frag) (mg : Str → Option Value) (base : Heap) (k : Nat) (C : Addr) (m : Str) (sp : Sp) : Prop where
  ex : ∃ (f : Addr) (fd : FuncData) (ps : List Str), Cls K C ∧ Meth K C m f ∧ FnOk P w K mg base (L2.CX P w) k f fd ps sp ∧ Binds K fd ps []
/-- a method's text as it stands -/
abbrev FnM (K : PySem.W.Frag) (C : Addr) (m qual : Str) (st : Stmt) : Prop := ∃ (f : Addr) (fd : FuncData), FunD K m qual (defArgs st) (defBody st) (defScope st) [] [] f fd ∧ Meth K C m f
section
variable {P : Program} {w : World} {K : PySem.W.Frag} {mg : Str → Option Value} {base : Heap} {x m qual : Str} {st : Stmt} {C : Addr}
theorem fn_m {N ps : List Str} {k : Nat} {sp : Sp} {f : Addr} {fd : FuncData} (F : FunD K m qual (defArgs st) (defBody st) (defScope st) [] [] f fd) (S : FnScope N ps (defScope st))
    (len : ∀ vs H Q E, sp vs H Q E → vs.length = ps.length)
    (hbody : ∀ (f : Addr) (cdv : Value) (A : Around) (outer : List Env) (s : Shared) (H : Hp) (vs : List V) (Q : VK) (E : XK), Room k (A.deeper (envOfC qual (defScope st) s.heap.objs.size f cdv)) → sp vs H Q E →
      ∃ t, PSs (cxOf (L2.CX P w) P w K mg base N qual (defScope st) f cdv A outer s H E) (defBody st) t ∧ t { nx := fun _ H' => Q .non H', rt := Q } (start N vs) H) : FnOk P w K mg base (L2.CX P w) (k + 1) f fd ps sp := F.ok S len (hbody f)
theorem mc_mk {N ps : List Str} {k : Nat} {sp : Sp} (F : ∃ (f : Addr) (fd : FuncData), FunD K "__init__" qual (defArgs st) (defBody st) (defScope st) [] [] f fd ∧ Mk K C f) (hm : mg x = some (.ref C)) (S : FnScope N ps (defScope st))
    (b : ∀ (kV doc pm : Value) (an : Option Addr) (cdv ct : Value) (us : List Value), us.length = ps.length → bindArgs (PySem.W.fnOf "__init__" qual (defArgs st) (defBody st) (defScope st) .none kV doc pm an cdv ct) ⟨us, []⟩ = pure (ps.zip us))
    (len : ∀ vs H Q E, sp vs H Q E → vs.length = ps.length)
    (hbody : ∀ (f : Addr) (cdv : Value) (A : Around) (outer : List Env) (s : Shared) (H : Hp) (vs : List V) (Q : VK) (E : XK), Room k (A.deeper (envOfC qual (defScope st) s.heap.objs.size f cdv)) → sp vs H Q E →
      ∃ t, PSs (cxOf (L2.CX P w) P w K mg base N qual (defScope st) f cdv A outer s H E) (defBody st) t ∧ t { nx := fun _ H' => Q .non H', rt := Q } (start N vs) H) : Mc P w K mg base (k + 1) x C sp := by
  obtain ⟨f, fd, F, M⟩ := F
  exact ⟨f, fd, ps, M, fn_m F S len hbody, hm, F.bindsN b⟩
theorem me_mk {N ps : List Str} {k : Nat} {sp : Sp} (F : FnM K C m qual st) (c : Cls K C) (S : FnScope N ps (defScope st))
    (b : ∀ (kV doc pm : Value) (an : Option Addr) (cdv ct : Value) (us : List Value), us.length = ps.length → bindArgs (PySem.W.fnOf m qual (defArgs st) (defBody st) (defScope st) .none kV doc pm an cdv ct) ⟨us, []⟩ = pure (ps.zip us))
    (len : ∀ vs H Q E, sp vs H Q E → vs.length = ps.length)
    (hbody : ∀ (f : Addr) (cdv : Value) (A : Around) (outer : List Env) (s : Shared) (H : Hp) (vs : List V) (Q : VK) (E : XK), Room k (A.deeper (envOfC qual (defScope st) s.heap.objs.size f cdv)) → sp vs H Q E →
      ∃ t, PSs (cxOf (L2.CX P w) P w K mg base N qual (defScope st) f cdv A outer s H E) (defBody st) t ∧ t { nx := fun _ H' => Q .non H', rt := Q } (start N vs) H) : Me P w K mg base (k + 1) C m sp := by
  obtain ⟨f, fd, F, M⟩ := F
  exact ⟨f, fd, ps, c, M, fn_m F S len hbody, F.bindsN b⟩
end
def tMk (C : Addr) (sp : Sp) (E : XK) (t : TA) : TE := fun σ H Q => t σ H fun vs H1 => ∀ x dx, H1 x = none → H1 dx = none → dx ≠ x → sp (.ref x :: vs) (upd (upd H1 dx (.own x)) x (.ins C dx [])) (fun v H2 => v = .non ∧ Q (.ref x) H2) E
def tMe (C : Addr) (m : Str) (sp : Sp) (E : XK) (ta : TE) (t : TA) : TE := fun σ H Q => ta σ H fun x H1 => ∃ a dx fs, x = .ref a ∧ H1 a = some (.ins C dx fs) ∧ fs.lookup m = none ∧ t σ H1 fun vs H2 => sp (x :: vs) H2 Q E
section
variable {X : Cx} {k j : Nat} {C : Addr} {x m : Str} {sp : Sp} {E : XK} {p pos apos : Pos} {e o : Expr} {es : List Expr} {ta : TE} {t : TA}
theorem pe_mc (c : Mc X.prog X.w X.K X.mg X.base k x C sp) (hr : Room j X.A) (hk : k + 1 ≤ j) (hg : Gl X x) (hx : Passes (L2.CX X.prog X.w) X E) (ha : PA X (e :: es) t)
    (hdb : (x == ("__debug__" : Str)) = false := by decide) (he : starEach (e :: es) X.env = (false, eval e X.env) :: starEach es X.env := by rfl) (hpl : (backTo pos (starEach es X.env)).any (·.1) = false := by rfl) :
    PE X (.Call (.Name x p) (e :: es) [] pos) (tMk C sp E t) := by
  obtain ⟨f, fd, ps, M, F, hm, b⟩ := c.ex
  refine ⟨fun pins s σ H Q I h => ?_⟩
  refine (pe_make M F (hr.mono hk) hg hm b .nil hx ha hdb he hpl).run pins s σ H Q I ?_
  have q : t σ H fun vs H1 => ∀ x dx, H1 x = none → H1 dx = none → dx ≠ x → sp (.ref x :: vs) (upd (upd H1 dx (.own x)) x (.ins C dx [])) (fun v H2 => v = .non ∧ Q (.ref x) H2) E := h
  have e0 : (fun (vs : List V) (H1 : Hp) => ∀ x dx, H1 x = none → H1 dx = none → dx ≠ x → sp (.ref x :: (vs ++ [])) (upd (upd H1 dx (.own x)) x (.ins C dx [])) (fun v H2 => v = .non ∧ Q (.ref x) H2) E) =
      fun vs H1 => ∀ x dx, H1 x = none → H1 dx = none → dx ≠ x → sp (.ref x :: vs) (upd (upd H1 dx (.own x)) x (.ins C dx [])) (fun v H2 => v = .non ∧ Q (.ref x) H2) E := by
    funext vs H1
    rw [List.append_nil]
  show t σ H fun vs H1 => ∀ x dx, H1 x = none → H1 dx = none → dx ≠ x → sp (.ref x :: (vs ++ [])) (upd (upd H1 dx (.own x)) x (.ins C dx [])) (fun v H2 => v = .non ∧ Q (.ref x) H2) E
  rw [e0]
  exact q
theorem pe_me {pl : Sem Bool} (c : Me X.prog X.w X.K X.mg X.base k C m sp) (hr : Room j X.A) (hk : k ≤ j) (hx : Passes (L2.CX X.prog X.w) X E) (he : PE X o ta) (ha : PA X (e :: es) t)
    (hst : starEach (e :: es) X.env = (false, eval e X.env) :: starEach es X.env := by rfl) (hpl : (backTo pos (starEach es X.env)).any (·.1) = false := by rfl)
    (ht : eval (.Call (.Attribute o m apos) (e :: es) [] pos) X.env = (do
      let ov ← eval o X.env
      standAt apos.atName
      let (f, first) ← holding [ov] (getMethod ov m pl)
      callWith pos f first (backTo pos (starEach (e :: es) X.env)) (backToKw pos (keywordEach [] X.env))) := by rfl) :
    PE X (.Call (.Attribute o m apos) (e :: es) [] pos) (tMe C m sp E ta t) := by
  obtain ⟨f, fd, ps, hc, hm, F, b⟩ := c.ex
  refine ⟨fun pins s σ H Q I h => ?_⟩
  refine (pe_meth (pl := pl) he hc hm F (hr.mono hk) b .nil hx ha hst hpl ht).run pins s σ H Q I ?_
  have e0 : (fun (x : V) (H1 : Hp) => ∃ a dx fs, x = .ref a ∧ H1 a = some (.ins C dx fs) ∧ fs.lookup m = none ∧ t σ H1 fun vs H2 => sp (x :: (vs ++ [])) H2 Q E) =
      fun x H1 => ∃ a dx fs, x = .ref a ∧ H1 a = some (.ins C dx fs) ∧ fs.lookup m = none ∧ t σ H1 fun vs H2 => sp (x :: vs) H2 Q E := by
    funext x H1
    simp only [List.append_nil]
  show ta σ H fun x H1 => ∃ a dx fs, x = .ref a ∧ H1 a = some (.ins C dx fs) ∧ fs.lookup m = none ∧ t σ H1 fun vs H2 => sp (x :: (vs ++ [])) H2 Q E
  rw [e0]
  exact h
theorem pe_me0 {pl : Sem Bool} (c : Me X.prog X.w X.K X.mg X.base k C m sp) (hr : Room j X.A) (hk : k ≤ j) (hx : Passes (L2.CX X.prog X.w) X E) (he : PE X o ta)
    (ht : eval (.Call (.Attribute o m apos) [] [] pos) X.env = (do
      let ov ← eval o X.env
      standAt apos.atName
      let (f, first) ← holding [ov] (getMethod ov m pl)
      callWith pos f first (backTo pos (starEach [] X.env)) (backToKw pos (keywordEach [] X.env))) := by rfl) :
    PE X (.Call (.Attribute o m apos) [] [] pos) (tMe C m sp E ta tNil) := by
  obtain ⟨f, fd, ps, hc, hm, F, b⟩ := c.ex
  exact pe_meth0 (pl := pl) he hc hm F (hr.mono hk) b .nil hx ht
end
end Fw
end

section
-- part Fs
set_option Elab.async false
set_option linter.all false
set_option maxRecDepth 100000
set_option maxHeartbeats 2000000
/-! Fs: readings, step by step -/
namespace Fw
open PySem PySem.Spec PyProof.Rows L2
section
variable {K : PySem.W.Frag} {σ : L2.St} {H : Hp} {Q : VK} {ta tb te tc : TE} {t u : TS} {D : Ends} {v x y : V} {i : Nat} {r : R2} {tt tu : TT} {QT : Bool → Hp → Prop} {tr : TA} {QA : List V → Hp → Prop} {E : XK} {sp : Sp}
theorem w_seq (h : t { D with nx := u D } σ H) : tSeq t u D σ H := h
theorem w_asg {g : TG} (h : te σ H fun x H1 => g x σ H1 D.nx) : tAsg te g D σ H := h
theorem w_ret (h : te σ H D.rt) : tRet te D σ H := h
theorem w_drop (h : te σ H fun _ H1 => D.nx σ H1) : tDrop te D σ H := h
theorem w_next (h : D.nx σ H) : tNext D σ H := h
theorem w_ifs (h : tt σ H fun b H1 => if b = true then t D σ H1 else u D σ H1) : tIfS tt t u D σ H := h
theorem w_var (h : σ[i]? = some (some v)) (q : Q v H) : tVar i σ H Q := ⟨v, h, q⟩
theorem w_c (q : Q v H) : tC v σ H Q := q
theorem w_op (h : ta σ H fun x H1 => tb σ H1 fun y H2 => r x y H2 Q) : tOp r ta tb σ H Q := h
theorem w_un {r : V → Hp → VK → Prop} (h : ta σ H fun x H1 => r x H1 Q) : tUn r ta σ H Q := h
theorem w_cons (h : ta σ H fun x H1 => tr σ H1 fun xs H2 => QA (x :: xs) H2) : tCons ta tr σ H QA := h
theorem w_nil (q : QA [] H) : tNil σ H QA := q
theorem w_cl (h : tr σ H fun vs H1 => sp vs H1 Q E) : tCl sp E tr σ H Q := h
theorem w_cb {r : List V → Hp → VK → Prop} (h : tr σ H fun vs H1 => r vs H1 Q) : tCB r tr σ H Q := h
theorem w_gname {Q : L2.St → Hp → Prop} (h : Q (σ.set i (some v)) H) : gName i v σ H Q := h
theorem w_gsub {Q : L2.St → Hp → Prop} {s : TSet} (h : ta σ H fun o H1 => tb σ H1 fun i H2 => s o i v H2 fun H3 => Q σ H3) : gSub ta tb s v σ H Q := h
theorem w_test (h : te σ H fun x H1 => ∃ k, x = .bl k ∧ QT k H1) : tTest te σ H QT := h
theorem w_B (h : te σ H fun x H1 => ∃ k, x = .bl k ∧ QT k H1) : tB te σ H QT := h
theorem w_bl {b : Bool} {P : Bool → Prop} (h : P b) : ∃ k, V.bl b = V.bl k ∧ P k := ⟨b, rfl, h⟩
theorem w_and (h : tt σ H fun b H1 => if b = true then tu σ H1 QT else QT false H1) : tAnd tt tu σ H QT := h
theorem w_or (h : tt σ H fun b H1 => if b = true then QT true H1 else tu σ H1 QT) : tOr tt tu σ H QT := h
theorem w_not (h : tt σ H fun b H1 => QT (!b) H1) : tNot tt σ H QT := h
theorem w_if (h : tt σ H fun b H1 => if b = true then ta σ H1 Q else tb σ H1 Q) : tIf tt ta tb σ H Q := h
theorem w_I0 {g : Int → Int → V} {i j : Int} (q : Q (g i j) H) : rI0 g (.int i) (.int j) H Q := ⟨i, j, rfl, rfl, q⟩
theorem w_I {C : Int → Int → Prop} {g : Int → Int → V} {i j : Int} (c : C i j) (q : Q (g i j) H) : rI C g (.int i) (.int j) H Q := ⟨i, j, rfl, rfl, c, q⟩
theorem w_eq (s : scal x y = true) (q : Q (.bl (decide (x = y))) H) : rEq x y H Q := ⟨s, q⟩
theorem w_ne (s : scal x y = true) (q : Q (.bl (!decide (x = y))) H) : rNe x y H Q := ⟨s, q⟩
theorem w_ixL {p : Addr} {xs : List V} {i : Int} (h : H p = some (.lst xs)) (a : atI xs i = some v) (q : Q v H) : rIxL K (.ref p) (.int i) H Q := ⟨p, xs, i, v, rfl, rfl, .inl (.inl h), a, q⟩
theorem w_setL {p : Addr} {xs : List V} {k : Int} {j : Nat} {Q : Hp → Prop} (h : H p = some (.lst xs)) (a : ixN xs.length k = some j) (q : Q (upd H p (.lst (xs.set j v)))) : rSetL (.ref p) (.int k) v H Q := ⟨p, xs, k, j, rfl, rfl, h, a, q⟩
theorem w_lst (h : tr σ H fun xs H1 => xs.length ≤ sizeLine ∧ ∀ p, H1 p = none → Q (.ref p) (upd H1 p (.lst xs))) : tLst tr σ H Q := h
theorem w_tup (h : tr σ H fun xs H1 => xs.length ≤ sizeLine ∧ ∀ p, H1 p = none → Q (.ref p) (upd H1 p (.tup xs))) : tTup tr σ H Q := h
theorem w_iteD {p : Prop} [Decidable p] {A B : Prop} (h1 : p → A) (h2 : ¬ p → B) : if decide p = true then A else B := by
  by_cases c : p
  · rw [if_pos (decide_eq_true c)]
    exact h1 c
  · rw [if_neg (by simp [c])]
    exact h2 c
theorem w_ite {b : Bool} {A B : Prop} (h1 : b = true → A) (h2 : b = false → B) : if b = true then A else B := by
  cases b with
  | true => rw [if_pos rfl]; exact h1 rfl
  | false => rw [if_neg Bool.false_ne_true]; exact h2 rfl
theorem w_iteT {A B : Prop} (h : A) : if true = true then A else B := by rw [if_pos rfl]; exact h
theorem w_iteF {A B : Prop} (h : B) : if false = true then A else B := by rw [if_neg Bool.false_ne_true]; exact h
theorem w_fld {f : Str} (h : ta σ H fun x H1 => ∃ a C dx fs v, x = .ref a ∧ H1 a = some (.ins C dx fs) ∧ Cls K C ∧ NoAttr K C f ∧ fs.lookup f = some v ∧ Q v H1) : tFld K ta f σ H Q := h
theorem w_mk {C : Addr} (h : tr σ H fun vs H1 => ∀ x dx, H1 x = none → H1 dx = none → dx ≠ x → sp (.ref x :: vs) (upd (upd H1 dx (.own x)) x (.ins C dx [])) (fun v H2 => v = .non ∧ Q (.ref x) H2) E) : tMk C sp E tr σ H Q := h
theorem w_me {C : Addr} {m : Str} (h : ta σ H fun x H1 => ∃ a dx fs, x = .ref a ∧ H1 a = some (.ins C dx fs) ∧ fs.lookup m = none ∧ tr σ H1 fun vs H2 => sp (x :: vs) H2 Q E) : tMe C m sp E ta tr σ H Q := h
theorem w_sfld {tv : TE} {f : Str} (h : tv σ H fun y H1 => ta σ H1 fun x H2 => ∃ a C dx fs, x = .ref a ∧ H2 a = some (.ins C dx fs) ∧ Cls K C ∧ NoAttr K C f ∧ fs.length < 1000 ∧ D.nx σ (upd H2 a (.ins C dx (putF f y fs)))) : sFld K ta tv f D σ H := h
theorem w_bm {T : String} {r : V → List V → Hp → VK → Prop} (h : ta σ H fun x H1 => tyV K T x H1 ∧ tr σ H1 fun xs H2 => r x xs H2 Q) : tBM K T r ta tr σ H Q := h
theorem w_bm0 {T : String} {r : V → List V → Hp → VK → Prop} (h : ta σ H fun x H1 => tyV K T x H1 ∧ r x [] H1 Q) : tBM0 K T r ta σ H Q := h
theorem w_sl {r : V → Option Int → Option Int → Hp → VK → Prop} {tl th : TO} (h : te σ H fun x H1 => tl σ H1 fun l H2 => th σ H2 fun u H3 => r x l u H3 Q) : tSl r te tl th σ H Q := h
theorem w_part {Q : Option Int → Hp → Prop} (h : te σ H fun x H1 => ∃ i, x = .int i ∧ Q (some i) H1) : tPart te σ H Q := h
theorem w_nopart {Q : Option Int → Hp → Prop} (h : Q none H) : tNoPart σ H Q := h
theorem w_partI {n : Int} {P : Int → Prop} (h : P n) : ∃ i, V.int n = V.int i ∧ P i := ⟨n, rfl, h⟩
theorem w_aug {ti : TIp} (h : σ[i]? = some (some x)) (q : te σ H fun y H1 => ti x y H1 fun z H2 => D.nx (σ.set i (some z)) H2) : tAug i te ti D σ H := ⟨x, h, q⟩
theorem w_ipI {f : Int → Int → Int} {i j : Int} (q : Q (.int (f i j)) H) : ipI f (.int i) (.int j) H Q := ⟨i, j, rfl, rfl, q⟩
end
theorem hu64 {k : Nat} {A : Around} (r : Room k A) : A.units + 64 < cLine := by have := r.un; omega
theorem hu1 {k : Nat} {A : Around} (r : Room k A) : A.units < cLine := by have := r.un; omega
section
variable {K : PySem.W.Frag} {σ : L2.St} {H : Hp} {Q : VK} {ta tb tc : TE} {r r' : R2} {v x y : V}
theorem w_chain (h : ta σ H fun x H1 => tb σ H1 fun y H2 => r x y H2 fun z H3 => ∃ k, z = .bl k ∧ (if k = true then tc σ H3 fun w' H4 => r' y w' H4 Q else Q (.bl false) H3)) : tChain r r' ta tb tc σ H Q := h
theorem w_x1i {c : Int} {P : Int → Prop} (h : P c) : ∃ i, [V.int c] = [V.int i] ∧ P i := ⟨c, rfl, h⟩
theorem w_x1b {c : Bool} {P : Bool → Prop} (h : P c) : ∃ i, [V.bl c] = [V.bl i] ∧ P i := ⟨c, rfl, h⟩
theorem w_x1s {c : Str} {P : Str → Prop} (h : P c) : ∃ i, [V.str c] = [V.str i] ∧ P i := ⟨c, rfl, h⟩
theorem w_int1i {c : Int} {P : Int → Prop} {R : Prop} (h : P c) : (∃ i, [V.int c] = [V.int i] ∧ P i) ∨ R := .inl ⟨c, rfl, h⟩
theorem w_int1b {c : Bool} {P : Bool → Prop} {R : Prop} (h : P c) : R ∨ ∃ i, [V.bl c] = [V.bl i] ∧ P i := .inr ⟨c, rfl, h⟩
theorem w_mod {i j : Int} (c : 0 < j) (q : Q (.int (i % j)) H) : rI (fun _ j => 0 < j) (fun i j => V.int (i % j)) (.int i) (.int j) H Q := ⟨i, j, rfl, rfl, c, q⟩
theorem w_mul {i j : Int} (c : CMul i j) (q : Q (.int (i * j)) H) : rI CMul (fun i j => V.int (i * j)) (.int i) (.int j) H Q := ⟨i, j, rfl, rfl, c, q⟩
theorem w_fdivW {i j : Int} (c : 0 < j) (c2 : j < 2 ^ 60) (q : Q (.int (i / j)) H) : rI CDivW (fun i j => V.int (i / j)) (.int i) (.int j) H Q :=
  ⟨i, j, rfl, rfl, wide_div (b := 60) c (by omega) (by decide) (by decide), q⟩
theorem w_pow {i j : Int} (c : CPow i j) (q : Q (.int (i ^ j.toNat)) H) : rI CPow (fun i j => V.int (i ^ j.toNat)) (.int i) (.int j) H Q := ⟨i, j, rfl, rfl, c, q⟩
end
section
variable {K : PySem.W.Frag} {σ : L2.St} {H : Hp} {Q : VK} {v x y : V}
theorem w_setLu {p : Addr} {xs : List V} {k : Int} {j : Nat} {Q : Hp → Prop} (a : ixN xs.length k = some j) (q : Q (upd H p (.lst (xs.set j v)))) : rSetL (.ref p) (.int k) v (upd H p (.lst xs)) Q := ⟨p, xs, k, j, rfl, rfl, upd_same, a, by rw [upd_upd]; exact q⟩
theorem w_new {n : Nat} {B : Prop} (hz : Nat.ble n 1000 = true) (h : B) : n ≤ sizeLine ∧ B := ⟨Nat.le_trans (Nat.le_of_ble_eq_true hz) (by decide), h⟩
theorem mod_b {a m : Int} (h : 0 < m) : 0 ≤ a % m ∧ a % m < m := ⟨Int.emod_nonneg a (by omega), Int.emod_lt_of_pos a h⟩
end
section
variable {K : PySem.W.Frag} {σ : L2.St} {H : Hp} {Q : VK} {tl te : TE} {ta : TA} {j : Nat} {vs : List Nat} {tt : TT} {g : TG} {wi : TI}
theorem w_lc (h : wi σ H fun J H1 => ∀ D, H1 D = none → ∃ W : Nat → Nat → Hp → Prop, (∃ m, W 0 m (upd H1 D (.lst []))) ∧ ∀ i m H, W i m H →
  (J.stop i H ∧ Q (.ref D) H) ∨ (J.go i H ∧ ∃ Nx : Hp → Prop, (∀ H', Nx H' → ∃ m', m' < m ∧ W (i + 1) m' H') ∧ ∀ x H', J.yld i H x H' → g x (wipe σ vs) H' fun σ2 H2 => wipe σ2 vs = wipe σ vs ∧ tt σ2 H2 fun b H3 =>
    if b = true then te σ2 H3 fun y H4 => ∃ acc, H4 D = some (.lst acc) ∧ acc.length < sizeLine ∧ Nx (upd H4 D (.lst (acc ++ [y]))) else Nx H3)) : tLc wi g tt te vs σ H Q := h
theorem w_iL {R : It → Hp → Prop} (h : tl σ H fun x H1 => ∃ a, x = .ref a ∧ (∃ xs, SqL K H1 a xs) ∧ R (Itl K a) H1) : iList K tl σ H R := h
theorem w_iT {R : It → Hp → Prop} (h : tl σ H fun x H1 => ∃ a, x = .ref a ∧ (∃ xs, SqT K H1 a xs) ∧ R (Itt K a) H1) : iTup K tl σ H R := h
theorem w_iR1 {R : It → Hp → Prop} (h : ta σ H fun vs H1 => ∃ j : Int, vs = [.int j] ∧ -(2 ^ 62) ≤ j ∧ j < 2 ^ 62 ∧ R (Itr 0 j.toNat) H1) : iRng1 ta σ H R := h
theorem w_iR2 {R : It → Hp → Prop} (h : ta σ H fun vs H1 => ∃ i j : Int, vs = [.int i, .int j] ∧ (-(2 ^ 62) ≤ i ∧ i < 2 ^ 62 ∧ -(2 ^ 62) ≤ j ∧ j < 2 ^ 62) ∧ R (Itr i (j - i).toNat) H1) : iRng2 ta σ H R := h
theorem w_yes {Q : Bool → Hp → Prop} (h : Q true H) : tYes σ H Q := h
/-- a comprehension over a list: the turn's word Pv -/
theorem w_lcL {p : Addr} {xs : List V} (hS : SqL K H p xs) (h : ∀ D, H D = none → ∃ Pv : Nat → Hp → Prop, Pv 0 (upd H D (.lst [])) ∧ (∀ i H2, i ≤ xs.length → Pv i H2 → SqL K H2 p xs) ∧
      (∀ i x H2, xs[i]? = some x → Pv i H2 → g x (wipe σ vs) H2 fun σ2 H2 => wipe σ2 vs = wipe σ vs ∧ tt σ2 H2 fun b H3 =>
        if b = true then te σ2 H3 fun y H4 => ∃ acc, H4 D = some (.lst acc) ∧ acc.length < sizeLine ∧ Pv (i + 1) (upd H4 D (.lst (acc ++ [y]))) else Pv (i + 1) H3) ∧ (∀ H2, Pv xs.length H2 → Q (.ref D) H2)) :
    ∃ a, V.ref p = .ref a ∧ (∃ xs, SqL K H a xs) ∧ ∀ D, H D = none → ∃ W : Nat → Nat → Hp → Prop, (∃ m, W 0 m (upd H D (.lst []))) ∧ ∀ i m H, W i m H →
      ((Itl K a).stop i H ∧ Q (.ref D) H) ∨ ((Itl K a).go i H ∧ ∃ Nx : Hp → Prop, (∀ H', Nx H' → ∃ m', m' < m ∧ W (i + 1) m' H') ∧ ∀ x H', (Itl K a).yld i H x H' → g x (wipe σ vs) H' fun σ2 H2 => wipe σ2 vs = wipe σ vs ∧ tt σ2 H2 fun b H3 =>
        if b = true then te σ2 H3 fun y H4 => ∃ acc, H4 D = some (.lst acc) ∧ acc.length < sizeLine ∧ Nx (upd H4 D (.lst (acc ++ [y]))) else Nx H3) :=
  ⟨p, rfl, ⟨xs, hS⟩, fun D hD => by
    obtain ⟨Pv, h0, hl, hs, hd⟩ := h D hD
    exact lc_list Pv h0 hl hs hd⟩
/-- .. over range(n) -/
theorem w_lcR {n : Int} (hn : 0 ≤ n ∧ n < 2 ^ 62) (h : ∀ D, H D = none → ∃ Pv : Nat → Hp → Prop, Pv 0 (upd H D (.lst [])) ∧
      (∀ (i : Nat) H2, (i : Int) < n → Pv i H2 → g (.int (0 + (i : Int))) (wipe σ vs) H2 fun σ2 H2 => wipe σ2 vs = wipe σ vs ∧ tt σ2 H2 fun b H3 =>
        if b = true then te σ2 H3 fun y H4 => ∃ acc, H4 D = some (.lst acc) ∧ acc.length < sizeLine ∧ Pv (i + 1) (upd H4 D (.lst (acc ++ [y]))) else Pv (i + 1) H3) ∧ (∀ H2, Pv n.toNat H2 → Q (.ref D) H2)) :
    ∃ j : Int, [V.int n] = [.int j] ∧ -(2 ^ 62) ≤ j ∧ j < 2 ^ 62 ∧ ∀ D, H D = none → ∃ W : Nat → Nat → Hp → Prop, (∃ m, W 0 m (upd H D (.lst []))) ∧ ∀ i m H, W i m H →
      ((Itr 0 j.toNat).stop i H ∧ Q (.ref D) H) ∨ ((Itr 0 j.toNat).go i H ∧ ∃ Nx : Hp → Prop, (∀ H', Nx H' → ∃ m', m' < m ∧ W (i + 1) m' H') ∧ ∀ x H', (Itr 0 j.toNat).yld i H x H' → g x (wipe σ vs) H' fun σ2 H2 => wipe σ2 vs = wipe σ vs ∧ tt σ2 H2 fun b H3 =>
        if b = true then te σ2 H3 fun y H4 => ∃ acc, H4 D = some (.lst acc) ∧ acc.length < sizeLine ∧ Nx (upd H4 D (.lst (acc ++ [y]))) else Nx H3) :=
  ⟨n, rfl, by omega, hn.2, fun D hD => by
    obtain ⟨Pv, h0, hs, hd⟩ := h D hD
    exact lc_range Pv h0 (fun i H hi p => hs i H (by omega) p) hd⟩
theorem w_for {wi : TI} {g : TG} {tb : TS} {D : Ends} (h : wi σ H fun J H1 => ∃ W : Nat → Nat → L2.St → Hp → Prop, (∃ m, W 0 m σ H1) ∧ ∀ i m σ H, W i m σ H →
  (J.stop i H ∧ D.nx σ H) ∨ (J.go i H ∧ ∃ N : L2.St → Hp → Prop, (∀ σ' H', N σ' H' → ∃ m', m' < m ∧ W (i + 1) m' σ' H') ∧ ∀ x H', J.yld i H x H' → g x σ H' fun σ2 H2 => tb { D with nx := N, ct := N, bk := D.nx } σ2 H2)) : tFor wi g tb D σ H := h
theorem w_forL {g : TG} {tb : TS} {D : Ends} {p : Addr} {xs : List V} (hS : SqL K H p xs) (Pv : Nat → L2.St → Hp → Prop) (h0 : Pv 0 σ H) (hl : ∀ i σ H, i ≤ xs.length → Pv i σ H → SqL K H p xs)
    (hs : ∀ i x σ H, xs[i]? = some x → Pv i σ H → g x σ H fun σ2 H2 => tb { D with nx := Pv (i + 1), ct := Pv (i + 1), bk := D.nx } σ2 H2) (hd : ∀ σ H, Pv xs.length σ H → D.nx σ H) :
    ∃ a, V.ref p = .ref a ∧ (∃ xs, SqL K H a xs) ∧ ∃ W : Nat → Nat → L2.St → Hp → Prop, (∃ m, W 0 m σ H) ∧ ∀ i m σ H, W i m σ H →
      ((Itl K a).stop i H ∧ D.nx σ H) ∨ ((Itl K a).go i H ∧ ∃ N : L2.St → Hp → Prop, (∀ σ' H', N σ' H' → ∃ m', m' < m ∧ W (i + 1) m' σ' H') ∧ ∀ x H', (Itl K a).yld i H x H' → g x σ H' fun σ2 H2 => tb { D with nx := N, ct := N, bk := D.nx } σ2 H2) :=
  ⟨p, rfl, ⟨xs, hS⟩, for_list Pv h0 hl hs hd⟩
theorem w_forT {g : TG} {tb : TS} {D : Ends} {p : Addr} {xs : List V} (hS : SqT K H p xs) (Pv : Nat → L2.St → Hp → Prop) (h0 : Pv 0 σ H) (hl : ∀ i σ H, i ≤ xs.length → Pv i σ H → SqT K H p xs)
    (hs : ∀ i x σ H, xs[i]? = some x → Pv i σ H → g x σ H fun σ2 H2 => tb { D with nx := Pv (i + 1), ct := Pv (i + 1), bk := D.nx } σ2 H2) (hd : ∀ σ H, Pv xs.length σ H → D.nx σ H) :
    ∃ a, V.ref p = .ref a ∧ (∃ xs, SqT K H a xs) ∧ ∃ W : Nat → Nat → L2.St → Hp → Prop, (∃ m, W 0 m σ H) ∧ ∀ i m σ H, W i m σ H →
      ((Itt K a).stop i H ∧ D.nx σ H) ∨ ((Itt K a).go i H ∧ ∃ N : L2.St → Hp → Prop, (∀ σ' H', N σ' H' → ∃ m', m' < m ∧ W (i + 1) m' σ' H') ∧ ∀ x H', (Itt K a).yld i H x H' → g x σ H' fun σ2 H2 => tb { D with nx := N, ct := N, bk := D.nx } σ2 H2) :=
  ⟨p, rfl, ⟨xs, hS⟩, for_tup Pv h0 hl hs hd⟩
theorem w_forR {g : TG} {tb : TS} {D : Ends} {n : Int} (hn : 0 ≤ n ∧ n < 2 ^ 62) (Pv : Nat → L2.St → Hp → Prop) (h0 : Pv 0 σ H)
    (hs : ∀ (i : Nat) σ H, (i : Int) < n → Pv i σ H → g (.int (0 + (i : Int))) σ H fun σ2 H2 => tb { D with nx := Pv (i + 1), ct := Pv (i + 1), bk := D.nx } σ2 H2) (hd : ∀ σ H, Pv n.toNat σ H → D.nx σ H) :
    ∃ j : Int, [V.int n] = [.int j] ∧ -(2 ^ 62) ≤ j ∧ j < 2 ^ 62 ∧ ∃ W : Nat → Nat → L2.St → Hp → Prop, (∃ m, W 0 m σ H) ∧ ∀ i m σ H, W i m σ H →
      ((Itr 0 j.toNat).stop i H ∧ D.nx σ H) ∨ ((Itr 0 j.toNat).go i H ∧ ∃ N : L2.St → Hp → Prop, (∀ σ' H', N σ' H' → ∃ m', m' < m ∧ W (i + 1) m' σ' H') ∧ ∀ x H', (Itr 0 j.toNat).yld i H x H' → g x σ H' fun σ2 H2 => tb { D with nx := N, ct := N, bk := D.nx } σ2 H2) :=
  ⟨n, rfl, by omega, hn.2, for_range Pv h0 (fun i σ H hi p => hs i σ H (by omega) p) hd⟩
/-- while: a word with a measure; the test is read in the word -/
theorem w_while {c : TT} {tb : TS} {D : Ends} (W : Nat → L2.St → Hp → Prop) (m : Nat) (h0 : W m σ H)
    (hs : ∀ m σ H, W m σ H → c σ H fun b H1 => if b = true then ∃ N : L2.St → Hp → Prop, (∀ σ' H', N σ' H' → ∃ m', m' < m ∧ W m' σ' H') ∧ tb { D with nx := N, ct := N, bk := D.nx } σ H1 else D.nx σ H1) : tWhile c tb D σ H :=
  ⟨W, ⟨m, h0⟩, hs⟩
theorem w_gtup {n : Nat} {t : TGs} {a : Addr} {xs : List V} {Q : L2.St → Hp → Prop} (h : H a = some (.tup xs)) (hn : xs.length = n) (q : t xs σ H Q) : gTup K n t (.ref a) σ H Q := ⟨a, xs, rfl, SqT.of h, hn, q⟩
theorem w_gcons {t : TG} {u : TGs} {v : V} {r : List V} {Q : L2.St → Hp → Prop} (h : t v σ H fun σ' H' => u r σ' H' Q) : gCons t u (v :: r) σ H Q := ⟨v, r, rfl, h⟩
theorem w_gnil {Q : L2.St → Hp → Prop} (h : Q σ H) : gNil [] σ H Q := ⟨rfl, h⟩
theorem w_app {l : Addr} {xs : List V} {y : V} {Q : VK} (h : H l = some (.lst xs)) (hz : xs.length < sizeLine) (q : Q .non (upd H l (.lst (xs ++ [y])))) : rAppend (.ref l) [y] H Q := ⟨l, xs, y, rfl, rfl, h, hz, q⟩
end
end Fw
end

section
-- part Fd
set_option Elab.async false
set_option linter.all false
set_option maxRecDepth 100000
set_option maxHeartbeats 2000000
/-! Fd: data -/
namespace Fw
open PySem PySem.Spec PyProof.Rows L2
section
variable {K : PySem.W.Frag} {H H' : Hp}
theorem dp_ints : ∀ ns : List Int, DpAll K H (ns.map V.int) (ns.map PyData.int)
  | [] => .nil
  | n :: r => .cons (.int n) (dp_ints r)
theorem lay_ints : ∀ ns : List Int, PyData.canLayAll0 (ns.map PyData.int) = true
  | [] => rfl
  | _ :: r => lay_ints r
theorem dep_ints (ns : List Int) : PyData.depth (.list (ns.map PyData.int)) ≤ 64 := by
  have h : ∀ ns : List Int, PyData.depthAll (ns.map PyData.int) ≤ 1 := by
    intro ns
    induction ns with
    | nil => simp [PyData.depthAll]
    | cons n r ih => simp only [List.map_cons, PyData.depthAll, PyData.depth]; omega
  have := h ns
  simp only [PyData.depth]
  omega
theorem shaped_ints (ns : List Int) : SeqAt.shaped (.list (ns.map PyData.int)) = true := by
  unfold SeqAt.shaped
  rw [Bool.and_eq_true]
  exact ⟨lay_ints ns, decide_eq_true (dep_ints ns)⟩
theorem eqv_nil (ns : List Int) : PyData.eqv (.list (ns.map PyData.int)) (.list []) = decide (ns = []) := by
  cases ns <;> rfl
theorem cut_ints (ns : List Int) (lo hi : Option Int) : ∃ ms : List Int, cutV (ns.map V.int) lo hi = ms.map V.int ∧ ms.length ≤ ns.length := by
  refine ⟨(ns.drop (HT.sIx (ns.map V.int).length 0 lo)).take (HT.sIx (ns.map V.int).length (ns.map V.int).length hi - HT.sIx (ns.map V.int).length 0 lo), ?_, ?_⟩
  · unfold cutV
    rw [List.map_take, List.map_drop]
  · rw [List.length_take, List.length_drop]
    omega
end
end Fw
end

section
-- part Fx
set_option Elab.async false
set_option linter.all false
set_option maxRecDepth 100000
set_option maxHeartbeats 2000000
/-! Fx: texts as lists of signs -/
namespace Fw
open PySem PySem.Spec PyProof.Rows L2 SX
open Builtin.Str PySem.StrLaws
abbrev S (l : List Nat) : Str := SX.S l
theorem fromIx {n p : Nat} : fromIndex n (p : Int) = p := by
  unfold fromIndex
  rw [if_neg (by omega)]
  omega
theorem at_pre (l b : List Nat) (i : Nat) : At (S l) (S b) (S l).length i ↔ (i + b.length ≤ l.length ∧ (l.drop i).take b.length = b) := by
  unfold At
  rw [S_len, S_len, subAt_eq, S_len]
  simp [SX.S]
theorem starts3 (l b : List Nat) (p : Nat) : Txt.startswith3 (S l) (S b) (p : Int) = decide ((l.drop p).take b.length = b ∧ p + b.length ≤ l.length) := by
  unfold Txt.startswith3
  rw [fromIx, S_len, S_len, subAt_eq, S_len]
  have e : (S l).cps.toList = l := by simp [SX.S]
  have e2 : (S b).cps.toList = b := by simp [SX.S]
  rw [e, e2]
  by_cases h : p + b.length ≤ l.length
  · by_cases h2 : (l.drop p).take b.length = b
    · simp [h, h2]
    · simp [h, h2]
  · simp [h]
/-- the place of the first c from p on -/
theorem find3_one (l : List Nat) (c p : Nat) : Txt.find3 (S l) (S [c]) (p : Int) = (match (l.drop p).findIdx? (· == c) with | some k => ((p + k : Nat) : Int) | none => -1) := by
  unfold Txt.find3
  rw [fromIx]
  have one : ∀ i, At (S l) (S [c]) (S l).length i ↔ l[i]? = some c := by
    intro i
    rw [at_pre]
    constructor
    · rintro ⟨h1, h2⟩
      simp only [List.length_singleton] at h1 h2
      have hi : i < l.length := by omega
      rw [List.getElem?_eq_getElem hi]
      have e3 : List.take 1 (List.drop i l) = [l[i]] := by rw [List.drop_eq_getElem_cons hi]; rfl
      rw [e3] at h2
      exact congrArg some (List.cons.inj h2).1
    · intro h
      obtain ⟨hi, e⟩ := List.getElem?_eq_some_iff.mp h
      refine ⟨by simp; omega, ?_⟩
      rw [List.drop_eq_getElem_cons hi]
      simp [e]
  rcases occ_head_from (S l) (S [c]) p 1 (by decide) with ⟨h0, hn⟩ | ⟨i, r, h0, hi, ha, hn⟩
  · rw [h0]
    have : (l.drop p).findIdx? (· == c) = none := by
      rw [List.findIdx?_eq_none_iff]
      intro x hx
      obtain ⟨k, hk, e⟩ := List.getElem_of_mem hx
      rw [List.getElem_drop] at e
      cases q : x == c with
      | false => rfl
      | true =>
        have hl : p + k < l.length := by rw [List.length_drop] at hk; omega
        exact absurd ((one (p + k)).mpr (by rw [List.getElem?_eq_getElem hl, e, eq_of_beq q])) (hn (p + k) (by omega))
    rw [this]
  · rw [h0]
    have hk : (l.drop p).findIdx? (· == c) = some (i - p) := by
      rw [List.findIdx?_eq_some_iff_getElem]
      obtain ⟨hl, e⟩ := List.getElem?_eq_some_iff.mp ((one i).mp ha)
      have e2 : (l.drop p)[i - p]? = some c := by
        rw [List.getElem?_drop]
        have : p + (i - p) = i := by omega
        rw [this]
        exact (one i).mp ha
      obtain ⟨h3, e3⟩ := List.getElem?_eq_some_iff.mp e2
      refine ⟨h3, by simp [e3], fun j hj => ?_⟩
      have hj2 : p + j < i := by omega
      have := hn (p + j) (by omega) hj2
      rw [one] at this
      rw [List.getElem_drop]
      intro q
      apply this
      rw [List.getElem?_eq_getElem (by omega)]
      simp at q
      rw [q]
    rw [hk]
    show ((i : Nat) : Int) = ((p + (i - p) : Nat) : Int)
    have : p + (i - p) = i := by omega
    rw [this]
theorem cutS_nat (l : List Nat) {i j : Nat} (hi : i ≤ l.length) (hj : j ≤ l.length) : cutS (S l) (some (i : Int)) (some (j : Int)) = S ((l.drop i).take (j - i)) := by
  unfold cutS
  rw [HT.sIx_nat, HT.sIx_nat, S_len, Nat.min_eq_left hi, Nat.min_eq_left hj]
theorem cutS_any (l : List Nat) {i j : Nat} (hi : i ≤ l.length) : cutS (S l) (some (i : Int)) (some (j : Int)) = S ((l.drop i).take (j - i)) := by
  unfold cutS
  rw [HT.sIx_nat, HT.sIx_nat, S_len, Nat.min_eq_left hi]
  have : ((l.drop i).take (min j l.length - i)) = (l.drop i).take (j - i) := by
    by_cases h : j ≤ l.length
    · rw [Nat.min_eq_left h]
    · rw [Nat.min_eq_right (by omega), List.take_of_length_le (by rw [List.length_drop]; omega), List.take_of_length_le (by rw [List.length_drop]; omega)]
  show (⟨_⟩ : Str) = SX.S _
  rw [show (S l).cps.toList = l by simp [SX.S], this]
theorem cutS_from (l : List Nat) {i : Nat} (hi : i ≤ l.length) : cutS (S l) (some (i : Int)) none = S (l.drop i) := by
  unfold cutS
  rw [HT.sIx_nat, HT.sIx_none, S_len, Nat.min_eq_left hi]
  show (⟨_⟩ : Str) = SX.S _
  rw [show (S l).cps.toList = l by simp [SX.S], List.take_of_length_le (by rw [List.length_drop]; omega)]
theorem atI_nat2 {α : Type} {l : List α} {i : Nat} {c : α} (h : l[i]? = some c) : atI l (i : Int) = some c := atI_nat h
section
variable {H : Hp} {Q : VK} {K : PySem.W.Frag}
theorem w_ixS {l : List Nat} {i c : Nat} (hz : l.length ≤ sizeLine) (h : l[i]? = some c) (q : Q (.str (S [c])) H) : rIxS (.str (S l)) (.int (i : Int)) H Q :=
  ⟨S l, (i : Int), c, rfl, rfl, by rw [S_len]; exact hz, by rw [show (S l).cps.toList = l by simp [SX.S]]; exact atI_nat h, q⟩
theorem S_list (l : List Nat) : (S l).cps.toList = l := by simp [SX.S]
theorem w_inS {l : List Nat} {c : Nat} {P : Nat → Str → Prop} (q : P c (S l)) : ∃ (d : Nat) (z : Str), V.str (S [c]) = .str ⟨#[d]⟩ ∧ V.str (S l) = .str z ∧ P d z := ⟨c, S l, rfl, rfl, q⟩
theorem w_lenS {l : List Nat} {P : Str → Prop} (hz : l.length ≤ sizeLine) (q : P (S l)) : ∃ z, [V.str (S l)] = [V.str z] ∧ z.length ≤ sizeLine ∧ P z := ⟨S l, rfl, by rw [S_len]; exact hz, q⟩
theorem w_find3 {a b : Str} {p : Int} {P : Str → Str → Int → Prop} (q : P a b p) : ∃ (x y : Str) (i : Int), V.str a = .str x ∧ [V.str b, V.int p] = [.str y, .int i] ∧ P x y i := ⟨a, b, p, rfl, rfl, q⟩
theorem w_2s {a b : Str} {P : Str → Str → Prop} (q : P a b) : ∃ (x y : Str), V.str a = .str x ∧ [V.str b] = [.str y] ∧ P x y := ⟨a, b, rfl, rfl, q⟩
theorem w_slS {l : List Nat} {i j : Nat} (hz : l.length ≤ sizeLine) (hi : i ≤ l.length) (q : Q (.str (S ((l.drop i).take (j - i)))) H) : rSlS (.str (S l)) (some (i : Int)) (some (j : Int)) H Q :=
  ⟨S l, rfl, by rw [S_len]; exact hz, by rw [cutS_any l hi]; exact q⟩
theorem w_slS1 {l : List Nat} {i : Nat} (hz : l.length ≤ sizeLine) (hi : i ≤ l.length) (q : Q (.str (S (l.drop i))) H) : rSlS (.str (S l)) (some (i : Int)) none H Q :=
  ⟨S l, rfl, by rw [S_len]; exact hz, by rw [cutS_from l hi]; exact q⟩
theorem w_addS {a b : List Nat} {P : Str → Str → Prop} (hz : a.length + b.length ≤ sizeLine) (q : P (S a) (S b)) : ∃ i j, V.str (S a) = .str i ∧ V.str (S b) = .str j ∧ i.length + j.length ≤ sizeLine ∧ P i j :=
  ⟨S a, S b, rfl, rfl, by rw [S_len, S_len]; exact hz, q⟩
theorem tyS {z : Str} : tyV K "str" (.str z) H := rfl
theorem tyL {p : Addr} {xs : List V} (h : H p = some (.lst xs)) : tyV K "list" (.ref p) H := Or.inl ⟨rfl, xs, SqL.of h⟩
end
section
variable {K : PySem.W.Frag} {σ : L2.St} {H : Hp} {Q : VK} {tl te : TE}
theorem w_iStr {R : It → Hp → Prop} (h : te σ H fun v H1 => ∃ x, v = .str x ∧ R (Its x) H1) : iStr te σ H R := h
theorem for_str {x : Str} {g : TG} {tb : TS} {D : Ends} (Pv : Nat → L2.St → Hp → Prop) (h0 : Pv 0 σ H)
    (hs : ∀ i c σ H, x.cps.toList[i]? = some c → Pv i σ H → g (.str (S [c])) σ H fun σ2 H2 => tb { D with nx := Pv (i + 1), ct := Pv (i + 1), bk := D.nx } σ2 H2) (hd : ∀ σ H, Pv x.cps.toList.length σ H → D.nx σ H) :
    ∃ W : Nat → Nat → L2.St → Hp → Prop, (∃ m, W 0 m σ H) ∧ ∀ i m σ H, W i m σ H →
      ((Its x).stop i H ∧ D.nx σ H) ∨ ((Its x).go i H ∧ ∃ N : L2.St → Hp → Prop, (∀ σ' H', N σ' H' → ∃ m', m' < m ∧ W (i + 1) m' σ' H') ∧ ∀ v H', (Its x).yld i H v H' → g v σ H' fun σ2 H2 => tb { D with nx := N, ct := N, bk := D.nx } σ2 H2) := by
  have el : x.cps.toList.length = x.cps.size := by simp
  refine ⟨fun i m σ H => m = x.cps.size - i ∧ i ≤ x.cps.size ∧ Pv i σ H, ⟨_, rfl, Nat.zero_le _, h0⟩, ?_⟩
  rintro i m σ H ⟨rfl, hi, p⟩
  by_cases hlt : i < x.cps.size
  · refine .inr ⟨hlt, Pv (i + 1), fun σ' H' p' => ⟨x.cps.size - (i + 1), by omega, rfl, hlt, p'⟩, fun v H' y => ?_⟩
    obtain ⟨e, c, hc, rfl⟩ := y
    subst e
    exact hs i c σ _ (by simpa using hc) p
  · have e : i = x.cps.size := by omega
    subst e
    exact .inl ⟨Nat.le_refl _, hd σ H (by rw [el]; exact p)⟩
theorem w_forS {l : List Nat} {g : TG} {tb : TS} {D : Ends} (Pv : Nat → L2.St → Hp → Prop) (h0 : Pv 0 σ H)
    (hs : ∀ i c σ H, l[i]? = some c → Pv i σ H → g (.str (S [c])) σ H fun σ2 H2 => tb { D with nx := Pv (i + 1), ct := Pv (i + 1), bk := D.nx } σ2 H2) (hd : ∀ σ H, Pv l.length σ H → D.nx σ H) :
    ∃ x, V.str (S l) = .str x ∧ ∃ W : Nat → Nat → L2.St → Hp → Prop, (∃ m, W 0 m σ H) ∧ ∀ i m σ H, W i m σ H →
      ((Its x).stop i H ∧ D.nx σ H) ∨ ((Its x).go i H ∧ ∃ N : L2.St → Hp → Prop, (∀ σ' H', N σ' H' → ∃ m', m' < m ∧ W (i + 1) m' σ' H') ∧ ∀ v H', (Its x).yld i H v H' → g v σ H' fun σ2 H2 => tb { D with nx := N, ct := N, bk := D.nx } σ2 H2) :=
  ⟨S l, rfl, for_str Pv h0 (fun i c σ H hi p => hs i c σ H (by simpa [SX.S] using hi) p) (fun σ H p => hd σ H (by simpa [SX.S] using p))⟩
theorem find_one (l : List Nat) (c : Nat) : Txt.find (S l) (S [c]) = (match l.findIdx? (· == c) with | some k => (k : Int) | none => -1) := by
  have h := find3_one l c 0
  have e : Txt.find3 (S l) (S [c]) ((0 : Nat) : Int) = Txt.find (S l) (S [c]) := by
    unfold Txt.find3 Txt.find
    rw [fromIx]
    rfl
  rw [← e, h, List.drop_zero]
  cases l.findIdx? (· == c) with
  | none => rfl
  | some k =>
    show ((0 + k : Nat) : Int) = (k : Int)
    rw [Nat.zero_add]
theorem w_1s {a : Str} {P : Str → Prop} (q : P a) : ∃ (x : Str), V.str a = .str x ∧ ([] : List V) = [] ∧ P x := ⟨a, rfl, rfl, q⟩
end
section
variable {K : PySem.W.Frag} {σ : L2.St} {H : Hp} {Q : VK} {i : Nat}
theorem str_len_app (a b : Str) : (a ++ b).length = a.length + b.length := by
  rw [TL.len_tl, TL.len_tl, TL.len_tl, TL.tl_append, List.length_append]
theorem num_short {n : Nat} (h : n < 10 ^ 7) : (Str.ofString (toString ((n : Nat) : Int))).length ≤ 7 := by
  rw [TL.len_tl, TL.tl_num]
  exact TL.numL_len (by decide) h
theorem w_fmt {n : Nat} {Q : VK} (h : n < 10 ^ 7) (hv : σ[i]? = some (some (.int (n : Int)))) (q : Q (.str (toString ((n : Nat) : Int))) H) : tFmt (tVar i) σ H Q := by
  refine ⟨_, hv, .inr ⟨_, rfl, ?_, q⟩⟩
  by_cases h0 : n = 0
  · subst h0
    decide
  · rw [Int.natAbs_natCast]
    have := (Nat.log2_lt h0 (k := 24)).mpr (Nat.lt_of_lt_of_le h (by decide))
    omega
/-- f'a{n}' and f'a{n}b' -/
theorem w_msg2 {a : Str} {n : Nat} {R : Str → Hp → Prop} (ha : a.length ≤ 1000) (h : n < 10 ^ 7) (hv : σ[i]? = some (some (.int (n : Int)))) (q : ∀ z, R z H) : tJs [tC (.str a), tFmt (tVar i)] Str.empty σ H R := by
  have e0 : (Str.empty ++ a).length = a.length := by rw [str_len_app]; exact Nat.zero_add _
  have l := num_short h
  refine ⟨a, rfl, by rw [e0]; exact Nat.le_trans ha (by decide), w_fmt h hv ⟨_, rfl, ?_, q _⟩⟩
  rw [str_len_app, e0]
  exact Nat.le_trans (Nat.add_le_add ha l) (by decide)
theorem w_msg3 {a b : Str} {n : Nat} {R : Str → Hp → Prop} (ha : a.length ≤ 1000) (hb : b.length ≤ 1000) (h : n < 10 ^ 7) (hv : σ[i]? = some (some (.int (n : Int)))) (q : ∀ z, R z H) : tJs [tC (.str a), tFmt (tVar i), tC (.str b)] Str.empty σ H R := by
  have e0 : (Str.empty ++ a).length = a.length := by rw [str_len_app]; exact Nat.zero_add _
  have l := num_short h
  refine ⟨a, rfl, by rw [e0]; exact Nat.le_trans ha (by decide), w_fmt h hv ⟨_, rfl, ?_, ⟨b, rfl, ?_, q _⟩⟩⟩
  · rw [str_len_app, e0]
    exact Nat.le_trans (Nat.add_le_add ha l) (by decide)
  · rw [str_len_app, str_len_app, e0]
    exact Nat.le_trans (Nat.add_le_add (Nat.add_le_add ha l) hb) (by decide)
/-- in a tuple of texts -/
theorem inV_txt (a : List Nat) : ∀ ls : List (List Nat), inV (.str (S a)) (ls.map fun l => V.str (S l)) = decide (a ∈ ls)
  | [] => by simp [inV]
  | l :: r => by
    have ih := inV_txt a r
    unfold inV at ih ⊢
    rw [List.map_cons, List.any_cons, ih]
    show ((S l == S a) || decide (a ∈ r)) = _
    rw [SX.S_beq]
    by_cases h : l = a
    · subst h; simp
    · have : (l == a) = false := by simp [h]
      rw [this, Bool.false_or]
      have h' : ¬ a = l := fun e => h e.symm
      simp [h']
theorem flat_txt : ∀ ls : List (List Nat), (ls.map fun l => V.str (S l)).all flatV = true
  | [] => rfl
  | _ :: r => flat_txt r
theorem w_inT {a : List Nat} {p : Addr} {ls : List (List Nat)} (h : SqT K H p (ls.map fun l => V.str (S l))) (q : Q (.bl (decide (a ∈ ls))) H) : rIn K false (.str (S a)) (.ref p) H Q :=
  ⟨p, _, rfl, .inr h, rfl, flat_txt ls, by rw [inV_txt]; exact q⟩
theorem str_eq {a b : List Nat} : (decide (V.str (S a) = V.str (S b))) = decide (a = b) := by
  by_cases h : a = b
  · subst h; simp
  · rw [decide_eq_false h, decide_eq_false]
    intro e
    exact h (SX.S_inj (V.str.inj e))
theorem w_eqS {a b : List Nat} (q : Q (.bl (decide (a = b))) H) : rEq (.str (S a)) (.str (S b)) H Q := ⟨rfl, by rw [str_eq]; exact q⟩
theorem w_neS {a b : List Nat} (q : Q (.bl (!decide (a = b))) H) : rNe (.str (S a)) (.str (S b)) H Q := ⟨rfl, by rw [str_eq]; exact q⟩
theorem int_eq {a b : Int} : (decide (V.int a = V.int b)) = decide (a = b) := by simp
theorem w_eqI {a b : Int} (q : Q (.bl (decide (a = b))) H) : rEq (.int a) (.int b) H Q := ⟨rfl, by rw [int_eq]; exact q⟩
theorem w_iteN {p A B : Prop} [Decidable p] (h1 : ¬ p → A) (h2 : p → B) : if (!decide p) = true then A else B := by
  by_cases c : p
  · rw [decide_eq_true c]; exact h2 c
  · rw [decide_eq_false c]; exact h1 c
end
section
variable {X : Cx}
/-- a text times a number -/
theorem op_mulS : OpR X (binaryOp .Mult) (fun x y H Q => ∃ (a : Str) (n : Int), x = .str a ∧ y = .int n ∧ a.length ≤ 4096 ∧ n ≤ 4096 ∧ -(2 ^ 63 : Int) ≤ n ∧ Q (.str (Txt.mul a n)) H) := by
  intro pins s σ H x y v u Q I rx ry h
  obtain ⟨a, n, rfl, rfl, h1, h2, h3, q⟩ := h
  obtain ⟨t, rfl⟩ := rx
  obtain ⟨t', rfl⟩ := ry
  exact PySem.SB.mul (PyProof.Rows.mulOk_of 4096 4096 h1 (by omega) h3 (by decide) (by decide)) fun t'' k => ⟨.str (Txt.mul a n), H, I.tok k, ⟨t'', rfl⟩, q⟩
/-- 'c' op e, where e wants a token that is out -/
theorem pe_opStr {op : Operator} {r : R2} {x : Str} {j : Nat} {p pos : Pos} {f : Expr} {tf : TE} (ho : OpR X (binaryOp op) r) (hb : PET X f tf) : PE X (.BinOp (.Constant (.str x) j p) op f pos) (tOp r (tC (.str x)) tf) := by
  refine ⟨fun pins s σ H Q I h => ?_⟩
  refine wpAny_BinOp (Calls.Constant_str ?_)
  exact thn (hb pins { s with toks := s.toks + 1 } σ H _ (by show 1 ≤ s.toks + 1; omega) (I.tok _) h) fun u s2 ⟨y, H2, I2, r2, q2⟩ => ho pins s2 σ H2 (.str x) y _ u Q I2 ⟨_, rfl⟩ r2 q2
theorem w_repl {σ : L2.St} {H : Hp} {Q : VK} {to : TE} {y z : Str} (h : to σ H fun v H1 => ∃ x, v = .str x ∧ x.length + (x.length + 1) * z.length ≤ 16777216 ∧ Q (.str (Txt.replace x y z)) H1) : CwR.tReplC to y z σ H Q := h
end
theorem vS_cat (a b : List Nat) : V.str (SX.S a ++ SX.S b) = V.str (SX.S (a ++ b)) := congrArg V.str (SX.S_cat a b)
/-- ' doubled -/
theorem repl_dbl (l : List Nat) : Txt.replace (S l) (S [39]) (S [39, 39]) = S (StrLaws.dbl 39 l) := by
  rw [PyProof.Rows.replace_dbl (S l) (S [39]) (S [39, 39]) 39 rfl rfl, S_list]
theorem dbl_len (c : Nat) : ∀ l : List Nat, (StrLaws.dbl c l).length ≤ 2 * l.length
  | [] => by simp [StrLaws.dbl]
  | k :: r => by
    have := dbl_len c r
    rw [StrLaws.dbl]
    split
    · simp only [List.length_cons]; omega
    · simp only [List.length_cons]; omega
end Fw
end

section
-- part K05A
set_option Elab.async false
set_option linter.all false
set_option maxRecDepth 100000
set_option maxHeartbeats 800000
open PySem PySem.Spec PyProof.Rows L2 Fw
local macro_rules | `(tactic| walk_at "e1") => `(tactic| first
  | ((with_reducible refine' w_var ?hv ?_); (case hv => rfl))
  | with_reducible refine w_c ?_
  | with_reducible refine w_op ?_
  | with_reducible refine w_un ?_
  | with_reducible refine w_cons ?_
  | with_reducible refine w_nil ?_
  | with_reducible refine w_cl ?_
  | with_reducible refine w_cb ?_
  | with_reducible refine w_gname ?_
  | with_reducible refine w_gsub ?_
  | with_reducible refine w_test ?_
  | with_reducible refine w_B ?_
  | with_reducible refine w_bl ?_
  | with_reducible refine w_and ?_
  | with_reducible refine w_or ?_
  | with_reducible refine w_not ?_
  | with_reducible refine w_if ?_
  | with_reducible refine w_I0 ?_
  | with_reducible refine w_ipI ?_
  | with_reducible refine w_eqS ?_
  | with_reducible refine w_neS ?_
  | with_reducible refine w_eqI ?_
  | ((with_reducible refine w_eq ?hs ?_); (case hs => rfl))
  | ((with_reducible refine w_ne ?hs ?_); (case hs => rfl))
  | with_reducible refine w_fld ?_
  | with_reducible refine w_bm ?_
  | with_reducible refine w_bm0 ?_
  | with_reducible refine w_sl ?_
  | with_reducible refine w_part ?_
  | with_reducible refine w_partI ?_
  | with_reducible refine w_nopart ?_
  | ((with_reducible refine' w_ixL ?hh ?ha ?_); (case hh => first | assumption | exact upd_same); (case ha => rfl))
  | ((with_reducible refine' w_setLu ?ha ?_); (case ha => rfl))
  | ((with_reducible refine' w_setL ?hh ?ha ?_); (case hh => first | assumption | exact upd_same); (case ha => rfl))
  | with_reducible refine w_iteT ?_
  | with_reducible refine w_iteF ?_
  | with_reducible refine w_lst ?_
  | with_reducible refine w_tup ?_
  | ((with_reducible refine w_new ?hz ?_); (case hz => rfl))
  | with_reducible refine w_lc ?_
  | with_reducible refine w_iL ?_
  | with_reducible refine w_iT ?_
  | with_reducible refine w_iR1 ?_
  | with_reducible refine w_iR2 ?_
  | with_reducible refine w_yes ?_
  | with_reducible refine w_iStr ?_
  | with_reducible exact tyS
  | with_reducible refine And.intro tyS ?_
  | ((with_reducible refine w_find3 ?_); (first | rw [find3_one] | rw [starts3] | skip))
  | ((with_reducible refine w_2s ?_); (try rw [find_one]))
  | ((with_reducible refine w_inS ?_); rw [S_list])
  | ((with_reducible refine w_lenS ?hz ?_); (case hz => first | assumption | omega | decide); rw [SX.S_len])
  | ((with_reducible refine w_addS ?hz ?_); (case hz => first | assumption | omega | decide); rw [vS_cat])
  | with_reducible refine w_mk ?_
  | with_reducible refine w_me ?_
  | with_reducible refine w_sfld ?_
  | ((with_reducible refine' w_gtup ?hh ?hn ?_); (case hh => first | assumption | exact upd_same); (case hn => rfl))
  | with_reducible refine w_gcons ?_
  | with_reducible refine w_gnil ?_
  | with_reducible refine w_repl ?_
  | with_reducible refine w_star ?_
  | with_reducible refine w_revL ?_
  | with_reducible refine w_isiS ?_
  | with_reducible refine w_isiI ?_
  | with_reducible refine w_isiN ?_
  | with_reducible refine w_chain ?_
  | with_reducible refine w_x1i ?_
  | with_reducible refine w_x1b ?_
  | with_reducible refine w_x1s ?_
  | with_reducible refine w_int1i ?_
  | with_reducible refine w_int1b ?_
  | ((with_reducible refine w_mod ?hc ?_); (case hc => omega))
  | ((with_reducible refine w_fdivW ?hc ?hd ?_); (case hc => omega); (case hd => omega))
  | ((with_reducible refine w_mul ?hc ?_); (case hc => first | exact Or.inr ⟨by decide, by decide⟩ | exact Or.inl ⟨by decide, by decide⟩))
  | ((with_reducible refine w_pow ?hc ?_); (case hc => exact ⟨by decide, by decide, by decide⟩)))
local macro_rules | `(tactic| walk_at "s1") => `(tactic| first
  | with_reducible refine w_seq ?_
  | with_reducible refine w_asg ?_
  | with_reducible refine w_ret ?_
  | with_reducible refine w_drop ?_
  | with_reducible refine w_next ?_
  | with_reducible refine w_ifs ?_
  | ((with_reducible refine' w_aug ?hv ?_); (case hv => rfl))
  | with_reducible refine w_for ?_
  | walk_at "e1")
local macro_rules | `(tactic| walk_at "e") => `(tactic| repeat walk_at "e1")
local macro_rules | `(tactic| walk_at "g") => `(tactic| repeat walk_at "s1")

namespace K05
def top (i : Nat) : Stmt := PySem.Challenge.pw_tablestack_k05_keys_and_records_as_bytes.main.body.getD i (.Pass ⟨0, 0, 0, 0⟩)
-- _law_dice: 0:cell
abbrev s__law_dice : Stmt := top 33
theorem sc__law_dice : FnScope ["cell"] ["cell"] (defScope s__law_dice) := ⟨rfl, rfl, rfl, by decide +kernel, rfl, by decide +kernel, by decide +kernel⟩
-- _law_roll: 0:dice 1:many 2:found
abbrev s__law_roll : Stmt := top 34
theorem sc__law_roll : FnScope ["dice", "many", "found"] ["dice", "many"] (defScope s__law_roll) := ⟨rfl, rfl, rfl, by decide +kernel, rfl, by decide +kernel, by decide +kernel⟩
-- _law_rounds: 0:script 1:most 2:cells 3:cell
abbrev s__law_rounds : Stmt := top 35
theorem sc__law_rounds : FnScope ["script", "most", "cells", "cell"] ["script", "most"] (defScope s__law_rounds) := ⟨rfl, rfl, rfl, by decide +kernel, rfl, by decide +kernel, by decide +kernel⟩
structure Wl (K : PySem.W.Frag) (mg : Str → Option Value) : Prop where
  n_abs : mg "abs" = none
  n_int : mg "int" = none
  n_str : mg "str" = none
  n_len : mg "len" = none
  n_range : mg "range" = none
  d__law_dice : FnP K mg "_law_dice" s__law_dice
  d__law_roll : FnP K mg "_law_roll" s__law_roll
  d__law_rounds : FnP K mg "_law_rounds" s__law_rounds
section
variable {P : Program} {w : World} {K : PySem.W.Frag} {mg : Str → Option Value} {base : Heap}
def spDice : Sp := fun vs H Q _ => ∃ c : Int, vs = [.int c] ∧ ∀ p a b e, H p = none → Q (.ref p) (upd H p (.lst [.int a, .int b, .int e]))
theorem ok__law_dice (W : Wl K mg) : Cl P w K mg base 1 "_law_dice" spDice := by
  refine cl_mk W.d__law_dice sc__law_dice (fun _ _ _ _ _ _ us hl => match us, hl with | [_], _ => rfl) (fun vs H Q E h => ?_) (fun f cdv A outer s H vs Q E hr h => ?_)
  · obtain ⟨c, rfl, _⟩ := h; rfl
  obtain ⟨c, rfl, q⟩ := h
  refine ⟨_, (pss_cons (ps_if (pt_chain op_lt op_lt (pe_op op_sub pe_int pe_int) (pv 0) pe_int)
    (pss_one (ps_ret (pe_lst (pa_cons (pe_callB call_abs rfl W.n_abs (by decide +kernel) (pa_cons (pv 0) pa_nil)) (pa_cons pe_int (pa_cons pe_int pa_nil))))))
    pss_nil)
    (pss_one (ps_ret (pe_lst (pa_cons (pv 0) (pa_cons (pe_op op_add pe_int (pe_op op_mod (pe_callTy call_int1 rfl W.n_int (by decide +kernel) (pa_cons (pv 0) pa_nil)) pe_int)) (pa_cons (pe_callTy call_int1 rfl W.n_int (by decide +kernel) (pa_cons (pe_cmpR op_ge (pv 0) (pe_op op_pow pe_int pe_int) (nomark _)) pa_nil)) pa_nil))))))), ?_⟩
  walk_at "g"
  refine w_iteD (fun c1 => ?_) (fun c1 => ?_)
  · walk_at "g"
    refine w_iteD (fun c2 => ?_) (fun c2 => ?_)
    · walk_at "g"
      exact fun p hp => q p _ _ _ hp
    · walk_at "g"
      exact fun p hp => q p _ _ _ hp
  · walk_at "g"
    exact fun p hp => q p _ _ _ hp
/-- the drawn number is anything below m -/
def spRoll : Sp := fun vs H Q _ => ∃ (d : Addr) (m a b c : Int), vs = [.ref d, .int m] ∧ H d = some (.lst [.int a, .int b, .int c]) ∧ 0 < m ∧ m < 2 ^ 60 ∧
  ∀ r a' b' c' : Int, 0 ≤ r → r < m → Q (.int r) (upd H d (.lst [.int a', .int b', .int c']))
theorem ok__law_roll (W : Wl K mg) : Cl P w K mg base 1 "_law_roll" spRoll := by
  refine cl_mk W.d__law_roll sc__law_roll (fun _ _ _ _ _ _ us hl => match us, hl with | [_, _], _ => rfl) (fun vs H Q E h => ?_) (fun f cdv A outer s H vs Q E hr h => ?_)
  · obtain ⟨d, m, a, b, c, rfl, _⟩ := h; rfl
  obtain ⟨d, m, a, b, c, rfl, hd, h0, h1, q⟩ := h
  refine ⟨_, (pss_cons (ps_if (PW.pt (pw_or (pt_cmpR op_eq (pe_ix ix_list (pv 0) pe_int (fun _ _ => rfl)) pe_int (nomark _)) (pw_or1 (PW.pt (pw_and (pt_cmpR op_eq (pe_ix ix_list (pv 0) pe_int (fun _ _ => rfl)) pe_int (nomark _)) (pw_and1 (pt_cmpR op_gt (pe_ix ix_list (pv 0) pe_int (fun _ _ => rfl)) pe_int (nomark _))))))))
    (pss_cons (ps_set (i := 2) sc__law_roll.nd rfl (Or.inl rfl) (pe_op op_mod (pe_callTy call_int1 rfl W.n_int (by decide +kernel) (pa_cons (pe_ix ix_list (pv 0) pe_int (fun _ _ => rfl)) pa_nil)) (pv 1)))
    (pss_cons (ps_asg (pe_op op_fdivW (pe_ix ix_list (pv 0) pe_int (fun _ _ => rfl)) (pv 1)) (pg_sub (pv 0) pe_int set_list))
    (pss_one (ps_ret (pv 2)))))
    pss_nil)
    (pss_cons (ps_asg pe_int (pg_sub (pv 0) pe_int set_list))
    (pss_cons (ps_asg (pe_op op_mod (pe_callTy call_int1 rfl W.n_int (by decide +kernel) (pa_cons (pe_op op_add (pe_op op_add (pe_op op_mul (pe_ix ix_list (pv 0) pe_int (fun _ _ => rfl)) pe_int) (pe_op op_mul (pe_ix ix_list (pv 0) pe_int (fun _ _ => rfl)) pe_int)) pe_int) pa_nil)) pe_int) (pg_sub (pv 0) pe_int set_list))
    (pss_cons (ps_asg (pe_op op_add (pe_ix ix_list (pv 0) pe_int (fun _ _ => rfl)) pe_int) (pg_sub (pv 0) pe_int set_list))
    (pss_one (ps_ret (pe_op op_mod (pe_callTy call_int1 rfl W.n_int (by decide +kernel) (pa_cons (pe_op op_fdivW (pe_ix ix_list (pv 0) pe_int (fun _ _ => rfl)) pe_int) pa_nil)) (pv 1)))))))), ?_⟩
  have fin : ∀ z a' b' c' : Int, Q (.int (z % m)) (upd H d (.lst [.int a', .int b', .int c'])) := fun z a' b' c' => q _ a' b' c' (mod_b h0).1 (mod_b h0).2
  walk_at "g"
  refine w_iteD (fun c1 => ?_) (fun c1 => ?_)
  · walk_at "g"
    exact fin _ _ _ _
  · walk_at "g"
    refine w_iteD (fun c2 => ?_) (fun c2 => ?_)
    · walk_at "g"
      refine w_iteD (fun c3 => ?_) (fun c3 => ?_)
      · walk_at "g"
        exact fin _ _ _ _
      · walk_at "g"
        exact fin _ _ _ _
    · walk_at "g"
      exact fin _ _ _ _
/-- a list of new dice -/
def spRounds (K : PySem.W.Frag) : Sp := fun vs H Q _ => ∃ (a : Addr) (ns : List Int) (m : Int), vs = [.ref a, .int m] ∧ SqL K H a (ns.map V.int) ∧ ns.length ≤ 63 ∧
  ∀ (p : Addr) (H' : Hp) (ds : List Addr), Same H H' → H p = none → H' p = some (.lst (ds.map V.ref)) → (∀ d ∈ ds, Dice H' d ∧ H d = none) → ds.length ≤ 63 → Q (.ref p) H'
theorem ok__law_rounds (W : Wl K mg) (c__law_dice : Cl P w K mg base 1 "_law_dice" spDice) : Cl P w K mg base 2 "_law_rounds" (spRounds K) := by
  refine cl_mk W.d__law_rounds sc__law_rounds (fun _ _ _ _ _ _ us hl => match us, hl with | [_, _], _ => rfl) (fun vs H Q E h => ?_) (fun f cdv A outer s H vs Q E hr h => ?_)
  · obtain ⟨a, ns, m, rfl, _⟩ := h; rfl
  obtain ⟨a, ns, m, rfl, hS, h63, q⟩ := h
  refine ⟨_, (pss_cons (ps_set (i := 2) sc__law_rounds.nd rfl (Or.inl rfl) (pe_slice sl_list (pv 0) po_none (po_some (pv 1))))
    (pss_cons (ps_if (pt_cmpR (op_eqD (hu64 hr)) (pv 2) (pe_lst pa_nil) (nomark _))
    (pss_one (ps_set (i := 2) sc__law_rounds.nd rfl (Or.inl rfl) (pe_lst (pa_cons pe_int pa_nil))))
    pss_nil)
    (pss_one (ps_ret (pe_lc (own := [("cell", 3)]) rfl sc__law_rounds.nd (pi_list (pv 2)) (blkOk_by (own := [("cell", 3)]) (N := ["script", "most", "cells", "cell"]) (sc := defScope s__law_rounds) (by decide +kernel)) (fun _ _ _ _ _ => (pg_name (i := 3) sc__law_rounds.nd rfl (by first | exact Or.inl rfl | exact Or.inr rfl))) (fun _ _ _ _ _ => pts_nil) (fun _ _ _ _ _ => (pe_cl c__law_dice hr (by decide) rfl passL (pa_cons (pv 3) pa_nil)))))))), ?_⟩
  walk_at "g"
  refine ⟨a, _, rfl, hS, fun p1 hp1 => ?_⟩
  obtain ⟨ms, em, hm⟩ := cut_ints ns none (some m)
  rw [em]
  have hz : ms.length ≤ 63 := Nat.le_trans hm h63
  have s1 : Same H (upd H p1 (.lst (ms.map V.int))) := same_new hp1 _
  -- the list is walked
  have rest : ∀ (H1 : Hp) (p : Addr) (zs : List Int), Same H H1 → H1 p = some (.lst (zs.map V.int)) → zs.length ≤ 63 → ∀ (c : Option V),
      tRet (tLc (iList K (tVar 2)) (gName 3) tYes (tCl spDice E0 (tCons (tVar 3) tNil)) (List.map (fun x => x.snd) [((Str.ofString "cell" : Str), 3)])) { nx := fun x H' => Q V.non H', rt := Q } [some (.ref a), some (.int m), some (.ref p), c] H1 := by
    intro H1 p zs e1 hp hzs c
    walk_at "g"
    refine w_lcL (SqL.of hp) (fun D hD => ⟨fun i H2 => ∃ ds : List Addr, ds.length = i ∧ Same H1 H2 ∧ H2 D = some (.lst (ds.map V.ref)) ∧ ∀ d ∈ ds, Dice H2 d ∧ H1 d = none ∧ d ≠ D,
      ⟨[], rfl, same_new hD _, upd_same, fun d hd => by cases hd⟩, fun i H2 _ ⟨ds, _, e, _⟩ => SqL.of (e _ _ hp), ?_, ?_⟩)
    · rintro i x H2 hi ⟨ds, el, e2, eD, hds⟩
      have hi2 : i < zs.length := by
        have := (List.getElem?_eq_some_iff.mp hi).1
        rwa [List.length_map] at this
      obtain ⟨z, rfl⟩ : ∃ z, x = V.int z := by
        rw [List.getElem?_map] at hi
        cases e : zs[i]? with
        | none => rw [e] at hi; cases hi
        | some z => rw [e] at hi; exact ⟨z, (Option.some.inj hi).symm⟩
      walk_at "g"
      refine ⟨rfl, ?_⟩
      walk_at "g"
      refine ⟨z, rfl, fun d a b e hd => ?_⟩
      have nd : D ≠ d := ne_of_none eD hd
      refine ⟨ds.map V.ref, by rw [upd_ne nd]; exact eD, by rw [List.length_map, el]; exact Nat.lt_of_lt_of_le (Nat.lt_of_lt_of_le hi2 hzs) (by decide), ds ++ [d], by rw [List.length_append, el]; rfl, fun b o hb => ?_, by rw [upd_same, List.map_append]; rfl, fun b hb => ?_⟩
      · rw [upd_ne (ne_of_none hb hD), upd_ne (ne_of_none (e2 _ _ hb) hd)]
        exact e2 _ _ hb
      · rcases List.mem_append.mp hb with hb | hb
        · obtain ⟨h1, h2, h3⟩ := hds b hb
          obtain ⟨a', b', c', h1⟩ := h1
          exact ⟨⟨a', b', c', by rw [upd_ne h3, upd_ne (ne_of_none h1 hd)]; exact h1⟩, h2, h3⟩
        · rcases List.mem_singleton.mp hb with rfl
          exact ⟨⟨_, _, _, by rw [upd_ne nd.symm, upd_same]⟩, e2.free hd, nd.symm⟩
    · rintro H2 ⟨ds, el, e2, eD, hds⟩
      rw [List.length_map] at el
      exact q D H2 ds (e1.trans e2) (e1.free hD) eD (fun d hd => ⟨(hds d hd).1, e1.free (hds d hd).2.1⟩) (by omega)
  walk_at "g"
  intro p2 hp2
  refine ⟨_, _, .lst (SqL.of (same_new hp2 _ _ _ upd_same)) (dp_ints ms), .lst (SqL.of upd_same) .nil, shaped_ints ms, rfl, ?_⟩
  rw [eqv_nil]
  walk_at "g"
  have s2 := s1.trans (same_new hp2 (.lst []))
  refine w_iteD (fun c1 => ?_) (fun c1 => ?_)
  · walk_at "g"
    intro p3 hp3
    exact rest _ p3 [0] (s2.trans (same_new hp3 _)) upd_same (by decide) none
  · exact rest _ p1 ms s2 (same_new hp2 _ _ _ upd_same) hz none
end
end K05
end

section
-- part Fs3b
set_option Elab.async false
set_option linter.all false
set_option maxRecDepth 100000
set_option maxHeartbeats 2000000
namespace Fw
open PySem PySem.Spec PyProof.Rows L2
section
variable {K : PySem.W.Frag} {σ : L2.St} {H : Hp} {Q : VK} {tl te : TE} {ta : TA} {j : Nat} {vs : List Nat} {tt : TT} {g : TG} {wi : TI}
theorem w_lcRp {n : Int} {R : Addr → Hp → Prop} (hn : 0 ≤ n ∧ n < 2 ^ 62) (h : ∀ D, H D = none → ∃ Pv : Nat → Hp → Prop, Pv 0 (upd H D (.lst [])) ∧
      (∀ (i : Nat) H2, (i : Int) < n → Pv i H2 → g (.int (0 + (i : Int))) (wipe σ vs) H2 fun σ2 H2 => wipe σ2 vs = wipe σ vs ∧ tt σ2 H2 fun b H3 =>
        if b = true then te σ2 H3 fun y H4 => ∃ acc, H4 D = some (.lst acc) ∧ acc.length < sizeLine ∧ Pv (i + 1) (upd H4 D (.lst (acc ++ [y]))) else Pv (i + 1) H3) ∧ (∀ H2, Pv n.toNat H2 → R D H2)) :
    -(2 ^ 62) ≤ n ∧ n < 2 ^ 62 ∧ ∀ D, H D = none → ∃ W : Nat → Nat → Hp → Prop, (∃ m, W 0 m (upd H D (.lst []))) ∧ ∀ i m H, W i m H →
      ((Itr 0 n.toNat).stop i H ∧ R D H) ∨ ((Itr 0 n.toNat).go i H ∧ ∃ Nx : Hp → Prop, (∀ H', Nx H' → ∃ m', m' < m ∧ W (i + 1) m' H') ∧ ∀ x H', (Itr 0 n.toNat).yld i H x H' → g x (wipe σ vs) H' fun σ2 H2 => wipe σ2 vs = wipe σ vs ∧ tt σ2 H2 fun b H3 =>
        if b = true then te σ2 H3 fun y H4 => ∃ acc, H4 D = some (.lst acc) ∧ acc.length < sizeLine ∧ Nx (upd H4 D (.lst (acc ++ [y]))) else Nx H3) := by
  obtain ⟨j, e, a, b, r⟩ := w_lcR (Q := fun v H => ∀ D, v = .ref D → R D H) hn fun D hD => by
    obtain ⟨Pv, x, y, z⟩ := h D hD
    exact ⟨Pv, x, y, fun H2 p D' e => by cases e; exact z H2 p⟩
  cases e
  refine ⟨a, b, fun D hD => ?_⟩
  obtain ⟨W, w1, w2⟩ := r D hD
  refine ⟨W, w1, fun i m H hw => ?_⟩
  rcases w2 i m H hw with ⟨x, y⟩ | x
  · exact .inl ⟨x, y D rfl⟩
  · exact .inr x
theorem w_forRp {g : TG} {tb : TS} {D : Ends} {n : Int} (hn : 0 ≤ n ∧ n < 2 ^ 62) (Pv : Nat → L2.St → Hp → Prop) (h0 : Pv 0 σ H)
    (hs : ∀ (i : Nat) σ H, (i : Int) < n → Pv i σ H → g (.int (0 + (i : Int))) σ H fun σ2 H2 => tb { D with nx := Pv (i + 1), ct := Pv (i + 1), bk := D.nx } σ2 H2) (hd : ∀ σ H, Pv n.toNat σ H → D.nx σ H) :
    -(2 ^ 62) ≤ n ∧ n < 2 ^ 62 ∧ ∃ W : Nat → Nat → L2.St → Hp → Prop, (∃ m, W 0 m σ H) ∧ ∀ i m σ H, W i m σ H →
      ((Itr 0 n.toNat).stop i H ∧ D.nx σ H) ∨ ((Itr 0 n.toNat).go i H ∧ ∃ N : L2.St → Hp → Prop, (∀ σ' H', N σ' H' → ∃ m', m' < m ∧ W (i + 1) m' σ' H') ∧ ∀ x H', (Itr 0 n.toNat).yld i H x H' → g x σ H' fun σ2 H2 => tb { D with nx := N, ct := N, bk := D.nx } σ2 H2) := by
  obtain ⟨j, e, r⟩ := w_forR hn Pv h0 hs hd
  cases e
  exact r
theorem newl {d p : Addr} {H0 Hc H' : Hp} {o : HO} (k : Kp d H0 Hc) (hd : Dice Hc d) (hp : Hc p = none) (hX : upd Hc p o = H') : Kp d H0 H' ∧ Kp d Hc H' ∧ Dice H' d ∧ p ≠ d ∧ H0 p = none ∧ H' p = some o := by
  subst hX
  have hd' := hd
  obtain ⟨a, b, c, hd'⟩ := hd'
  have n : p ≠ d := (ne_of_none hd' hp).symm
  refine ⟨k.trans (Kp.new hp), Kp.new hp, hd.new hp, n, ?_, upd_same⟩
  cases e : H0 p with
  | none => rfl
  | some u => rw [k _ _ n e] at hp; cases hp
theorem w_roll {d : Addr} {m : Int} {H0 Hc : Hp} {Q : VK} {E : XK} (h0 : 0 < m) (h1 : m < 2 ^ 60) (k : Kp d H0 Hc) (hd : Dice Hc d) (h : ∀ (r : Int) (H' : Hp), 0 ≤ r → r < m → Kp d H0 H' → Kp d Hc H' → Dice H' d → Q (.int r) H') : K05.spRoll [.ref d, .int m] Hc Q E := by
  obtain ⟨a, b, c, hd⟩ := hd
  exact ⟨d, m, a, b, c, rfl, hd, h0, h1, fun r a' b' c' e0 e1 => h r _ e0 e1 (k.trans Kp.at_) Kp.at_ ⟨a', b', c', upd_same⟩⟩
/-- a list of signs drawn from cs -/
theorem w_draws {d : Addr} {H0 : Hp} {cs : List Nat} {k : Nat} {m n : Int} {x : Str} {R : Addr → Hp → Prop} (hx : x = S cs) (hm : m = cs.length) (h0 : 0 < m) (h1 : m ≤ 1000) (hn : 0 ≤ n ∧ n ≤ 1000) (kp : Kp d H0 H) (dd : Dice H d)
    (hσ : ∀ v, ((wipe σ vs).set k (some v))[0]? = some (some (.ref d))) (hw : ∀ v, wipe ((wipe σ vs).set k (some v)) vs = wipe σ vs)
    (h : ∀ (D : Addr) (H2 : Hp) (l : List Nat), Kp d H0 H2 → Kp d H H2 → Dice H2 d → H2 D = some (.lst (l.map fun c => V.str (S [c]))) → (∀ c ∈ l, c ∈ cs) → l.length = n.toNat → R D H2) :
    -(2 ^ 62) ≤ n ∧ n < 2 ^ 62 ∧ ∀ D, H D = none → ∃ W : Nat → Nat → Hp → Prop, (∃ m, W 0 m (upd H D (.lst []))) ∧ ∀ i m' H, W i m' H →
      ((Itr 0 n.toNat).stop i H ∧ R D H) ∨ ((Itr 0 n.toNat).go i H ∧ ∃ Nx : Hp → Prop, (∀ H', Nx H' → ∃ m'', m'' < m' ∧ W (i + 1) m'' H') ∧ ∀ z H', (Itr 0 n.toNat).yld i H z H' → gName k z (wipe σ vs) H' fun σ2 H2 => wipe σ2 vs = wipe σ vs ∧ tYes σ2 H2 fun b H3 =>
        if b = true then tOp rIxS (tC (.str x)) (tCl K05.spRoll C8.E0 (tCons (tVar 0) (tCons (tC (.int m)) tNil))) σ2 H3 fun y H4 => ∃ acc, H4 D = some (.lst acc) ∧ acc.length < sizeLine ∧ Nx (upd H4 D (.lst (acc ++ [y]))) else Nx H3) := by
  subst hx
  refine w_lcRp ⟨hn.1, Int.lt_of_le_of_lt hn.2 (by decide)⟩ fun D hD => ?_
  obtain ⟨kp1, kp2, dd1, nD, fD, eD⟩ := newl (o := .lst []) kp dd hD rfl
  refine ⟨fun i H2 => ∃ l : List Nat, l.length = i ∧ (∀ c ∈ l, c ∈ cs) ∧ H2 D = some (.lst (l.map fun c => V.str (S [c]))) ∧ Kp d H0 H2 ∧ Kp d H H2 ∧ Dice H2 d, ⟨[], rfl, fun c hc => absurd hc List.not_mem_nil, eD, kp1, kp2, dd1⟩, ?_, ?_⟩
  · rintro i H2 hi ⟨l, rfl, hl, e2, k2, k3, d2⟩
    refine w_gname ⟨hw _, w_yes ?_⟩
    rw [if_pos rfl]
    refine w_op (w_c (w_cl (w_cons (w_var (hσ _) (w_cons (w_c (w_nil (w_roll h0 (Int.lt_of_le_of_lt h1 (by decide)) k2 d2 fun r H3 r0 r1 k4 k5 d4 => ?_))))))))
    obtain ⟨q, rfl⟩ := Int.eq_ofNat_of_zero_le r0
    have hq : q < cs.length := by omega
    refine w_ixS (Nat.le_trans (by omega : cs.length ≤ 1000) (by decide)) (List.getElem?_eq_getElem hq) ?_
    have e3 := k5 _ _ nD e2
    have hf : H D = none := hD
    have fin : ∀ {Hs : Hp}, Kp d Hs H3 → Hs D = none → Kp d Hs (upd H3 D (.lst ((l.map fun c => V.str (S [c])) ++ [V.str (S [cs[q]])]))) := fun {Hs} a f b o nb e => by
      rw [upd_ne (ne_of_none e f)]
      exact a b o nb e
    refine ⟨_, e3, by rw [List.length_map]; exact Nat.lt_of_lt_of_le (by omega : l.length < 1001) (by decide), l ++ [cs[q]], by simp, ?_, by rw [upd_same, List.map_append]; rfl, fin k4 fD, fin (k3.trans k5) hD, ?_⟩
    · intro c hc
      rcases List.mem_append.mp hc with hc | hc
      · exact hl c hc
      · rw [List.mem_singleton.mp hc]; exact List.getElem_mem hq
    · obtain ⟨a, b, c, e⟩ := d4
      exact ⟨a, b, c, by rw [upd_ne nD.symm]; exact e⟩
  · rintro H2 ⟨l, hl, hc, e, k1, k2, d2⟩
    exact h D H2 l k1 k2 d2 e hc hl
theorem joinL_one : ∀ l : List Nat, TL.joinL [] (l.map fun c => [c]) = l
  | [] => rfl
  | [c] => rfl
  | c :: d :: r => by
    have ih := joinL_one (d :: r)
    show [c] ++ ([] ++ TL.joinL [] ([d] :: r.map fun c => [c])) = c :: d :: r
    rw [List.nil_append]
    rw [List.map_cons] at ih
    rw [ih]
    rfl
theorem join1 {K : PySem.W.Frag} {H : Hp} {D : Addr} {l : List Nat} (hl : l.length ≤ 1000) (e : H D = some (.lst (l.map fun c => V.str (S [c])))) :
    SqL K H D (List.map V.str (l.map fun c => S [c])) ∧ (List.map (fun x : Str => x.length) (l.map fun c => S [c])).sum + (l.map fun c => S [c]).length * (S []).length ≤ 16777216 ∧ Txt.join (S []) (l.map fun c => S [c]) = S l := by
  have e1 : (l.map fun c => V.str (S [c])) = (l.map fun c => S [c]).map V.str := by rw [List.map_map]; rfl
  have e2 : (l.map fun c => S [c]) = (l.map fun c => [c]).map SX.S := by rw [List.map_map]; rfl
  have e3 : ∀ l : List Nat, (List.map (fun x : Str => x.length) (l.map fun c => S [c])).sum = l.length := fun l => by
    induction l with
    | nil => rfl
    | cons c r ih => simp only [List.map_cons, List.sum_cons, ih, List.length_cons, SX.S_len, List.length_nil]; omega
  refine ⟨by rw [← e1]; exact SqL.of e, ?_, ?_⟩
  · rw [e3, show (S []).length = 0 from rfl, Nat.mul_zero]
    omega
  · rw [e2, show S [] = SX.S [] from rfl, SX.join_S, joinL_one]
end
end Fw
end

section
-- part Fy5
set_option Elab.async false
set_option linter.all false
set_option maxRecDepth 100000
set_option maxHeartbeats 2000000
/-! Fy5: more rules -/
namespace Fw
open PySem PySem.Spec PyProof.Rows L2 SX
section
variable {K : PySem.W.Frag} {σ : L2.St} {H : Hp} {Q : VK} {te : TE} {t : TA} {QA : List V → Hp → Prop}
theorem isi_str : PySem.W.kitOne K (.type "str") (.type "str") = some true := by rfl
theorem isi_int : PySem.W.kitOne K (.type "int") (.type "str") = some false := by rfl
theorem isi_non : PySem.W.kitOne K (.type "NoneType") (.type "str") = some false := by rfl
theorem w_isiS {x : Str} (q : Q (.bl true) H) : L2.rIsi K [.str x, .ty "str"] H Q := ⟨_, _, _, _, _, rfl, .ty _, .base (.str x), isi_str, q⟩
theorem w_isiI {i : Int} (q : Q (.bl false) H) : L2.rIsi K [.int i, .ty "str"] H Q := ⟨_, _, _, _, _, rfl, .ty _, .base (.int i), isi_int, q⟩
theorem w_isiN (q : Q (.bl false) H) : L2.rIsi K [.non, .ty "str"] H Q := ⟨_, _, _, _, _, rfl, .ty _, .base .non, isi_non, q⟩
theorem w_star (h : te σ H fun x H1 => ∃ p xs, x = V.ref p ∧ (SqT K H1 p xs ∨ SqL K H1 p xs) ∧ t σ H1 fun ys H2 => QA (xs ++ ys) H2) : StX.tStar K te t σ H QA := h
theorem w_revL (h : te σ H fun x H1 => ∃ a xs, x = .ref a ∧ SqL K H1 a xs ∧ ∀ p, H1 p = none → Q (.ref p) (upd H1 p (.lst xs.reverse))) : tRevL K te σ H Q := h
theorem w_isN0 (q : Q (.bl true) H) : (fun x y H Q => y = V.non ∧ Q (.bl (decide (x = V.non))) H) V.non V.non H Q := ⟨rfl, by rw [decide_eq_true rfl]; exact q⟩
end
section
open PySem.AutoSeq1
theorem ext_tup (l : Addr) (us : Array Value) (n : Nat) (b : Addr) (ws : Array Value) (n2 : Nat) (dd : Option Addr) (sl : Array (Option Value)) (h0 : ¬(!us.isEmpty && Builtin.List.listTooLong (us.size + ws.size)) = true) (h1 : us.size ≤ sizeLine) (h2 : us.size + ws.size ≤ sizeLine + 1) :
    Meets (Builtin.«list.extend» ⟨[.ref l, .ref b], []⟩) (fun _ R s => s.heap.get? l = some { cls := .type "list", dict := none, data := .seq us n, slots := #[] } ∧ s.heap.get? b = some { cls := .type "tuple", dict := dd, data := .seq ws n2, slots := sl } ∧
      R (.ok (.ret Value.none)) { s with heap := s.heap.update l (Obj.mapSeq fun x => x ++ ws), toks := s.toks }) :=
  .of_wp fun prog w A R s h => by
    obtain ⟨hp, g, d, tk, os⟩ := s
    obtain ⟨hl, hb, h⟩ := h
    have f1 := AutoSeq1.idx_int
    have f2 := AutoSeq1.sub_tuple_tuple
    have f3 := AutoSeq1.sub_list_list
    have f4 := AutoSeq1.sub_tuple_list
    have f5 := AutoSeq1.sub_list_tuple
    have hz' : (us ++ ws).size ≤ sizeLine + 1 := by rw [Array.size_append]; exact h2
    wp_walk using (wpAny_updateSeq hl rfl (hz := h1) (_hz' := hz')), wpAny_loadPart' hl, wpAny_loadPart' hb; exact ⟨_, rfl, h⟩
end
section
variable {X : Cx}
/-- l.extend(t): t a list that is tracked, or a tuple -/
def rExtT (K : PySem.W.Frag) : V → List V → Hp → VK → Prop := fun x vs H Q => ∃ l b xs zs, x = .ref l ∧ vs = [.ref b] ∧ H l = some (.lst xs) ∧ SqT K H b zs ∧ xs.length + zs.length ≤ sizeLine ∧ Q .non (upd H l (.lst (xs ++ zs)))
theorem mt_extT : MtM X "list.extend" (rExtT X.K) := by
  intro pins s σ H x vs v us Q I rx rv h
  obtain ⟨l, b, xs, zs, rfl, rfl, hH, hB, hz, q⟩ := h
  cases rx
  obtain ⟨u, rfl, ru⟩ := rv.one
  cases ru
  obtain ⟨z, its, n, r, hl, e⟩ := I.lstM hH
  obtain ⟨its2, r2, ⟨⟨cls, dd, data, sl⟩, e2, hc, n2, hd⟩, hs⟩ := I.tuple hB
  simp only at hc hd
  subst hc hd
  have hl2 := r2.length
  have hsz : its.toArray.size + its2.toArray.size ≤ sizeLine := by rw [List.size_toArray, List.size_toArray]; omega
  have hlong : ¬ (!its.toArray.isEmpty && Builtin.List.listTooLong (its.toArray.size + its2.toArray.size)) = true := by
    rw [notLongL hsz, Bool.and_false]
    exact Bool.false_ne_true
  refine call_meets F.slot_list_extend ⟨_, e, rfl⟩ F.entry_list_extend (F.args_list_extend_2 _ _)
    (ext_tup l its.toArray n b its2.toArray n2 dd sl hlong (by rw [List.size_toArray]; omega) (by omega)) ⟨e, e2, ?_⟩
  refine ⟨.non, _, I.lset (its' := its ++ its2) hH e (by simp) (r.append r2) ?_, rfl, q⟩
  rw [List.length_append]
  omega
theorem w_extT {K : PySem.W.Frag} {l b : Addr} {xs zs : List V} {H : Hp} {Q : VK} (h : H l = some (.lst xs)) (t : SqT K H b zs) (hz : xs.length + zs.length ≤ sizeLine) (q : Q .non (upd H l (.lst (xs ++ zs)))) : rExtT K (.ref l) [.ref b] H Q := ⟨l, b, xs, zs, rfl, rfl, h, t, hz, q⟩
end
section
variable {K : PySem.W.Frag} {σ : L2.St} {H : Hp} {te : TE} {vs : List Nat} {tt : TT} {g : TG}
/-- [.. for sign in text] -/
theorem w_lcS {l : List Nat} {R : Addr → Hp → Prop} (h : ∀ D, H D = none → ∃ Pv : Nat → Hp → Prop, Pv 0 (upd H D (.lst [])) ∧
      (∀ i c H2, l[i]? = some c → Pv i H2 → g (.str (S [c])) (wipe σ vs) H2 fun σ2 H2 => wipe σ2 vs = wipe σ vs ∧ tt σ2 H2 fun b H3 =>
        if b = true then te σ2 H3 fun y H4 => ∃ acc, H4 D = some (.lst acc) ∧ acc.length < sizeLine ∧ Pv (i + 1) (upd H4 D (.lst (acc ++ [y]))) else Pv (i + 1) H3) ∧ (∀ H2, Pv l.length H2 → R D H2)) :
    ∃ x, V.str (S l) = .str x ∧ ∀ D, H D = none → ∃ W : Nat → Nat → Hp → Prop, (∃ m, W 0 m (upd H D (.lst []))) ∧ ∀ i m H, W i m H →
      ((Its x).stop i H ∧ R D H) ∨ ((Its x).go i H ∧ ∃ Nx : Hp → Prop, (∀ H', Nx H' → ∃ m', m' < m ∧ W (i + 1) m' H') ∧ ∀ y H', (Its x).yld i H y H' → g y (wipe σ vs) H' fun σ2 H2 => wipe σ2 vs = wipe σ vs ∧ tt σ2 H2 fun b H3 =>
        if b = true then te σ2 H3 fun y H4 => ∃ acc, H4 D = some (.lst acc) ∧ acc.length < sizeLine ∧ Nx (upd H4 D (.lst (acc ++ [y]))) else Nx H3) := by
  refine ⟨S l, rfl, fun D hD => ?_⟩
  obtain ⟨Pv, h0, hs, hd⟩ := h D hD
  have el : (S l).cps.size = l.length := by rw [← S_list l]; simp
  have el2 : (S l).cps.toList = l := S_list l
  refine ⟨fun i m H => m = (S l).cps.size - i ∧ i ≤ (S l).cps.size ∧ Pv i H, ⟨_, rfl, Nat.zero_le _, h0⟩, ?_⟩
  rintro i m H ⟨rfl, hi, p⟩
  by_cases hlt : i < (S l).cps.size
  · refine .inr ⟨hlt, Pv (i + 1), fun H' p' => ⟨(S l).cps.size - (i + 1), by omega, rfl, hlt, p'⟩, fun v H' y => ?_⟩
    obtain ⟨e, c, hc, rfl⟩ := y
    subst e
    have hc2 : l[i]? = some c := by
      rw [← el2]
      simpa using hc
    exact hs i c _ hc2 p
  · have e : i = (S l).cps.size := by omega
    subst e
    rw [el] at p
    exact .inl ⟨Nat.le_refl _, hd H p⟩
/-- over a tuple -/
theorem w_lcTn {p : Addr} {xs : List V} {R : Addr → Hp → Prop} (hS : SqT K H p xs) (h : ∀ D, H D = none → ∃ Pv : Nat → Hp → Prop, Pv 0 (upd H D (.lst [])) ∧ (∀ i H2, i ≤ xs.length → Pv i H2 → SqT K H2 p xs) ∧
      (∀ i x H2, xs[i]? = some x → Pv i H2 → g x (wipe σ vs) H2 fun σ2 H2 => wipe σ2 vs = wipe σ vs ∧ tt σ2 H2 fun b H3 =>
        if b = true then te σ2 H3 fun y H4 => ∃ acc, H4 D = some (.lst acc) ∧ acc.length < sizeLine ∧ Pv (i + 1) (upd H4 D (.lst (acc ++ [y]))) else Pv (i + 1) H3) ∧ (∀ H2, Pv xs.length H2 → R D H2)) :
    ∃ a, V.ref p = .ref a ∧ (∃ xs, SqT K H a xs) ∧ ∀ D, H D = none → ∃ W : Nat → Nat → Hp → Prop, (∃ m, W 0 m (upd H D (.lst []))) ∧ ∀ i m H, W i m H →
      ((Itt K a).stop i H ∧ R D H) ∨ ((Itt K a).go i H ∧ ∃ Nx : Hp → Prop, (∀ H', Nx H' → ∃ m', m' < m ∧ W (i + 1) m' H') ∧ ∀ x H', (Itt K a).yld i H x H' → g x (wipe σ vs) H' fun σ2 H2 => wipe σ2 vs = wipe σ vs ∧ tt σ2 H2 fun b H3 =>
        if b = true then te σ2 H3 fun y H4 => ∃ acc, H4 D = some (.lst acc) ∧ acc.length < sizeLine ∧ Nx (upd H4 D (.lst (acc ++ [y]))) else Nx H3) := by
  refine ⟨p, rfl, ⟨xs, hS⟩, fun D hD => ?_⟩
  obtain ⟨Pv, h0, hl, hs, hd⟩ := h D hD
  exact lc_tup (Qd := fun H => R D H) Pv h0 hl hs hd
end
end Fw
end

section
-- part Fr
set_option Elab.async false
set_option linter.all false
set_option maxRecDepth 100000
set_option maxHeartbeats 4000000
/-! Fr: a list comprehension whose element may raise -/
namespace Fw
open PySem PySem.Spec PyProof.Rows L2
section
variable {M : Model} {A : Around} {E : Value → Shared → Prop} {s : Shared} {env : Env}
/-- the end of a block whose own env is ce -/
def endOf (M : Model) (A : Around) (E : Value → Shared → Prop) (use : Option (Value → Sem Unit)) (Q : Value → Shared → Prop) (acc : Value) (ce : Env) : Result → Shared → Prop
  | .ok _, t => match use with
    | none => ∃ m, t.heap.Ns ce.locals m ∧ ∀ g, Heap.SameBut ce.locals t.heap g → Q acc { t with heap := g }
    | some u => wpAny M A (u acc) (fun _ t' => ∃ m, t'.heap.Ns ce.locals m ∧ ∀ g, Heap.SameBut ce.locals t'.heap g → Q .none { t' with heap := g }) E t
  | .error x, t => ∃ m, t.heap.Ns ce.locals m ∧ ∀ g, Heap.SameBut ce.locals t.heap g → wpAny M A (passOn "comprehension.variables-let-go" x ce : Sem Value) (fun _ _ => False) E { t with heap := g }
theorem comp_run {e : Expr} {scope : Scope} {pos : Pos} {mk first : Sem Value} {c : Comprehension} {cs : List Comprehension} {cl : List (Str × Addr)} {use : Option (Value → Sem Unit)} {Q : Value → Shared → Prop}
    (h1 : clausesOf e = c :: cs) (h2 : ∀ x, foldedSetIterable c.iter env x = pure x) (h3 : closureFor scope env = pure cl) (hk : scope.kind = .function) (hn : ∀ x ∈ scope.names, x.2 = .local → scope.names.lookup x.1 = some .local)
    (h : wpAny M A first (fun x t1 => wpAny M A (pyIter x) (fun it t2 => wpAny M A mk (fun acc t3 => wpAny M A (newFunctionEnv scope env.globals cl [] env.qual none .none (some env)) (fun ce t4 =>
      codeAny M A (.compStart e 0 it acc { ce with scope := relabel scope env }) (endOf M A E use Q acc { ce with scope := relabel scope env }) t4) E t3) E t2) E t1) E s) :
    wpAny M A (comprehension e scope env pos mk false first use) Q E s := by
  unfold comprehension
  rw [h3, h1]
  refine wpAny_bind (wpAny_mono h (fun x t1 q1 => ?_) fun _ _ z => z)
  refine wpAny_bind (wpAny_standAt (wpAny_bind (wpAny_of_eq (h2 x) (wpAny_bind (wpAny_holding (wpAny_mono q1 (fun it t2 q2 => ?_) fun _ _ z => z))))))
  refine wpAny_standIf (wpAny_bind (wpAny_mono q2 (fun acc t3 q3 => ?_) fun _ _ z => z))
  refine wpAny_bind (wpAny_pure (wpAny_bind (wpAny_mono q3 (fun ce t4 q4 => ?_) fun _ _ z => z)))
  dsimp only
  have lk : ∀ {y}, y ∈ (scope.names.filter fun x => (x.2 == .local || x.2 == .cell) && x.1 != (".0" : Str)).reverse → y.2 = .local → Env.kindOf { ce with scope := relabel scope env } y.1 = some .local := fun {y} hy hl =>
    lookup_relabel_local (hn y (List.mem_filter.mp (List.mem_reverse.mp hy)).1 hl)
  have lk2 : ∀ y ∈ (scope.names.filter fun x => (x.2 == .local || x.2 == .cell) && x.1 != (".0" : Str)).reverse.drop 1 ++ (scope.names.filter fun x => (x.2 == .local || x.2 == .cell) && x.1 != (".0" : Str)).reverse.take 1,
      y.2 = .local → Env.kindOf { ce with scope := relabel scope env } y.1 = some .local := fun y hy hl => (List.mem_append.mp hy).elim (fun z => lk (List.mem_of_mem_drop z) hl) fun z => lk (List.mem_of_mem_take z) hl
  refine wpAny_holding (wpAny_bind (wpAny_attempt (wpAny_holding (wpAny_run (codeAny_mono q4 fun r t qr => ?_)))))
  cases r with
  | error x =>
    obtain ⟨m, hm, qr⟩ := qr
    exact wpAny_bind (wpAny_holding (wpAny_comp_letGo (cenv := { ce with scope := relabel scope env }) hk _ t m (fun y hy hl => lk hy hl) hm fun g _ _ sb => wpAny_mono (qr g sb) (fun _ _ z => z.elim) fun _ _ z => z))
  | ok f =>
    cases use with
    | none =>
      obtain ⟨m, hm, qr⟩ := qr
      exact wpAny_bind (wpAny_holding (wpAny_comp_letGo (cenv := { ce with scope := relabel scope env }) hk _ t m (fun y hy hl => lk hy hl) hm fun g _ _ sb => wpAny_pure (qr g sb)))
    | some u =>
      refine wpAny_bind (wpAny_rule (wpAny_bind (wpAny_holding (wpAny_mono qr (fun _ t' qr' => ?_) fun _ _ z => z))))
      obtain ⟨m, hm, qr'⟩ := qr'
      exact wpAny_bind (wpAny_comp_letGo (cenv := { ce with scope := relabel scope env }) hk _ t' m lk2 hm fun g _ _ sb => wpAny_pure (qr' g sb))
end
theorem frames_but {h h' B : Heap} {C : Addr} (k : ∀ b o, b ≠ C → h.get? b = some o → h'.get? b = some o) : ∀ {l : List Env}, h.FunFrames B l → C ∉ frs l → h'.FunFrames B l
  | [], _, _ => trivial
  | env :: l, x, n => by
    obtain ⟨x1, ⟨L, o, hf, hb, ho, hd⟩, x2⟩ := x
    have mL : L ∈ frs (env :: l) := List.mem_filterMap.mpr ⟨env, List.mem_cons_self, hf⟩
    refine ⟨x1, ⟨L, o, hf, hb, k L o (fun z => n (z ▸ mL)) ho, hd⟩, frames_but k x2 fun m => n ?_⟩
    obtain ⟨e, he, q⟩ := List.mem_filterMap.mp m
    exact List.mem_filterMap.mpr ⟨e, List.mem_cons_of_mem _ he, q⟩
theorem frames_base {h B B' : Heap} : ∀ {l : List Env}, h.FunFrames B l → (∀ b, B.get? b = none → B'.get? b = none) → h.FunFrames B' l
  | [], _, _ => trivial
  | env :: l, x, n => by
    obtain ⟨x1, ⟨L, o, hf, hb, ho, hd⟩, x2⟩ := x
    exact ⟨x1, ⟨L, o, hf, n L hb, ho, hd⟩, frames_base x2 n⟩
section
variable {X : Cx}
/-- what leaves a block by a call in it -/
def fromBlock (B : Cx) (X : Cx) (E : XK) : Value → Shared → Prop := fun u t => ∃ pins σ H s, Inv B pins σ H s ∧ L2.CX X.prog X.w X.stack H s E u t
theorem passes_block {B : Cx} {E : XK} (hs : B.stack = X.stack) : Passes (L2.CX X.prog X.w) (B.wish (fromBlock B X E)) E := by
  intro pins σ H s e t I c
  refine ⟨pins, σ, H, s, I.unwish, ?_⟩
  rw [← hs]
  exact c
theorem note_same {ce env : Env} (h : ce.frame = env.frame) (x : Value) : noteFrame x ce = noteFrame x env := by
  unfold noteFrame PySem.frameOf
  rw [h]
theorem block_raise {pins : List (Addr × Obj)} {σ : L2.St} {H3 : Hp} {s3 : Shared} {scope : Scope} {ce : Env} {fp : List Addr} {E : XK} {use : Option (Value → Sem Unit)} {Qf : Value → Shared → Prop} {acc u : Value} {t : Shared}
    (hs : X.stack = X.env :: X.outer) (hf : X.env.frame = some X.env.locals) (tk : Takes X (fun cls d _ H => E cls d H)) (I3 : Inv X pins σ H3 s3) (hcf : ce.frame = X.env.frame) (hcl : ce.locals = s3.heap.objs.size) (f3 : ∀ b ∈ fp, FpOk X pins H3 b)
    (r : fromBlock (X.blk s3 H3 scope ce fp) X E u t) : notedBy (model X.prog X.w) X.A ce (fun e t => endOf (model X.prog X.w) X.A X.xe use Qf acc ce (.error e) t) u t := by
  obtain ⟨pB, σB, HB, sB, IB, a, Bg, H', cls, d, rfl, fl, hok, ub, na, os, ag, hE⟩ := r
  have I7 : Inv X pins σ HB sB := I3.call' (ch := fp) IB.os IB.base IB.hok IB.bare fun b hb => ⟨(f3 b hb).2.2.2.1, (f3 b hb).2.1, (f3 b hb).2.2.2.2.1, (f3 b hb).2.2.2.2.2⟩
  have nC : HB ce.locals = none := IB.free
  obtain ⟨m, hn, _⟩ := IB.loc
  have hn : sB.heap.Ns ce.locals m := hn
  have fC : FpOk X pins HB s3.heap.objs.size := I3.fpOk (Nat.le_refl _) (by rw [← hcl]; exact nC)
  rw [← hcl] at fC
  generalize hC : ce.locals = C at nC hn fC
  have Cf : C ∉ frs X.stack := fun hm => by
    rcases List.mem_cons.mp (I3.stkSub C hm) with z | z
    · exact fC.2.1 z
    · exact fC.2.2.1 z
  obtain ⟨oC, _, _, eC, _⟩ := id hn
  have hn' : t.heap.Ns C m := hn.at' fun o e => fl.1 _ _ (ub.keep C o e nC Cf)
  have nC' : H' C = none := ub.free C oC eC nC
  -- the ground without C
  obtain ⟨B', b1, b2⟩ := restrict Bg fun b => decide (b ≠ C)
  have b3 : ∀ b o, B'.get? b = some o → Bg.get? b = some o ∧ b ≠ C := fun b o e => by
    by_cases z : b = C
    · rw [b2 b (by simp [z])] at e
      cases e
    · exact ⟨by rw [← b1 b (by simp [z])]; exact e, z⟩
  have b4 : ∀ b o, b ≠ C → Bg.get? b = some o → B'.get? b = some o := fun b o z e => by rw [b1 b (by simp [z])]; exact e
  have b5 : ∀ b, Bg.get? b = none → B'.get? b = none := fun b e => by
    cases q : B'.get? b with
    | none => rfl
    | some o => rw [(b3 b o q).1] at e; cases e
  have hfr : X.A.frames = some (X.env :: X.outer) := by rw [I3.ok.frames, hs]
  rw [hs] at fl
  unfold notedBy
  rw [note_same hcf]
  refine HandSPX.looks_onZ Zc.steady hfr hf fl fun h1 held up1 => ?_
  obtain ⟨k1, k2, k3, oe, vs, T, oT, ts, he, hz, hd, q1, nT, Ta, hT, hdT, q3⟩ := held
  refine ⟨m, ?_, fun g sb => ?_⟩
  · rw [hC]
    exact hn.at' fun o e => k1 _ _ (ub.keep C o e nC Cf)
  have bC := ub.keep C oC eC nC Cf
  have aC : a ≠ C := fun z => by rw [z, bC] at k2; cases k2
  have TC : T ≠ C := fun z => by rw [z, bC] at nT; cases nT
  have same : ∀ b, b ≠ C → g.get? b = h1.get? b := fun b hb => sb.2 b (by rw [hC]; exact hb)
  have held2 : HandSPX.HeldZ B' (X.env :: X.outer) a (Zc cls d) X.env.locals g := by
    refine ⟨fun b o e => ?_, b5 a k2, frames_base (frames_but (fun b o hb e => (same b hb).trans e) k3 (by rw [← hs]; exact Cf)) b5, oe, vs, T, oT, ts, (same a aC).trans he, hz, hd, q1, b5 T nT, Ta, (same T TC).trans hT, hdT, q3⟩
    obtain ⟨e1, e2⟩ := b3 b o e
    exact (same b e2).trans (k1 _ _ e1)
  unfold PySem.passOn
  refine wpAny_bind (wpAny_field ((same a aC).trans he) hd q1 ?_)
  rw [if_neg (show ¬ ((Value.ref T == Value.none) = true) from by simp)]
  have fin : wpAny (model X.prog X.w) X.A (setFlight (.ref a) ce.frame) (fun _ t4 => wpAny (model X.prog X.w) X.A (throw (.ref a) : Sem Value) (fun _ _ => False) X.xe t4) X.xe { t with heap := g } := by
    rw [hcf, hf]
    refine HandSPX.setFlight_onZ held2 fun h2 held3 up3 => wpAny_throw (tk _ _ ?_)
    obtain ⟨G, g1, g2⟩ := restrict t.heap fun b => (B'.get? b).isSome || decide (b ∈ frs X.stack)
    have og : ∀ b o, G.get? b = some o → t.heap.get? b = some o ∧ ((B'.get? b).isSome = true ∨ b ∈ frs X.stack) := fun b o e => by
      cases q : ((B'.get? b).isSome || decide (b ∈ frs X.stack)) with
      | true =>
        rw [g1 b q] at e
        exact ⟨e, by simpa [Bool.or_eq_true] using q⟩
      | false => rw [g2 b q] at e; cases e
    have gB : ∀ b o, B'.get? b = some o → G.get? b = some o := fun b o e => by
      rw [g1 b (by simp [e])]
      exact fl.1 b o (b3 b o e).1
    have gF : ∀ b, b ∈ frs X.stack → G.get? b = t.heap.get? b := fun b hb => g1 b (by simp [hb])
    have GC : ∀ b o, G.get? b = some o → b ≠ C := fun b o e z => by
      rcases (og b o e).2 with q | q
      · obtain ⟨o', q⟩ := Option.isSome_iff_exists.mp q
        exact (b3 b o' q).2 z
      · exact Cf (z ▸ q)
    refine ⟨a, B', { sB with heap := G, gens := t.gens, drawn := t.drawn, toks := t.toks }, pins, σ, H', cls, d, rfl, ?_, fun b o e hb => ?_, fun b o e hnf => ?_, .inr (.inr (by rw [hs]; exact held3)), na, os, ag, hE⟩
    · have slotF : ∀ b o, sB.heap.get? b = some o → b ∈ frs X.stack → ∃ sl, G.get? b = some { o with slots := sl } := fun b o e hb => by
        obtain ⟨sl, q⟩ := ub.slot b o e hb
        exact ⟨sl, by rw [gF b hb]; exact q⟩
      refine I7.call (ch := [C]) ⟨fun b o e n hb hc => gB b o (b4 b o (fun z => hc (by simp [z])) (ub.keep b o e n hb)), fun b o e n hb hc => slotF b o e hb, fun b o e n _ => ub.free b o e n, fun b o e hc => ?_, ub.tups, ub.frzs, ub.tbls⟩ (fun b o q => ?_) ag fun b hb => ?_
      · by_cases hb : b ∈ frs X.stack
        · obtain ⟨sl, q⟩ := slotF b o e hb
          exact ⟨_, q⟩
        · obtain ⟨o', q⟩ := ub.there b o e hb
          exact ⟨o', gB b o' (b4 b o' (fun z => hc (by simp [z])) q)⟩
      · refine (hok b o q).stay (fun c v hc e => gB c v (b4 c v (fun z => ?_) e)) (fun _ z => z) fun _ _ z => z
        rcases hc with hc | hc
        · rw [← hc, z, nC'] at q; cases q
        · rw [z, nC'] at hc; cases hc
      · rw [List.mem_singleton.mp hb]
        exact ⟨fC.2.2.2.1, fC.2.1, fC.2.2.2.2.1, fC.2.2.2.2.2⟩
    · obtain ⟨e', q⟩ := og b o e
      rcases q with q | q
      · obtain ⟨o', q⟩ := Option.isSome_iff_exists.mp q
        have z := fl.1 b o' (b3 b o' q).1
        rw [e'] at z
        cases z
        exact q
      · exact absurd q hb
    · obtain ⟨e', _⟩ := og b o e
      obtain ⟨sl, z1⟩ := up1 b o e' hnf
      have z2 := (same b (GC b o e)).trans z1
      obtain ⟨sl2, z3⟩ := up3 b _ z2 hnf
      exact ⟨sl2, z3⟩
  first
    | exact wpAny_bind (wpAny_pure (wpAny_bind fin))
    | exact wpAny_bind fin
/-- the comprehension's rule, its element one that may raise E -/
theorem lc_raise {pins : List (Addr × Obj)} {s : Shared} {σ : L2.St} {H : Hp} {Q : VK} {elt tg iter : Expr} {ifs : List Expr} {scope : Scope} {own : List (Str × Nat)} {pos pos' : Pos} {wi : TI} {g : TG} {tt : TT} {te : TE} {use : Option (Value → Sem Unit)} {Qf : Value → Shared → Prop} {E : XK}
    (hs : X.stack = X.env :: X.outer) (hf : X.env.frame = some X.env.locals) (tk : Takes X (fun cls d _ H => E cls d H)) (calm : X.calm = true) (hN : X.N.Nodup) (I : Inv X pins σ H s) (hi : PI X tg iter wi) (ok : BlkOk X.N X.env.scope scope own)
    (hg : ∀ (s : Shared) (H : Hp) (C : Addr) (cl : List (Str × Addr)) (fp : List Addr), PG (X.blk s H scope (compEnvC scope cl C X.env) fp) tg g)
    (ht : ∀ (s : Shared) (H : Hp) (C : Addr) (cl : List (Str × Addr)) (fp : List Addr), PTs (X.blk s H scope (compEnvC scope cl C X.env) fp) ifs tt)
    (he : ∀ (s : Shared) (H : Hp) (C : Addr) (cl : List (Str × Addr)) (fp : List Addr), PE ((X.blk s H scope (compEnvC scope cl C X.env) fp).wish (fromBlock (X.blk s H scope (compEnvC scope cl C X.env) fp) X E)) elt te)
    (hfs : ∀ x, foldedSetIterable iter X.env x = pure x) (h : tLc wi g tt te (own.map (·.2)) σ H Q)
    (hend : ∀ D ce t m H', ce.frame = X.env.frame → Inv X pins σ H' t → Q (.ref D) H' → t.heap.Ns ce.locals m → FpOk X pins H' ce.locals → endOf (model X.prog X.w) X.A X.xe use Qf (.ref D) ce (.ok .next) t) :
    wpAny (model X.prog X.w) X.A (comprehension (.ListComp elt [⟨tg, iter, ifs, 0⟩] scope pos) scope X.env pos' (newList []) false (eval iter X.env) use) Qf X.xe s := by
  have free : ∀ z ∈ scope.names, z.2 = .free → ∃ c, X.env.cells.lookup z.1 = some c := fun z hz e => (ok.free z hz e).elim (fun k => I.ok.has _ (.inl k)) fun k => I.ok.has _ (.inr k)
  refine comp_run rfl hfs (closure_ok free) ok.kind (fun z hz e => by rw [ok.uniq z hz, e]) (thn (hi.run pins s σ H _ I h) fun xv s1 hx => thn hx fun itv s2 ⟨it, fp, tn, J, H2, e, I2, T, st2, f2, q⟩ => ?_)
  subst e
  refine wpAny_newObj_type (newEnv_comp ?_) (show 0 ≤ sizeLine by decide)
  generalize hD : s2.heap.objs.size = D
  have hDn : H2 D = none := I2.hok.fresh (Nat.le_of_eq hD)
  obtain ⟨W, ⟨m0, w0⟩, turn⟩ := q D hDn
  generalize hs3 : ({ s2 with heap := s2.heap.push { cls := .type "list", data := .seq ([] : List Value).toArray } } : Shared) = s3
  have h3 : s3.heap = s2.heap.push { cls := .type "list", data := .seq ([] : List Value).toArray } := by rw [← hs3]
  have I3 : Inv X pins σ (upd H2 D (.lst [])) s3 := by
    rw [← hs3]
    exact I2.laid (t' := s2.toks) (fun b o e => Heap.get?_push_of_some _ e) (Nat.le_of_eq hD) ⟨Nat.zero_le _, [], 0, .nil, by rw [← hD]; exact Heap.get?_push_size _ rfl⟩
  have f3 : ∀ b ∈ fp, FpOk X pins (upd H2 D (.lst [])) b ∧ b < s3.heap.objs.size := fun b hb => by
    obtain ⟨o, e, _⟩ := T.obj _ _ st2 b hb
    have lt := Heap.lt_size e
    exact ⟨⟨by rw [upd_ne (by rw [← hD]; exact Nat.ne_of_lt lt)]; exact (f2 b hb).1, (f2 b hb).2⟩, by rw [h3, Heap.size_push]; exact Nat.lt_succ_of_lt lt⟩
  have st3 : tn 0 s3.heap := T.keep _ _ _ st2 fun b _ o e => by rw [h3]; exact Heap.get?_push_of_some _ e
  have I4 := block_start I3 ok hN f3
  have pg := hg s3 (upd H2 D (.lst [])) s3.heap.objs.size (cellsFrom (s3.heap.objs.size + 1) scope.names (cloFrom X.env.cells scope.names [])) fp
  have pt := ht s3 (upd H2 D (.lst [])) s3.heap.objs.size (cellsFrom (s3.heap.objs.size + 1) scope.names (cloFrom X.env.cells scope.names [])) fp
  have pe := he s3 (upd H2 D (.lst [])) s3.heap.objs.size (cellsFrom (s3.heap.objs.size + 1) scope.names (cloFrom X.env.cells scope.names [])) fp
  show codeAny _ _ (.compStart (.ListComp elt [⟨tg, iter, ifs, 0⟩] scope pos) 0 (.ref it) (.ref D) (compEnvC scope (cellsFrom (s3.heap.objs.size + 1) scope.names (cloFrom X.env.cells scope.names [])) s3.heap.objs.size X.env))
    (endOf (model X.prog X.w) X.A X.xe use Qf (.ref D) (compEnvC scope (cellsFrom (s3.heap.objs.size + 1) scope.names (cloFrom X.env.cells scope.names [])) s3.heap.objs.size X.env)) { s3 with heap := pushCells (s3.heap.push { cls := .type "dict", data := .dict #[] }) scope.names }
  have nfp : ∀ b ∈ fp, (upd H2 D (.lst [])) b = none := fun b hb => (f3 b hb).1.1
  generalize hce : compEnvC scope (cellsFrom (s3.heap.objs.size + 1) scope.names (cloFrom X.env.cells scope.names [])) s3.heap.objs.size X.env = ce at I4 pg pt pe ⊢
  have cL : ce.locals = s3.heap.objs.size := by subst hce; rfl
  have cF : ce.frame = X.env.frame := by subst hce; rfl
  generalize hH3 : upd H2 D (.lst []) = H3 at I3 I4 pg pt pe w0 nfp f3
  generalize hs4 : ({ s3 with heap := pushCells (s3.heap.push { cls := .type "dict", data := .dict #[] }) scope.names } : Shared) = s4 at I4 ⊢
  have st4 : tn 0 s4.heap := T.keep _ _ _ st3 fun b _ o e => by rw [← hs4]; exact pushCells_keeps _ _ _ _ (Heap.get?_push_of_some _ e)
  have stat : ∀ {σ' : L2.St} {H' : Hp} {t : Shared}, Inv (X.blk s3 H3 scope ce fp) [] σ' H' t → (∀ b ∈ fp, H' b = none) → ∀ b ∈ fp, FpOk (X.blk s3 H3 scope ce fp) [] H' b := fun {σ' H' t} J hn b hb =>
    ⟨hn b hb, (J.ok.exf b hb).1, J.ok.exfs b hb, .inl hb, fun x c e => (J.ok.exf b hb).2 x c e, fun p hp => absurd (show p ∈ ([] : List (Addr × Obj)) ++ [] from hp) (by simp)⟩
  have back : ∀ {pB : List (Addr × Obj)} {σB : L2.St} {H' : Hp} {t : Shared}, Inv (X.blk s3 H3 scope ce fp) pB σB H' t → Inv X pins σ H' t := fun {pB σB H' t} J =>
    I3.call' (ch := fp) J.os J.base J.hok J.bare fun b hb => ⟨(f3 b hb).1.2.2.2.1, (f3 b hb).1.2.1, (f3 b hb).1.2.2.2.2.1, (f3 b hb).1.2.2.2.2.2⟩
  have loop : codeAny (model X.prog X.w) X.A (.compLoop (.ListComp elt [⟨tg, iter, ifs, 0⟩] scope pos) 0 (.ref it) (.ref D) ce) (endOf (model X.prog X.w) X.A X.xe use Qf (.ref D) ce) s4 := by
    refine compLoop_any (fun n t => ∃ i H', Inv (X.blk s3 H3 scope ce fp) [] (wipe σ (own.map (·.2))) H' t ∧ tn i t.heap ∧ (∀ b ∈ fp, H' b = none) ∧ W i n H') ?_ m0 ⟨0, H3, I4, st4, nfp, w0⟩
    rintro n s5 ⟨i, H5, I5, st5, n5, w5⟩
    rcases turn i n H5 w5 with ⟨stop, qq⟩ | ⟨go, Nx, hNx, step⟩
    · refine thnF (T.done (X.blk s3 H3 scope ce fp) rfl rfl rfl calm i [] s5 _ H5 (fun _ _ => False) I5 (stat I5 n5) st5 stop) fun r s6 ⟨hr, I6⟩ => ?_
      subst hr
      have z : H5 ce.locals = none := I6.free
      obtain ⟨m, hn, _⟩ := I6.loc
      exact hend D ce s6 m H5 cF (back I6) qq hn (by rw [cL] at z ⊢; exact I3.fpOk (Nat.le_refl _) z)
    · refine thnF (T.item (X.blk s3 H3 scope ce fp) rfl rfl rfl calm i [] s5 _ H5 (fun _ _ => False) I5 (stat I5 n5) st5 go) fun r s6 ⟨u, hr, h6⟩ => ?_
      subst hr
      refine thnF h6 fun _ s7 ⟨x, H7, I7, r7, y7, st7, n7⟩ => ?_
      refine thnF (pg.run _ s7 _ H7 x u _ (I7.pinned (stat I7 n7) (T.obj _ _ st7)) r7 (step x H7 y7)) fun _ s8 ⟨σ8, H8, I8, hw8, q8⟩ => ?_
      refine thnF (pt.run _ s8 σ8 H8 _ I8 q8) fun b s9 ⟨H9, I9, q9⟩ => ?_
      have fin : ∀ {t : Shared} {H' : Hp}, Inv (X.blk s3 H3 scope ce fp) ([] ++ pinsAt fp s7.heap) σ8 H' t → Nx H' → ∃ m, m < n ∧ ∃ i H', Inv (X.blk s3 H3 scope ce fp) [] (wipe σ (own.map (·.2))) H' t ∧ tn i t.heap ∧ (∀ b ∈ fp, H' b = none) ∧ W i m H' := fun {t H'} J nx => by
        obtain ⟨m', hm, w'⟩ := hNx H' nx
        have pin : ∀ b ∈ fp, ∀ o, s7.heap.get? b = some o → t.heap.get? b = some o ∧ H' b = none := fun b hb o e =>
          have z := J.pin (b, o) (List.mem_append_right _ (List.mem_append_right _ (mem_pinsAt hb e)))
          ⟨z.1, z.2.1⟩
        refine ⟨m', hm, i + 1, H', (J.unpinned (pins := [])).weak (by rw [← hw8, wipe_length]) (fun j v e => by rw [← hw8] at e; exact (wipe_some e).1), T.keep _ _ _ st7 fun b hb o e => (pin b hb o e).1, fun b hb => ?_, w'⟩
        obtain ⟨o, e, _⟩ := T.obj _ _ st7 b hb
        exact (pin b hb o e).2
      cases b with
      | true =>
        simp only [if_true] at q9 ⊢
        refine wpAny_mono (pe.run _ s9 σ8 H9 _ (I9.wish _) q9) (fun z s10 ⟨yv, H10, I10, r10, acc, hD10, hz10, nx⟩ => ?_) fun u t r => block_raise hs hf tk I3 cF cL (fun b hb => (f3 b hb).1) r
        exact app_ok (X := X.blk s3 H3 scope ce fp) I10.unwish hD10 hz10 r10 fun s11 I11 => fin I11 nx
      | false =>
        simp only [Bool.false_eq_true, if_false] at q9 ⊢
        exact fin I9 q9
  exact codeAny_compStart_list loop (T.self X.A 0 _ _ _ st4 loop)
theorem pe_lcR {elt tg iter : Expr} {ifs : List Expr} {scope : Scope} {own : List (Str × Nat)} {pos : Pos} {wi : TI} {g : TG} {tt : TT} {te : TE} {E : XK} (hs : X.stack = X.env :: X.outer) (hf : X.env.frame = some X.env.locals) (tk : Takes X (fun cls d _ H => E cls d H)) (calm : X.calm = true) (hN : X.N.Nodup)
    (hi : PI X tg iter wi) (ok : BlkOk X.N X.env.scope scope own) (hg : ∀ (s : Shared) (H : Hp) (C : Addr) (cl : List (Str × Addr)) (fp : List Addr), PG (X.blk s H scope (compEnvC scope cl C X.env) fp) tg g)
    (ht : ∀ (s : Shared) (H : Hp) (C : Addr) (cl : List (Str × Addr)) (fp : List Addr), PTs (X.blk s H scope (compEnvC scope cl C X.env) fp) ifs tt)
    (he : ∀ (s : Shared) (H : Hp) (C : Addr) (cl : List (Str × Addr)) (fp : List Addr), PE ((X.blk s H scope (compEnvC scope cl C X.env) fp).wish (fromBlock (X.blk s H scope (compEnvC scope cl C X.env) fp) X E)) elt te)
    (hfs : ∀ x, foldedSetIterable iter X.env x = pure x := by intro _; rfl) : PE X (.ListComp elt [⟨tg, iter, ifs, 0⟩] scope pos) (tLc wi g tt te (own.map (·.2))) := by
  refine ⟨fun pins s σ H Q I h => ?_⟩
  rw [eval_ListComp]
  refine lc_raise hs hf tk calm hN I hi ok hg ht he hfs h fun D ce t m H' _ J q hn f => ⟨m, hn, fun g sb => ?_⟩
  exact ⟨.ref D, H', J.turned (t' := t.toks) (fun b o hb e => (sb.2 b hb).trans e) f.1 f.2.1 f.2.2.2.1 f.2.2.2.2.1 f.2.2.2.2.2, rfl, q⟩
/-- name = [..], the name a local -/
theorem ps_setLcR {i : Nat} {y : Str} {py : Pos} {elt tg iter : Expr} {ifs : List Expr} {scope : Scope} {own : List (Str × Nat)} {pos spos : Pos} {wi : TI} {g : TG} {tt : TT} {te : TE} {E : XK} (hs : X.stack = X.env :: X.outer) (hf : X.env.frame = some X.env.locals) (tk : Takes X (fun cls d _ H => E cls d H)) (calm : X.calm = true) (hN : X.N.Nodup)
    (hy : X.N[i]? = some y) (hyl : X.env.scope.names.lookup y = some .local) (hsw : swapsWith (.ListComp elt [⟨tg, iter, ifs, 0⟩] scope pos) (some (.Name y py)) spos.line X.env = pure true)
    (hi : PI X tg iter wi) (ok : BlkOk X.N X.env.scope scope own) (hg : ∀ (s : Shared) (H : Hp) (C : Addr) (cl : List (Str × Addr)) (fp : List Addr), PG (X.blk s H scope (compEnvC scope cl C X.env) fp) tg g)
    (ht : ∀ (s : Shared) (H : Hp) (C : Addr) (cl : List (Str × Addr)) (fp : List Addr), PTs (X.blk s H scope (compEnvC scope cl C X.env) fp) ifs tt)
    (he : ∀ (s : Shared) (H : Hp) (C : Addr) (cl : List (Str × Addr)) (fp : List Addr), PE ((X.blk s H scope (compEnvC scope cl C X.env) fp).wish (fromBlock (X.blk s H scope (compEnvC scope cl C X.env) fp) X E)) elt te)
    (hfs : ∀ x, foldedSetIterable iter X.env x = pure x := by intro _; rfl) : PS X (.Assign [.Name y py] (.ListComp elt [⟨tg, iter, ifs, 0⟩] scope pos) spos) (tAsg (tLc wi g tt te (own.map (·.2))) (gName i)) := by
  refine ⟨fun pins s σ H D I h => ?_⟩
  rw [exec_Assign_Name_used _ _ _ _ hsw]
  refine wpAny_bind (wpAny_standAt (wpAny_bind ?_))
  have h : tLc wi g tt te (own.map (·.2)) σ H (fun x H1 => gName i x σ H1 D.nx) := h
  show wpAny _ X.A (do
    let _ ← comprehension (.ListComp elt [⟨tg, iter, ifs, 0⟩] scope pos) scope X.env (firstIterPos [⟨tg, iter, ifs, 0⟩] pos) (newList []) false (eval iter X.env) (some (assign (.Name y py) X.env))) _ _ s
  refine wpAny_bind (thn (lc_raise (Qf := fun _ t => SP X pins D .next t) hs hf tk calm hN I hi ok hg ht he hfs h fun L ce t m H' _ J q hn f => ?_) fun _ t hq => wpAny_pure (wpAny_pure hq))
  show wpAny _ _ (assign (.Name y py) X.env (.ref L)) _ _ _
  refine wpAny_assign_Name (store_ok2 (v := V.ref L) J hN hy (.inl hyl) rfl (fun s2 I2 ⟨a, sb, ha⟩ => ?_) (.inr hyl))
  have haC : ce.locals ≠ a := ha.elim (fun z => by rw [z]; exact f.2.1) fun z e => f.2.2.2.2.1 y a z e.symm
  exact ⟨m, hn.sameBut sb haC, fun h3 sb3 => ⟨_, H', I2.turned (t' := s2.toks) (fun b o hb e => (sb3.2 b hb).trans e) f.1 f.2.1 f.2.2.2.1 f.2.2.2.2.1 f.2.2.2.2.2, q⟩⟩
end
end Fw
end

section
-- part Ft
set_option Elab.async false
set_option linter.all false
set_option maxRecDepth 100000
set_option maxHeartbeats 2000000
/-! Ft: a def that tells which of two own errors came -/
namespace Fw
open PySem PySem.Spec PyProof.Rows L2 LamX
section
variable {X : Cx}
theorem told2_gives {Ng : List Str} {x a e e2 q ret ret2 : Str} {sg : Scope} {g CS CS2 : Addr} {cdg : Value} {j j2 : Nat} {p1 p2 p3 p4 p5 p6 p7 p8 q4 q5 q6 q7 : Pos} (hge : sg.names.lookup e = some .globalImplicit) (hme : X.mg e = some (.ref CS)) (hde : (e == ("__debug__" : Str)) = false)
    (hge2 : sg.names.lookup e2 = some .globalImplicit) (hme2 : X.mg e2 = some (.ref CS2)) (hde2 : (e2 == ("__debug__" : Str)) = false) (h0 : ∀ f : Addr, (L2.start Ng [V.ref f])[0]? = some (some (V.ref f))) :
    GivesTo X Ng x sg g cdg [.Try [.Return (some (.Call (.Name a p1) [] [] p2)) p3]
      [.ExceptHandler (some (.Name e p4)) none [.Return (some (.Constant (.str ret) j p5)) p6] p7, .ExceptHandler (some (.Name e2 q4)) none [.Return (some (.Constant (.str ret2) j2 q5)) q6] q7] [] [] p8] a q (TTold X.K CS ret) := by
  intro f c' s H Q tl act hc h
  have hgl : Gl (cxOf C8.CX0 X.prog X.w X.K X.mg X.base Ng x sg g cdg X.A X.stack s H C8.E0).nox e := hge
  have hgl2 : Gl (cxOf C8.CX0 X.prog X.w X.K X.mg X.base Ng x sg g cdg X.A X.stack s H C8.E0).nox e2 := hge2
  refine ⟨_, pss_one (ps_try_many (X := (cxOf C8.CX0 X.prog X.w X.K X.mg X.base Ng x sg g cdg X.A X.stack s H C8.E0).nox)
      (tb := fun W D σ H => ∃ Ech : XK, (∀ cls d σ' H', Ech cls d H' → W cls d σ' H') ∧ σ[0]? = some (some (.ref f)) ∧ H c' = some (CodeO c' q) ∧ tl Ech H D.rt)
      rfl rfl LamX.takes0 (fun W pn xe tk _ => ?_)
      (.cons (c := .ref CS) ⟨hgl, hde, .inl hme⟩ (fun a oe cls d pn _ _ => pss_one (ps_ret pe_str)) (.cons (c := .ref CS2) ⟨hgl2, hde2, .inl hme2⟩ (fun a oe cls d pn _ _ => pss_one (ps_ret pe_str)) .nil))), ?_⟩
  · refine ⟨fun pins s' σ H' D I h' => ?_⟩
    obtain ⟨Ech, hW, h1, h2, h3⟩ := h'
    have hp := act W pn xe Ech p1 p2 tk hW
    have hq := pss_one (ps_ret (pos := p3) hp)
    exact hq.run pins s' σ H' D I ⟨h1, h2, h3⟩
  · exact ⟨fun cls _ H' => ∃ b, PySem.W.exmOne X.K cls (.ref CS) = some b ∧ (b = true → Q (.str ret) H') ∧ (b = false → False), fun cls d σ' H' ⟨b, e1, e2, e3⟩ => ⟨b, e1, fun hb a _ => e2 hb, fun hb => (e3 hb).elim⟩, h0 f, hc, h⟩
theorem pe_fldK (K : PySem.W.Frag) {e : Expr} {f : Str} {pos : Pos} {ta : TE} (he : PE X e ta) (hb : attributeBase e f X.env (eval e X.env) = eval e X.env) (hK : X.K = K) : PE X (.Attribute e f pos) (tFld K ta f) := by
  subst hK
  exact pe_fld he hb
end
section
variable {σ : L2.St} {H : Hp} {Q : VK} {ta tb : TE}
theorem w_andV (h : ta σ H fun x H1 => ∃ c, x = .bl c ∧ if c = true then tb σ H1 Q else Q (.bl false) H1) : tAndV ta tb σ H Q := h
theorem w_orV (h : ta σ H fun x H1 => ∃ c, x = .bl c ∧ if c = true then Q (.bl true) H1 else tb σ H1 Q) : tOrV ta tb σ H Q := h
theorem w_notV (h : ta σ H fun x H1 => ∃ c, x = .bl c ∧ Q (.bl (!c)) H1) : tNotV ta σ H Q := h
end
end Fw
end

section
-- part Fz3
set_option Elab.async false
set_option linter.all false
set_option maxRecDepth 100000
set_option maxHeartbeats 2000000
/-! Fz3: zip of two tuples and a list; len(range(a, b, c)) -/
namespace Fw
open PySem PySem.Spec PyProof.Rows L2
/-- two tuples and a list as they stand at each turn, the items in new tuples -/
def Itz3 (K : PySem.W.Frag) (a b c : Addr) : It :=
  ⟨fun i H => ∃ (xs ys zs : List V) (x y z : V), SqT K H a xs ∧ SqT K H b ys ∧ SqL K H c zs ∧ xs[i]? = some x ∧ ys[i]? = some y ∧ zs[i]? = some z,
    fun i H v H' => ∃ T x y z, v = .ref T ∧ H T = none ∧ H' = upd H T (.tup [x, y, z]) ∧ (∀ xs, SqT K H a xs → xs[i]? = some x) ∧ (∀ ys, SqT K H b ys → ys[i]? = some y) ∧ ∀ zs, SqL K H c zs → zs[i]? = some z,
    fun i H => ∃ xs ys zs : List V, SqT K H a xs ∧ SqT K H b ys ∧ SqL K H c zs ∧ i = xs.length ∧ xs.length = ys.length ∧ ys.length = zs.length⟩
theorem sub6 {z TI TO i1 i2 i3 d : Addr} (h : d ∉ [z, TI, TO, i1, i2, i3]) : d ∉ [z, TO, i1, i2, i3] := fun q => h (by
  simp only [List.mem_cons, List.not_mem_nil, or_false] at q ⊢
  rcases q with q | q | q | q | q <;> simp [q])
theorem turn_zip3 {P : Program} {w : World} {K : PySem.W.Frag} {elts : List Expr} {kk : Nat} {tpos : Pos} {a b c z TI TO i1 i2 i3 : Addr} (S : ZipSep3 z TI TO i1 i2 i3 [i1, a] [i2, b] [i3, c]) (na : a ≠ i1) (nb : b ≠ i2) (nc : c ≠ i3) :
    Turn P w K (.Tuple elts kk tpos) (Itz3 K a b c) [z, TI, TO, i1, i2, i3] z (fun i h => IsZip h z TI TO .none ∧ IsTupOf3 h TI (.ref i1) (.ref i2) (.ref i3) ∧ (∃ x y u, IsTupOf3 h TO x y u) ∧ h.IsTupleIter i1 a i ∧ h.IsTupleIter i2 b i ∧ h.IsListIter i3 c i) where
  mem := by simp
  obj := fun i h st d hd => by
    obtain ⟨hz, hTI, ⟨x, y, u, hTO⟩, ⟨o1, e1, _, d1⟩, ⟨o2, e2, _, d2⟩, ⟨o3, e3, _, d3⟩⟩ := st
    have e' : d = z ∨ d = TI ∨ d = TO ∨ d = i1 ∨ d = i2 ∨ d = i3 := by simpa using hd
    rcases e' with q | q | q | q | q | q
    · rw [q]; exact ⟨_, hz, fun v q => nomatch q⟩
    · rw [q]; exact ⟨_, hTI, fun v q => nomatch q⟩
    · rw [q]; exact ⟨_, hTO, fun v q => nomatch q⟩
    · rw [q]; exact ⟨o1, e1, fun v q => by rw [d1] at q; cases q⟩
    · rw [q]; exact ⟨o2, e2, fun v q => by rw [d2] at q; cases q⟩
    · rw [q]; exact ⟨o3, e3, fun v q => by rw [d3] at q; cases q⟩
  keep := fun i h h' st k => by
    obtain ⟨hz, hTI, ⟨x, y, u, hTO⟩, h1, h2, h3⟩ := st
    exact ⟨k z (by simp) _ hz, k TI (by simp) _ hTI, ⟨x, y, u, k TO (by simp) _ hTO⟩, h1.at fun o q => k i1 (by simp) o q, h2.at fun o q => k i2 (by simp) o q, h3.at fun o q => k i3 (by simp) o q⟩
  item := by
    intro X hP hw hK hc i pins s σ H E I hf st hg
    subst hP hw hK
    obtain ⟨hz, hTI, hTO, h1, h2, h3⟩ := st
    obtain ⟨xs, ys, zs, x, y, v, hqx, hqy, hqz, hx, hy, hv⟩ := hg
    obtain ⟨its, rv, p, _⟩ := I.tuple hqx
    obtain ⟨its2, rv2, p2, _⟩ := I.tuple hqy
    obtain ⟨its3, rv3, p3, _⟩ := I.list hqz
    obtain ⟨u, hu, ru⟩ := rv.get hx
    obtain ⟨u2, hu2, ru2⟩ := rv2.get hy
    obtain ⟨u3, hu3, ru3⟩ := rv3.get hv
    have hh : X.A.in1.handled = none := I.ok.hd hc
    have W := WalksT.zipD3 (prog := X.prog) (w := X.w) (A := X.A) S (Draws.tuple hh i1 a na its.toArray) (Draws.tuple hh i2 b nb its2.toArray) (Draws.list hh i3 c nc its3.toArray)
    have l1 : i < its.length := (List.getElem?_eq_some_iff.mp hu).1
    have l2 : i < its2.length := (List.getElem?_eq_some_iff.mp hu2).1
    have l3 : i < its3.length := (List.getElem?_eq_some_iff.mp hu3).1
    refine W.item i s _ _ (by simp only [List.size_toArray]; omega) ⟨hz, hTI, hTO, ⟨h1, p⟩, ⟨h2, p2⟩, ⟨h3, p3.isList⟩⟩ fun T vals h' tk hP hsz hT hmid hk => ?_
    refine ⟨_, rfl, W.go _ _ _ i T { s with heap := h', toks := tk } _ _ hmid fun h'' st'' hk'' => ?_⟩
    obtain ⟨x1, x2, x3, q1, q2, q3, rfl⟩ := hP
    have q1' : its[i]? = some x1 := by simpa using q1
    have q2' : its2[i]? = some x2 := by simpa using q2
    have q3' : its3[i]? = some x3 := by simpa using q3
    rw [hu] at q1'
    rw [hu2] at q2'
    rw [hu3] at q3'
    cases q1'
    cases q2'
    cases q3'
    have hT2 : h''.IsTuple T #[u, u2, u3] := hT.at fun o e => hk'' T o (W.apart i T h' hmid) e
    have new : ObjOk X.prog X.w (upd H T (.tup [x, y, v])) h'' T (.tup [x, y, v]) := ⟨by show 3 ≤ sizeLine; decide, [u, u2, u3], .cons ru (.cons ru2 (.cons ru3 .nil)), hT2⟩
    have nin : ∀ d, d ∉ [z, TI, TO, i1, i2, i3] → d ∉ [z, TO, i1, i2, i3] := fun d hd => sub6 hd
    have I1 : Inv X pins σ (upd H T (.tup [x, y, v])) { s with heap := h'', toks := tk } :=
      I.turnedNew (t' := tk) (ch := [z, TI, TO, i1, i2, i3]) (fun d o hb q => hk'' d o (nin d hb) (hk d o (nin d hb) q)) hf hsz new
    refine ⟨.ref T, _, I1, rfl, ⟨_, x, y, v, rfl, I.hok.fresh hsz, rfl, fun l hl => by rw [I.tuple_inj hl hqx]; exact hx, fun l hl => by rw [I.tuple_inj hl hqy]; exact hy, fun l hl => by rw [I.list_inj hl hqz]; exact hv⟩, ⟨st''.1, st''.2.1, st''.2.2.1, st''.2.2.2.1.1, st''.2.2.2.2.1.1, st''.2.2.2.2.2.1⟩, fun d hd => ?_⟩
    have hlt : d < s.heap.objs.size := by
      have e' : d = z ∨ d = TI ∨ d = TO ∨ d = i1 ∨ d = i2 ∨ d = i3 := by simpa using hd
      obtain ⟨a1, a2, a3, hTO⟩ := hTO
      rcases e' with q | q | q | q | q | q
      · rw [q]; exact Heap.lt_size hz
      · rw [q]; exact Heap.lt_size hTI
      · rw [q]; exact Heap.lt_size hTO
      · rw [q]; obtain ⟨_, e1, _⟩ := h1; exact Heap.lt_size e1
      · rw [q]; obtain ⟨_, e2, _⟩ := h2; exact Heap.lt_size e2
      · rw [q]; obtain ⟨_, e3, _⟩ := h3; exact Heap.lt_size e3
    rw [upd_ne (Nat.ne_of_lt (Nat.lt_of_lt_of_le hlt hsz))]
    exact (hf d hd).1
  done := by
    intro X hP hw hK hc i pins s σ H E I hf st hg
    subst hP hw hK
    obtain ⟨hz, hTI, hTO, h1, h2, h3⟩ := st
    obtain ⟨xs, ys, zs, hqx, hqy, hqz, rfl, e1, e2⟩ := hg
    obtain ⟨its, rv, p, _⟩ := I.tuple hqx
    obtain ⟨its2, rv2, p2, _⟩ := I.tuple hqy
    obtain ⟨its3, rv3, p3, _⟩ := I.list hqz
    have hh : X.A.in1.handled = none := I.ok.hd hc
    have l1 := rv.length
    have l2 := rv2.length
    have l3 := rv3.length
    have W := WalksT.zipD3 (prog := X.prog) (w := X.w) (A := X.A) S (Draws.tuple hh i1 a na its.toArray) (Draws.tuple hh i2 b nb its2.toArray) (Draws.list hh i3 c nc its3.toArray)
    have en : min (min its.toArray.size its2.toArray.size) its3.toArray.size = xs.length := by simp only [List.size_toArray]; omega
    refine W.done s _ _ (by rw [en]; exact ⟨hz, hTI, hTO, ⟨h1, p⟩, ⟨h2, p2⟩, ⟨h3, p3.isList⟩⟩) fun h' tk hk => ⟨rfl, I.turnedL (t' := tk) (ch := [z, TI, TO, i1, i2, i3]) (fun d o hb q => hk d o (sub6 hb) q) hf⟩
  self := fun A i s Q E st h => wpAny_pyIter_zip st.1 h
def iZip3 (K : PySem.W.Frag) (ta : TA) : TI := fun σ H R => ta σ H fun vs H1 => ∃ a b c xs ys zs, vs = [.ref a, .ref b, .ref c] ∧ SqT K H1 a xs ∧ SqT K H1 b ys ∧ SqL K H1 c zs ∧ R (Itz3 K a b c) H1
theorem pi_zip3 {X : Cx} {e e2 e3 : Expr} {ta : TA} {p pos tpos : Pos} {elts : List Expr} {kk : Nat} (hg : Gl X "zip") (hm : X.mg "zip" = none) (ha : PA X [e, e2, e3] ta)
    (hs : starEach [e, e2, e3] X.env = (false, eval e X.env) :: starEach [e2, e3] X.env := by rfl) (hpl : (backTo pos (starEach [e2, e3] X.env)).any (·.1) = false := by rfl) :
    PI X (.Tuple elts kk tpos) (.Call (.Name "zip" p) [e, e2, e3] [] pos) (iZip3 X.K ta) := by
  refine ⟨fun pins s σ H R I h => ?_⟩
  refine Call_ (ld_blt I hg hm PyProof.Rows.boot_zip (PyProof.Rows.callWith_type1 (thn (ha.run pos pins s σ H _ I h) fun us s1 ⟨vs, H1, I1, r1, q1⟩ => ?_) hs hpl))
  obtain ⟨a, b, c, xs, ys, zs, ex, hqx, hqy, hqz, q⟩ := q1
  subst ex
  cases r1 with
  | cons r rr =>
    cases rr with
    | cons r' rr =>
      cases rr with
      | cons r'' rr =>
        cases rr
        cases r
        cases r'
        cases r''
        obtain ⟨its, rv, p1, _⟩ := I1.tuple hqx
        obtain ⟨its2, rv2, p2, _⟩ := I1.tuple hqy
        obtain ⟨its3, rv3, p3, _⟩ := I1.list hqz
        have la : a < s1.heap.objs.size := by obtain ⟨o, ho, _⟩ := id p1; exact Heap.lt_size ho
        have lb : b < s1.heap.objs.size := by obtain ⟨o, ho, _⟩ := id p2; exact Heap.lt_size ho
        have lc : c < s1.heap.objs.size := p3.lt
        have one : ∀ {x N : Addr}, x < N → ∀ d ∈ [x], d < N := fun {x N} h d hd => by rw [List.mem_singleton.mp hd]; exact h
        have S := zip_sep3 (N := s1.heap.objs.size) (one la) (one lb) (one lc)
        refine zip_begins3 (begins_tuple a its.toArray) (begins_tuple b its2.toArray) (begins_list c its3.toArray) p1 p2 p3.isList fun h' hz hTI hTO g1 g2 g3 hsz hk => wpAny_pyIter_zip hz ?_
        have I2 : Inv X pins σ H1 { s1 with heap := h' } := I1.kept (t' := s1.toks) hk
        refine ⟨_, _, _, _, H1, rfl, I2, turn_zip3 (K := X.K) (a := a) (b := b) (c := c) S (Nat.ne_of_lt la) (Nat.ne_of_lt (Nat.lt_of_lt_of_le lb (Nat.le_add_right _ 1))) (Nat.ne_of_lt (Nat.lt_of_lt_of_le lc (Nat.le_add_right _ 2))), ⟨hz, hTI, ⟨_, _, _, hTO⟩, ⟨_, g1, rfl, rfl⟩, ⟨_, g2, rfl, rfl⟩, ⟨_, g3, rfl, rfl⟩⟩, fun d hdm => ?_, q⟩
        have hle : s1.heap.objs.size ≤ d := by
          simp only [List.mem_cons, List.not_mem_nil, or_false] at hdm
          rcases hdm with q | q | q | q | q | q <;> rw [q] <;> first | exact Nat.le_refl _ | exact Nat.le_add_right _ _
        exact I1.fpOk hle (I1.hok.fresh hle)

def tLenR3 (ta : TA) : TE := fun σ H Q => ta σ H fun vs H1 => ∃ (i j c : Int) (n : Nat), vs = [.int i, .int j, .int c] ∧ RgC i j c n ∧ (n : Int) < 2 ^ 63 ∧ Q (.int (n : Int)) H1
/-- len(range(a, b, c)) -/
theorem pe_lenR3 {X : Cx} {a b c : Expr} {ta : TA} {p p2 pos pos2 : Pos} (hgl : Gl X "len") (hml : X.mg "len" = none) (hg : Gl X "range") (hm : X.mg "range" = none) (ha : PA X [a, b, c] ta)
    (hs1 : starEach [.Call (.Name "range" p2) [a, b, c] [] pos2] X.env = (false, eval (.Call (.Name "range" p2) [a, b, c] [] pos2) X.env) :: starEach [] X.env := by rfl) (hpl1 : (backTo pos (starEach [] X.env)).any (·.1) = false := by rfl)
    (hs : starEach [a, b, c] X.env = (false, eval a X.env) :: starEach [b, c] X.env := by rfl) (hpl : (backTo pos2 (starEach [b, c] X.env)).any (·.1) = false := by rfl) :
    PE X (.Call (.Name "len" p) [.Call (.Name "range" p2) [a, b, c] [] pos2] [] pos) (tLenR3 ta) := by
  refine ⟨fun pins s σ H Q I h => ?_⟩
  refine wpAny_Call_Name_kw (ld_blt I hgl hml PySem.boot_len ?_)
  refine PyProof.Rows.callWith_builtin1 ?_ hs1 hpl1
  rw [hs1]
  show wpAny _ _ (spliced ((false, eval (.Call (.Name "range" p2) [a, b, c] [] pos2) X.env) :: backTo pos (starEach [] X.env))) _ _ s
  refine Calls.spliced_cons ?_
  refine Call_ (ld_blt I hg hm boot_range (PyProof.Rows.callWith_type1 (thn (ha.run pos2 pins s σ H _ I h) fun us s1 ⟨vs, H1, I1, r1, q1⟩ => ?_) hs hpl))
  obtain ⟨i, j, k, n, e, ⟨c0, c1, c2, c3⟩, hn, q⟩ := q1
  subst e
  cases r1 with
  | cons r rr =>
    cases rr with
    | cons r' rr =>
      cases rr with
      | cons r'' rr =>
        cases rr
        obtain ⟨t, rfl⟩ := r
        obtain ⟨t', rfl⟩ := r'
        obtain ⟨t'', rfl⟩ := r''
        refine call_range_3 c0 ?_ (.inl (PyProof.noPylong_small c1))
        have I2 : Inv X pins σ H1 { s1 with heap := s1.heap.push { cls := .type "range", data := .fields #[.int i t, .int j t', .int k t''] } } := I1.kept (t' := s1.toks) fun b o e => Heap.get?_push_of_some _ e
        refine Calls.spliced_nil ?_
        exact call_len_range (IsRange.new ..) c3 hn ⟨.int (n : Int), H1, I2.tok _, ⟨_, rfl⟩, q⟩
end Fw
end

section
-- part Fz4
set_option Elab.async false
set_option linter.all false
set_option maxRecDepth 100000
set_option maxHeartbeats 2000000
/-! Fz4: enumerate of a tuple -/
namespace Fw
open PySem PySem.Spec PyProof.Rows L2
open AutoSeq1 (wpAny_loadPart')
theorem meets_enum1 {v : Value} {o : Obj} {G : Heap → Prop} (B : Begins v o G) :
    Meets (Builtin.«enumerate.__new__» ⟨[.type "enumerate", v], []⟩) (fun _ R s => G s.heap ∧
      R (.ok (.ret (.ref (s.heap.push o).objs.size))) { s with heap := (s.heap.push o).push { cls := .type "enumerate", data := .fields #[.none, .bool false, .ref s.heap.objs.size, rawInt 0, .none, .none] } }) :=
  .of_wp fun prog w A R s h => by
    obtain ⟨hp, g, d, tk, os⟩ := s
    obtain ⟨h1, h⟩ := h
    have hsub := sub_enumerate
    have q1 : ∀ {A' : Around} {E : Value → Shared → Prop} {Q : Value → Shared → Prop}, Q (.ref hp.objs.size) ⟨hp.push o, g, d, tk, os⟩ → wpAny (model prog w) A' (pyIter v) Q E ⟨hp, g, d, tk, os⟩ :=
      fun q => B.iter prog w _ _ ⟨hp, g, d, tk, os⟩ _ h1 q
    wp_walk using q1
    refine wpAny_stack_any fun st => wpAny_pure ?_
    split
    · rename_i c _ _ _ _ _
      cases (c == Value.type "enumerate")
      · wp_walk using q1
        exact ⟨_, rfl, h⟩
      · wp_walk using q1
        exact ⟨_, rfl, h⟩
    · wp_walk using q1
      exact ⟨_, rfl, h⟩
section
variable {prog : Program} {w : World} {A : Around} {E : Value → Shared → Prop} {s : Shared}
theorem enum_begins1 {v : Value} {o : Obj} {G : Heap → Prop} {Q : Value → Shared → Prop} (B : Begins v o G) (h1 : G s.heap)
    (h : ∀ h', IsEnum h' (s.heap.objs.size + 1) s.heap.objs.size 0 .none → h'.get? s.heap.objs.size = some o → h'.objs.size = s.heap.objs.size + 2 →
      (∀ b o, s.heap.get? b = some o → h'.get? b = some o) → Q (.ref (s.heap.objs.size + 1)) { s with heap := h' }) :
    wpAny (model prog w) A (call (.type "enumerate") [v]) Q E s := by
  refine callType_new F.called_enumerate (by decide) (F.typeCall_enumerate_1 _) (F.newCall_enumerate_1 _) (fun obj => F.args_object_init_2 obj _) F.entry_enumerate_new (meets_enum1 B) ⟨h1, ?_⟩
  have hz : (s.heap.push o).objs.size = s.heap.objs.size + 1 := Heap.size_push ..
  show _ ∧ _
  rw [hz]
  have he : IsEnum ((s.heap.push o).push { cls := .type "enumerate", data := .fields #[.none, .bool false, .ref s.heap.objs.size, rawInt 0, .none, .none] }) (s.heap.objs.size + 1) s.heap.objs.size 0 .none := by
    have := Heap.get?_push_size (s.heap.push o) (o := { cls := .type "enumerate", data := .fields #[.none, .bool false, .ref s.heap.objs.size, rawInt 0, .none, .none] }) rfl
    rw [hz] at this
    exact this
  exact ⟨⟨_, he, rfl⟩, h _ he (Heap.get?_push_of_some _ (Heap.get?_push_size _ B.free)) (by rw [Heap.size_push, hz]) fun b o x => Heap.get?_push_of_some _ (Heap.get?_push_of_some _ x)⟩
end
/-- the tuple at a, each item in a new pair with its number -/
def IteT (K : PySem.W.Frag) (a : Addr) : It :=
  ⟨fun i H => ∃ (xs : List V) (x : V), SqT K H a xs ∧ xs[i]? = some x, fun i H v H' => ∃ T x, v = .ref T ∧ H T = none ∧ H' = upd H T (.tup [.int (i : Nat), x]) ∧ ∀ xs, SqT K H a xs → xs[i]? = some x, fun i H => ∃ xs : List V, SqT K H a xs ∧ xs.length = i⟩
theorem turn_enumT {P : Program} {w : World} {K : PySem.W.Frag} {elts : List Expr} {kk : Nat} {tpos : Pos} {a e it : Addr} (hei : e ≠ it) (hea : e ≠ a) (hai : a ≠ it) :
    Turn P w K (.Tuple elts kk tpos) (IteT K a) [e, it] e (fun i h => (∃ old, IsEnum h e it ((i : Nat) : Int) old) ∧ h.IsTupleIter it a i) where
  mem := by simp
  obj := fun i h st d hd => by
    obtain ⟨⟨old, he⟩, ⟨o1, e1, _, d1⟩⟩ := st
    have e' : d = e ∨ d = it := by simpa using hd
    rcases e' with q | q
    · rw [q]; exact ⟨_, he, fun v q => nomatch q⟩
    · rw [q]; exact ⟨o1, e1, fun v q => by rw [d1] at q; cases q⟩
  keep := fun i h h' st k => by
    obtain ⟨⟨old, he⟩, h1⟩ := st
    exact ⟨⟨old, k e (by simp) _ he⟩, h1.at fun o q => k it (by simp) o q⟩
  item := by
    intro X hP hw hK hc i pins s σ H E I hf st hg
    subst hP hw hK
    obtain ⟨⟨old, he⟩, h1⟩ := st
    obtain ⟨xs, x, hqx, hx⟩ := hg
    obtain ⟨its, rv, p, _⟩ := I.tuple hqx
    obtain ⟨u, hu, ru⟩ := rv.get hx
    have hh : X.A.in1.handled = none := I.ok.hd hc
    have W := WalksT.enumerateD (prog := X.prog) (w := X.w) (A := X.A) (Draws.tuple hh it a hai its.toArray) e hei (by simp; exact ⟨hei, hea⟩) (by simp)
    have l1 : i < its.length := (List.getElem?_eq_some_iff.mp hu).1
    refine W.item i s _ _ (by simp only [List.size_toArray]; omega) ⟨⟨old, he⟩, ⟨h1, p⟩⟩ fun T vals h' tk hP hsz hT hmid hk => ?_
    refine ⟨_, rfl, W.go _ _ _ i T { s with heap := h', toks := tk } _ _ hmid fun h'' st'' hk'' => ?_⟩
    obtain ⟨t, x1, q1, rfl⟩ := hP
    have q1' : its[i]? = some x1 := by simpa using q1
    rw [hu] at q1'
    cases q1'
    have hT2 : h''.IsTuple T #[.int (i : Int) t, u] := hT.at fun o e => hk'' T o (W.apart i T h' hmid) e
    have new : ObjOk X.prog X.w (upd H T (.tup [.int (i : Nat), x])) h'' T (.tup [.int (i : Nat), x]) := ⟨by show 2 ≤ sizeLine; decide, [.int (i : Int) t, u], .cons ⟨t, rfl⟩ (.cons ru .nil), hT2⟩
    have I1 : Inv X pins σ (upd H T (.tup [.int (i : Nat), x])) { s with heap := h'', toks := tk } :=
      I.turnedNew (t' := tk) (ch := [e, it]) (fun d o hb q => hk'' d o hb (hk d o hb q)) hf hsz new
    refine ⟨.ref T, _, I1, rfl, ⟨_, x, rfl, I.hok.fresh hsz, rfl, fun l hl => by rw [I.tuple_inj hl hqx]; exact hx⟩, ⟨st''.1, st''.2.1⟩, fun d hd => ?_⟩
    have hlt : d < s.heap.objs.size := by
      have e' : d = e ∨ d = it := by simpa using hd
      rcases e' with q | q
      · rw [q]; exact Heap.lt_size he
      · rw [q]; obtain ⟨_, e1, _⟩ := h1; exact Heap.lt_size e1
    rw [upd_ne (Nat.ne_of_lt (Nat.lt_of_lt_of_le hlt hsz))]
    exact (hf d hd).1
  done := by
    intro X hP hw hK hc i pins s σ H E I hf st hg
    subst hP hw hK
    obtain ⟨⟨old, he⟩, h1⟩ := st
    obtain ⟨xs, hqx, rfl⟩ := hg
    obtain ⟨its, rv, p, _⟩ := I.tuple hqx
    have hh : X.A.in1.handled = none := I.ok.hd hc
    have l1 := rv.length
    have W := WalksT.enumerateD (prog := X.prog) (w := X.w) (A := X.A) (Draws.tuple hh it a hai its.toArray) e hei (by simp; exact ⟨hei, hea⟩) (by simp)
    have en : its.toArray.size = xs.length := by simp only [List.size_toArray]; omega
    refine W.done s _ _ (by rw [en]; exact ⟨⟨old, he⟩, ⟨h1, p⟩⟩) fun h' tk hk => ⟨rfl, I.turnedL (t' := tk) (ch := [e, it]) (fun d o hb q => hk d o hb q) hf⟩
  self := fun A i s Q E st h => by
    obtain ⟨⟨old, he⟩, _⟩ := st
    exact wpAny_pyIter_enum he h
def iEnumT (K : PySem.W.Frag) (ta : TA) : TI := fun σ H R => ta σ H fun vs H1 => ∃ a xs, vs = [.ref a] ∧ SqT K H1 a xs ∧ R (IteT K a) H1
theorem pi_enumT {X : Cx} {e : Expr} {ta : TA} {p pos tpos : Pos} {elts : List Expr} {kk : Nat} (hg : Gl X "enumerate") (hm : X.mg "enumerate" = none) (ha : PA X [e] ta) (hs : starEach [e] X.env = [(false, eval e X.env)] := by rfl) :
    PI X (.Tuple elts kk tpos) (.Call (.Name "enumerate" p) [e] [] pos) (iEnumT X.K ta) := by
  refine ⟨fun pins s σ H R I h => ?_⟩
  refine Call_ (ld_blt I hg hm boot_enumerate (PyProof.Rows.callWith_type1 (thn (ha.run pos pins s σ H _ I h) fun us s1 ⟨vs, H1, I1, r1, q1⟩ => ?_) hs rfl))
  obtain ⟨a, xs, ex, hq, q⟩ := q1
  subst ex
  cases r1 with
  | cons r rr =>
    cases rr
    cases r
    obtain ⟨its, rv, p1, _⟩ := I1.tuple hq
    have la : a < s1.heap.objs.size := by obtain ⟨o, ho, _⟩ := id p1; exact Heap.lt_size ho
    refine enum_begins1 (begins_tuple a its.toArray) p1 fun h' he g1 hsz hk => wpAny_pyIter_enum he ?_
    have I2 : Inv X pins σ H1 { s1 with heap := h' } := I1.kept (t' := s1.toks) hk
    refine ⟨_, _, _, _, H1, rfl, I2, turn_enumT (K := X.K) (a := a) (Nat.succ_ne_self _) (Nat.ne_of_gt (Nat.lt_succ_of_lt la)) (Nat.ne_of_lt la), ⟨⟨.none, he⟩, ⟨_, g1, rfl, rfl⟩⟩, fun d hdm => ?_, q⟩
    have hle : s1.heap.objs.size ≤ d := by
      simp only [List.mem_cons, List.not_mem_nil, or_false] at hdm
      rcases hdm with q | q <;> rw [q] <;> first | exact Nat.le_refl _ | exact Nat.le_add_right _ _
    exact I1.fpOk hle (I1.hok.fresh hle)
section
variable {K : PySem.W.Frag} {σ : L2.St} {H : Hp} {g : TG} {tb : TS} {D : Ends} {ta : TA}
theorem w_iEnumT {R : It → Hp → Prop} (h : ta σ H fun vs H1 => ∃ a xs, vs = [.ref a] ∧ SqT K H1 a xs ∧ R (IteT K a) H1) : iEnumT K ta σ H R := h
theorem w_iZip3 {R : It → Hp → Prop} (h : ta σ H fun vs H1 => ∃ a b c xs ys zs, vs = [.ref a, .ref b, .ref c] ∧ SqT K H1 a xs ∧ SqT K H1 b ys ∧ SqL K H1 c zs ∧ R (Itz3 K a b c) H1) : iZip3 K ta σ H R := h
theorem w_par {i j : Nat} {D : Ends} (h : ta σ H fun vs H1 => ∃ v w, vs = [v, w] ∧ D.nx ((σ.set i (some v)).set j (some w)) H1) : tPar i j ta D σ H := h
theorem w_lenR3 {Q : VK} (h : ta σ H fun vs H1 => ∃ (i j c : Int) (n : Nat), vs = [.int i, .int j, .int c] ∧ RgC i j c n ∧ (n : Int) < 2 ^ 63 ∧ Q (.int (n : Int)) H1) : tLenR3 ta σ H Q := h
theorem for_enumT {a : Addr} {xs : List V} (Pv : Nat → L2.St → Hp → Prop) (h0 : Pv 0 σ H) (hq : ∀ i σ H, Pv i σ H → SqT K H a xs)
    (hs : ∀ (i : Nat) (x : V) (T : Addr) (σ : L2.St) (H : Hp), xs[i]? = some x → Pv i σ H → H T = none → g (.ref T) σ (upd H T (.tup [.int (i : Nat), x])) fun σ2 H2 => tb { D with nx := Pv (i + 1), ct := Pv (i + 1), bk := D.nx } σ2 H2)
    (hd : ∀ σ H, Pv xs.length σ H → D.nx σ H) :
    ∃ W : Nat → Nat → L2.St → Hp → Prop, (∃ m, W 0 m σ H) ∧ ∀ i m σ H, W i m σ H →
      ((IteT K a).stop i H ∧ D.nx σ H) ∨ ((IteT K a).go i H ∧ ∃ N : L2.St → Hp → Prop, (∀ σ' H', N σ' H' → ∃ m', m' < m ∧ W (i + 1) m' σ' H') ∧ ∀ v H', (IteT K a).yld i H v H' → g v σ H' fun σ2 H2 => tb { D with nx := N, ct := N, bk := D.nx } σ2 H2) := by
  refine ⟨fun i m σ H => m = xs.length - i ∧ i ≤ xs.length ∧ Pv i σ H, ⟨_, rfl, Nat.zero_le _, h0⟩, ?_⟩
  rintro i m σ H ⟨rfl, hi, p⟩
  by_cases hlt : i < xs.length
  · refine .inr ⟨⟨xs, xs[i], hq i σ H p, List.getElem?_eq_getElem hlt⟩, Pv (i + 1), fun σ' H' p' => ⟨xs.length - (i + 1), by omega, rfl, hlt, p'⟩, ?_⟩
    rintro v H' ⟨T, x, rfl, hT, rfl, hx⟩
    exact hs i x T σ H (hx xs (hq i σ H p)) p hT
  · have e : i = xs.length := by omega
    subst e
    exact .inl ⟨⟨xs, hq _ σ H p, rfl⟩, hd σ H p⟩
theorem for_zip3 {a b c : Addr} {xs ys zs : List V} (e1 : xs.length = ys.length) (e2 : ys.length = zs.length) (Pv : Nat → L2.St → Hp → Prop) (h0 : Pv 0 σ H) (hq : ∀ i σ H, Pv i σ H → SqT K H a xs ∧ SqT K H b ys ∧ SqL K H c zs)
    (hs : ∀ (i : Nat) (x y z : V) (T : Addr) (σ : L2.St) (H : Hp), xs[i]? = some x → ys[i]? = some y → zs[i]? = some z → Pv i σ H → H T = none → g (.ref T) σ (upd H T (.tup [x, y, z])) fun σ2 H2 => tb { D with nx := Pv (i + 1), ct := Pv (i + 1), bk := D.nx } σ2 H2)
    (hd : ∀ σ H, Pv xs.length σ H → D.nx σ H) :
    ∃ W : Nat → Nat → L2.St → Hp → Prop, (∃ m, W 0 m σ H) ∧ ∀ i m σ H, W i m σ H →
      ((Itz3 K a b c).stop i H ∧ D.nx σ H) ∨ ((Itz3 K a b c).go i H ∧ ∃ N : L2.St → Hp → Prop, (∀ σ' H', N σ' H' → ∃ m', m' < m ∧ W (i + 1) m' σ' H') ∧ ∀ v H', (Itz3 K a b c).yld i H v H' → g v σ H' fun σ2 H2 => tb { D with nx := N, ct := N, bk := D.nx } σ2 H2) := by
  refine ⟨fun i m σ H => m = xs.length - i ∧ i ≤ xs.length ∧ Pv i σ H, ⟨_, rfl, Nat.zero_le _, h0⟩, ?_⟩
  rintro i m σ H ⟨rfl, hi, p⟩
  by_cases hlt : i < xs.length
  · have q := hq i σ H p
    refine .inr ⟨⟨xs, ys, zs, xs[i], ys[i], zs[i], q.1, q.2.1, q.2.2, List.getElem?_eq_getElem hlt, List.getElem?_eq_getElem (by omega), List.getElem?_eq_getElem (by omega)⟩, Pv (i + 1), fun σ' H' p' => ⟨xs.length - (i + 1), by omega, rfl, hlt, p'⟩, ?_⟩
    rintro v H' ⟨T, x, y, z, rfl, hT, rfl, hx, hy, hz⟩
    exact hs i x y z T σ H (hx xs q.1) (hy ys q.2.1) (hz zs q.2.2) p hT
  · have e : i = xs.length := by omega
    subst e
    have q := hq _ σ H p
    exact .inl ⟨⟨xs, ys, zs, q.1, q.2.1, q.2.2, rfl, e1, e2⟩, hd σ H p⟩
end
section
variable {H : Hp} {Q : VK}
theorem w_neI {a b : Int} (q : Q (.bl (!decide (a = b))) H) : rNe (.int a) (.int b) H Q := ⟨rfl, by rw [show (decide (V.int a = V.int b)) = decide (a = b) by simp]; exact q⟩
theorem bl_eq {a b : Bool} : (decide (V.bl a = V.bl b)) = (a == b) := by cases a <;> cases b <;> rfl
theorem w_eqB {a b : Bool} (q : Q (.bl (a == b)) H) : rEq (.bl a) (.bl b) H Q := ⟨rfl, by rw [bl_eq]; exact q⟩
theorem w_neB {a b : Bool} (q : Q (.bl (a != b)) H) : rNe (.bl a) (.bl b) H Q := ⟨rfl, by rw [bl_eq]; exact q⟩
end
section
variable {K : PySem.W.Frag} {σ : L2.St} {H : Hp} {te : TE} {vs : List Nat} {tt : TT} {g : TG}
/-- a comprehension over a list, its end told by the new list's place -/
theorem w_lcLn {p : Addr} {xs : List V} {R : Addr → Hp → Prop} (hS : SqL K H p xs) (h : ∀ D, H D = none → ∃ Pv : Nat → Hp → Prop, Pv 0 (upd H D (.lst [])) ∧ (∀ i H2, i ≤ xs.length → Pv i H2 → SqL K H2 p xs) ∧
      (∀ i x H2, xs[i]? = some x → Pv i H2 → g x (wipe σ vs) H2 fun σ2 H2 => wipe σ2 vs = wipe σ vs ∧ tt σ2 H2 fun b H3 =>
        if b = true then te σ2 H3 fun y H4 => ∃ acc, H4 D = some (.lst acc) ∧ acc.length < sizeLine ∧ Pv (i + 1) (upd H4 D (.lst (acc ++ [y]))) else Pv (i + 1) H3) ∧ (∀ H2, Pv xs.length H2 → R D H2)) :
    ∃ a, V.ref p = .ref a ∧ (∃ xs, SqL K H a xs) ∧ ∀ D, H D = none → ∃ W : Nat → Nat → Hp → Prop, (∃ m, W 0 m (upd H D (.lst []))) ∧ ∀ i m H, W i m H →
      ((Itl K a).stop i H ∧ R D H) ∨ ((Itl K a).go i H ∧ ∃ Nx : Hp → Prop, (∀ H', Nx H' → ∃ m', m' < m ∧ W (i + 1) m' H') ∧ ∀ x H', (Itl K a).yld i H x H' → g x (wipe σ vs) H' fun σ2 H2 => wipe σ2 vs = wipe σ vs ∧ tt σ2 H2 fun b H3 =>
        if b = true then te σ2 H3 fun y H4 => ∃ acc, H4 D = some (.lst acc) ∧ acc.length < sizeLine ∧ Nx (upd H4 D (.lst (acc ++ [y]))) else Nx H3) := by
  refine ⟨p, rfl, ⟨xs, hS⟩, fun D hD => ?_⟩
  obtain ⟨Pv, h0, hl, hs, hd⟩ := h D hD
  exact lc_list (Qd := fun H => R D H) Pv h0 hl hs hd
end
section
variable {K : PySem.W.Frag} {σ : L2.St} {H : Hp} {g : TG} {tb : TS} {D : Ends} {ta : TA}
theorem w_iZip {R : It → Hp → Prop} (h : ta σ H fun vs H1 => ∃ a b xs ys, vs = [.ref a, .ref b] ∧ SqL K H1 a xs ∧ SqL K H1 b ys ∧ R (Itz K a b) H1) : iZip K ta σ H R := h
theorem for_zipN {a b : Addr} {xs ys : List V} (Pv : Nat → L2.St → Hp → Prop) (h0 : Pv 0 σ H) (hq : ∀ i σ H, Pv i σ H → SqL K H a xs ∧ SqL K H b ys)
    (hs : ∀ (i : Nat) (x y : V) (T : Addr) (σ : L2.St) (H : Hp), xs[i]? = some x → ys[i]? = some y → Pv i σ H → H T = none → g (.ref T) σ (upd H T (.tup [x, y])) fun σ2 H2 => tb { D with nx := Pv (i + 1), ct := Pv (i + 1), bk := D.nx } σ2 H2)
    (hd : ∀ i σ H, Pv i σ H → D.nx σ H) :
    ∃ W : Nat → Nat → L2.St → Hp → Prop, (∃ m, W 0 m σ H) ∧ ∀ i m σ H, W i m σ H →
      ((Itz K a b).stop i H ∧ D.nx σ H) ∨ ((Itz K a b).go i H ∧ ∃ N : L2.St → Hp → Prop, (∀ σ' H', N σ' H' → ∃ m', m' < m ∧ W (i + 1) m' σ' H') ∧ ∀ v H', (Itz K a b).yld i H v H' → g v σ H' fun σ2 H2 => tb { D with nx := N, ct := N, bk := D.nx } σ2 H2) := by
  refine ⟨fun i m σ H => m = xs.length - i ∧ Pv i σ H, ⟨_, rfl, h0⟩, ?_⟩
  rintro i m σ H ⟨rfl, p⟩
  have q := hq i σ H p
  by_cases h1 : i < xs.length
  · by_cases h2 : i < ys.length
    · refine .inr ⟨⟨xs, ys, xs[i], ys[i], q.1, q.2, List.getElem?_eq_getElem h1, List.getElem?_eq_getElem h2⟩, Pv (i + 1), fun σ' H' p' => ⟨xs.length - (i + 1), by omega, rfl, p'⟩, ?_⟩
      rintro v H' ⟨T, x, y, rfl, hT, rfl, hx, hy⟩
      exact hs i x y T σ H (hx xs q.1) (hy ys q.2) p hT
    · exact .inl ⟨⟨xs, ys, q.1, q.2, .inr (by omega)⟩, hd i σ H p⟩
  · exact .inl ⟨⟨xs, ys, q.1, q.2, .inl (by omega)⟩, hd i σ H p⟩
end
section
variable {X : Cx}
theorem ix_tupK (K : PySem.W.Frag) (h : X.K = K) : IxR X (rIxT K) := by subst h; exact ix_tup
theorem ix_listK (K : PySem.W.Frag) (h : X.K = K) : IxR X (rIxL K) := by subst h; exact ix_list
theorem sl_listK (K : PySem.W.Frag) (h : X.K = K) : SlR X (rSlL K) := by subst h; exact sl_list
theorem len_seqK (K : PySem.W.Frag) (h : X.K = K) : CallR X (.builtin "len") (fun xs H Q => ∃ p ys, xs = [.ref p] ∧ (SqL K H p ys ∨ SqT K H p ys) ∧ Q (.int ys.length) H) := by subst h; exact call_len_seq
theorem tuple_ofK (K : PySem.W.Frag) (h : X.K = K) : CallR X (.type "tuple") (fun xs H Q => ∃ p ys, xs = [.ref p] ∧ ((SqL K H p ys ∧ ∀ l, H l = none → Q (.ref l) (upd H l (.tup ys))) ∨ (SqT K H p ys ∧ Q (.ref p) H))) := by subst h; exact call_tuple_of
end
end Fw
end

section
-- part Fac
set_option Elab.async false
set_option linter.all false
set_option maxRecDepth 100000
set_option maxHeartbeats 1000000
namespace Ac
open PySem PySem.Spec PyProof.Rows
theorem owner_acc : Manifest.owners.lookup (String.ofList ['e', 't', 'a', 'l', 'u', 'm', 'u', 'c', 'c', 'a', '.', 's', 'l', 'o', 'o', 't', 'r', 'e', 't', 'i'].reverse) = some Manifest.sig_itertools_accumulate := by kernel_rfl
theorem mro_acc : mroOf (.type "itertools.accumulate") = pure [.type "itertools.accumulate", .type "object"] := by rw [mroOf_type]; kernel_rfl
theorem lookup_acc_new : typeLookup (.type "itertools.accumulate") "__new__" = pure (some (.builtin "itertools.accumulate.__new__")) := by rw [typeLookup_type, builtinLookup_eq_fast]; kernel_rfl
theorem slot_acc_init : Slot "itertools.accumulate" "__init__" "object.__init__" :=
  .of (owner := "object") (n := "__init__") (by rw [typeLookup_type, builtinLookup_eq_fast]; kernel_rfl) (by decide +kernel) (by decide +kernel) (by decide +kernel)
    (by first | exact .inl (by decide +kernel) | exact .inr (by decide +kernel)) (by rw [isSubtype_type]; kernel_rfl)
theorem sub_acc : isSubtype (.type "itertools.accumulate") (.type "itertools.accumulate") = pure true := by rw [isSubtype_type]; kernel_rfl
theorem called_acc : TypeCalled "itertools.accumulate" "itertools.accumulate.__new__" "object.__init__" :=
  ⟨by decide +kernel, by decide +kernel, ⟨_, _, mro_acc⟩, madeBy_type mro_acc lookup_acc_new (by decide +kernel), by decide +kernel, sub_acc, slot_acc_init⟩
theorem typeCall_acc (a : Value) : checkTypeCall "itertools.accumulate" ⟨[a], []⟩ = pure () := by kernel_rfl
theorem newCall_acc (a : Value) : checkBuiltinCall "itertools.accumulate.__new__" ⟨[.type "itertools.accumulate", a], []⟩ = pure () := by kernel_rfl
theorem entry_acc_new : entryFor table "itertools.accumulate.__new__" = some Builtin.«itertools.accumulate.__new__» := entryFor_of_tree (by kernel_rfl)
theorem slot_acc_iter : Slot "itertools.accumulate" "__iter__" "itertools.accumulate.__iter__" :=
  .of (owner := "itertools.accumulate") (n := "__iter__") (by rw [typeLookup_type, builtinLookup_eq_fast]; kernel_rfl) (by decide +kernel) (by decide +kernel) (by decide +kernel)
    (by first | exact .inl (by decide +kernel) | exact .inr (by decide +kernel)) sub_acc
theorem slot_acc_next : Slot "itertools.accumulate" "__next__" "itertools.accumulate.__next__" :=
  .of (owner := "itertools.accumulate") (n := "__next__") (by rw [typeLookup_type, builtinLookup_eq_fast]; kernel_rfl) (by decide +kernel) (by decide +kernel) (by decide +kernel)
    (by first | exact .inl (by decide +kernel) | exact .inr (by decide +kernel)) sub_acc
theorem entry_acc_iter : entryFor table "itertools.accumulate.__iter__" = some Builtin.«dict_keyiterator.__iter__» :=
  entryFor_alias (id' := "dict_keyiterator.__iter__") (by kernel_rfl) (by first | rfl | decide +kernel | (unfold String.splitOn; simp +decide [String.splitOnAux])) (by decide +kernel) (by kernel_rfl)
theorem entry_acc_next : entryFor table "itertools.accumulate.__next__" = some Builtin.«itertools.accumulate.__next__» := entryFor_of_tree (by kernel_rfl)
theorem args_acc_iter (a : Value) : argsOk "itertools.accumulate.__iter__" ⟨[a], []⟩ := by
  unfold argsOk; rw [signature?_of (id := "itertools.accumulate.__iter__") (n := ['_', '_', 'r', 'e', 't', 'i', '_', '_']) (o := ['e', 't', 'a', 'l', 'u', 'm', 'u', 'c', 'c', 'a', '.', 's', 'l', 'o', 'o', 't', 'r', 'e', 't', 'i']) (by kernel_rfl) owner_acc]; kernel_rfl
theorem args_acc_next (a : Value) : argsOk "itertools.accumulate.__next__" ⟨[a], []⟩ := by
  unfold argsOk; rw [signature?_of (id := "itertools.accumulate.__next__") (n := ['_', '_', 't', 'x', 'e', 'n', '_', '_']) (o := ['e', 't', 'a', 'l', 'u', 'm', 'u', 'c', 'c', 'a', '.', 's', 'l', 'o', 'o', 't', 'r', 'e', 't', 'i']) (by kernel_rfl) owner_acc]; kernel_rfl
theorem noDict_acc : typeHasDict (.type "itertools.accumulate") = false := by decide +kernel
/-- an accumulate object: what it draws from, its total so far -/
abbrev IsAcc (h : Heap) (a it : Addr) (S : Int) (t : Tok) : Prop := h.get? a = some { cls := .type "itertools.accumulate", dict := none, data := .fields #[.ref it, .none, .int S t, .none], slots := #[] }
theorem classRest_acc (x : Value) : Builtin.Itertools.itClassAndRest "accumulate" ⟨[.type "itertools.accumulate", x], []⟩ = pure (.type "itertools.accumulate", [x]) := by
  unfold Builtin.Itertools.itClassAndRest
  have e : ("itertools." ++ "accumulate" : String) = "itertools.accumulate" := by decide
  simp only [e, isType, sub_acc, pure_bind, Bool.not_true, Bool.false_eq_true, if_false]
theorem bind_acc (x : Value) : Builtin.Itertools.itBindNamed "accumulate" ["iterable", "func", "initial"] 1 2 [x] [] = pure [some x, none, none] := by
  first | rfl | kernel_rfl
section
variable {prog : Program} {w : World} {A : Around} {E : Value → Shared → Prop} {s : Shared}
theorem new_acc (x : Value) : MeetsIn prog w (Builtin.«itertools.accumulate.__new__» ⟨[.type "itertools.accumulate", x], []⟩)
    (fun A R s => wpAny (model prog w) A.in1 (pyIter x) (fun itv s1 => R (.ok (.ret (.ref s1.heap.objs.size))) { s1 with heap := s1.heap.push { cls := .type "itertools.accumulate", data := .fields #[itv, .none, .int 0 0, .none] } }) (fun e s1 => R (.error e) s1) s) :=
  .of_wp fun A R s h => by
    unfold Builtin.«itertools.accumulate.__new__»
    refine wpAny_bind (wpAny_of_eq (classRest_acc _) ?_)
    try dsimp only
    refine wpAny_bind (wpAny_of_eq (bind_acc _) ?_)
    try dsimp only
    refine wpAny_bind (wpAny_mono h (fun itv s1 hR => ?_) fun _ _ z => z)
    refine wpAny_bind ?_
    unfold Builtin.Itertools.itNewRecord
    rw [if_pos (by rw [noDict_acc]; rfl)]
    show wpAny _ _ (newObj (.type "itertools.accumulate") (.fields #[itv, .none, .int 0 0, .none])) _ _ _
    refine wpAny_newObj_type ?_
    exact wpAny_pure ⟨_, rfl, hR⟩
theorem call_acc {x : Value} {Q : Value → Shared → Prop}
    (hx : wpAny (model prog w) A.in1.in1 (pyIter x) (fun itv s1 => ∀ h', h'.get? s1.heap.objs.size = some { cls := .type "itertools.accumulate", dict := none, data := .fields #[itv, .none, .int 0 0, .none], slots := #[] } →
      (∀ c o, s1.heap.get? c = some o → h'.get? c = some o) → Q (.ref s1.heap.objs.size) { s1 with heap := h' }) E s) :
    wpAny (model prog w) A (call (.type "itertools.accumulate") [x]) Q E s := by
  refine callType_newIn called_acc (by decide +kernel) (typeCall_acc _) (newCall_acc _) (fun obj => F.args_object_init_2 obj _) entry_acc_new (new_acc x) ?_
  show wpAny (model prog w) A.in1.in1 (pyIter x) _ _ _
  refine wpAny_mono hx (fun itv s1 h => ?_) fun _ _ z => z
  have g : (s1.heap.push { cls := .type "itertools.accumulate", data := .fields #[itv, .none, .int 0 0, .none] }).get? s1.heap.objs.size = some { cls := .type "itertools.accumulate", dict := none, data := .fields #[itv, .none, .int 0 0, .none], slots := #[] } := Heap.get?_push_size _ rfl
  show _ ∧ _
  exact ⟨⟨_, g, rfl⟩, h _ g fun c o e => Heap.get?_push_of_some _ e⟩
/-- one item of a tuple's iterator, asked for by its slot -/
theorem raw_item {it t : Addr} {i : Nat} {items : Array Value} {x : Value} {Q : Value → Shared → Prop} (hit : s.heap.IsTupleIter it t i) (ht : s.heap.IsTuple t items) (hx : items[i]? = some x)
    (hQ : ∀ h', h'.IsTupleIter it t (i + 1) → Heap.SameBut it s.heap h' → Q x { s with heap := h' }) : wpAny (model prog w) A (Builtin.Itertools.itRawNext (.ref it)) Q E s := by
  obtain ⟨o1, g1, c1, d1⟩ := id hit
  obtain ⟨o2, g2, _, n2, d2⟩ := ht
  unfold Builtin.Itertools.itRawNext
  refine wpAny_bind (wpAny_callSpecial?_slot (name := Str.ofString "__next__") hit.typeIs F.slot_tuple_iterator_next (wpAny_call_entry F.slot_tuple_iterator_next hit.typeIs F.entry_tuple_iterator_next ?_ (F.args_tuple_iterator_next_1 _)))
  show wpAny _ _ (field (.ref it) 0 >>= _) _ _ s
  refine wpAny_bind (wpAny_field g1 d1 (x := .ref t) rfl ?_)
  show wpAny _ _ (if (Value.ref t == Value.none) = true then _ else _) _ _ s
  rw [if_neg (fun z : (Value.ref t == Value.none) = true => Bool.false_ne_true z)]
  show wpAny _ _ (field (.ref it) 1 >>= _) _ _ s
  refine wpAny_bind (wpAny_field g1 d1 (x := .int i 0) rfl ?_)
  show wpAny _ _ (seqItems? (.ref t) >>= _) _ _ s
  refine wpAny_bind (wpAny_seqItems g2 d2 ?_)
  simp only [Int.toNat_natCast, hx]
  refine wpAny_bind (wpAny_setField g1 d1 (by simp) (wpAny_pure ⟨x, rfl, wpAny_pure (hQ _ ⟨_, Heap.get?_update_self _ g1 (Obj.isFreed_of_fields (Obj.data_mapFields d1 _)), (Obj.cls_mapFields ..).trans c1, ?_⟩ (Heap.SameBut.update ..))⟩))
  rw [Obj.data_mapFields d1]
  simp [rawInt]
theorem raw_end {it t : Addr} {i : Nat} {items : Array Value} {Q : Value → Shared → Prop} (hh : A.handled = none) (hit : s.heap.IsTupleIter it t i) (ht : s.heap.IsTuple t items) (hx : items[i]? = none)
    (hE : ∀ h' e, Heap.ExtBut it s.heap h' → (∃ o, h'.get? e = some o ∧ o.cls = .type "StopIteration") → E (.ref e) { s with heap := h' }) : wpAny (model prog w) A (Builtin.Itertools.itRawNext (.ref it)) Q E s := by
  obtain ⟨o1, g1, c1, d1⟩ := id hit
  obtain ⟨o2, g2, _, n2, d2⟩ := ht
  unfold Builtin.Itertools.itRawNext
  refine wpAny_bind (wpAny_callSpecial?_slot (name := Str.ofString "__next__") hit.typeIs F.slot_tuple_iterator_next (wpAny_call_entry F.slot_tuple_iterator_next hit.typeIs F.entry_tuple_iterator_next ?_ (F.args_tuple_iterator_next_1 _)))
  show wpAny _ _ (field (.ref it) 0 >>= _) _ _ s
  refine wpAny_bind (wpAny_field g1 d1 (x := .ref t) rfl ?_)
  show wpAny _ _ (if (Value.ref t == Value.none) = true then _ else _) _ _ s
  rw [if_neg (fun z : (Value.ref t == Value.none) = true => Bool.false_ne_true z)]
  show wpAny _ _ (field (.ref it) 1 >>= _) _ _ s
  refine wpAny_bind (wpAny_field g1 d1 (x := .int i 0) rfl ?_)
  show wpAny _ _ (seqItems? (.ref t) >>= _) _ _ s
  refine wpAny_bind (wpAny_seqItems g2 d2 ?_)
  simp only [Int.toNat_natCast, hx]
  refine wpAny_bind (wpAny_rule (wpAny_bind (wpAny_setField g1 d1 (by simp) ?_)))
  show wpAny _ _ (newExc (.type "StopIteration") [] >>= _) _ _ _
  refine wpAny_bind ?_
  simp only [newExc, newTuple]
  refine wpAny_bind (wpAny_newObj_type ?_ (by size_fits))
  refine wpAny_bind (m := firstArgMember _ _) (wpAny_of_eq (a := Value.none) (by first | rfl | (simp only [firstArgMember]; rfl)) ?_)
  refine wpAny_newObj_type ?_ (by size_fits)
  simp only [raiseNew]
  refine wpAny_bind (wpAny_handled ?_)
  first | rw [show A.in1.handled = none from hh] | rw [hh]
  refine wpAny_bind (wpAny_pure (wpAny_throw ?_))
  exact hE _ _ (((Heap.SameBut.update ..).extBut.push _).push _) ⟨_, Heap.get?_push_size _ rfl, rfl⟩
/-- the next total -/
theorem acc_item {a it t : Addr} {i : Nat} {items : Array Value} {S b : Int} {tk u : Tok} {Q : Option Value → Shared → Prop} (ha : IsAcc s.heap a it S tk) (hit : s.heap.IsTupleIter it t i) (ht : s.heap.IsTuple t items) (hx : items[i]? = some (.int b u)) (h1 : a ≠ it) (h2 : t ≠ it) (h3 : t ≠ a)
    (hQ : ∀ h' v k, IsAcc h' a it (S + b) v → h'.IsTupleIter it t (i + 1) → h'.IsTuple t items → (∀ c o, c ≠ it → c ≠ a → s.heap.get? c = some o → h'.get? c = some o) → s.toks ≤ k → Q (some (.int (S + b) v)) { s with heap := h', toks := k }) :
    wpAny (model prog w) A (pyNext (.ref a)) Q E s := by
  have hT : s.TypeIs (.ref a) "itertools.accumulate" := ⟨_, ha, rfl⟩
  unfold pyNext
  refine wpAny_bind (wpAny_attempt (wpAny_callSpecial?_slot (name := Str.ofString "__next__") hT slot_acc_next (wpAny_call_entry slot_acc_next hT entry_acc_next ?_ (args_acc_next _))))
  show wpAny _ _ (field (.ref a) 3 >>= _) _ _ s
  refine wpAny_bind (wpAny_field ha rfl (x := .none) rfl ?_)
  show wpAny _ _ (field (.ref a) 0 >>= _) _ _ s
  refine wpAny_bind (wpAny_field ha rfl (x := .ref it) rfl ?_)
  refine wpAny_bind (raw_item hit ht hx fun h' hit' hs => ?_)
  have ha' : IsAcc h' a it S tk := (hs.2 a h1).trans ha
  have ht' : h'.IsTuple t items := ht.extBut hs.extBut h2
  show wpAny _ _ (field (.ref a) 2 >>= _) _ _ _
  refine wpAny_bind (wpAny_field ha' rfl (x := .int S tk) rfl ?_)
  have upd2 : ∀ (x : Value), (h'.update a (Obj.mapFields fun y => y.setIfInBounds 2 x)).get? a = some { cls := .type "itertools.accumulate", dict := none, data := .fields #[.ref it, .none, x, .none], slots := #[] } := fun x => Heap.get?_update_self _ ha' rfl
  have oth : ∀ (x : Value) c o, c ≠ a → h'.get? c = some o → (h'.update a (Obj.mapFields fun y => y.setIfInBounds 2 x)).get? c = some o := fun x c o hc e => (Heap.get?_update_other _ _ (Ne.symm hc)).trans e
  obtain ⟨o1, g1, r1⟩ := hit'
  obtain ⟨o2, g2, r2⟩ := ht'
  by_cases hz : (Value.int S tk == Builtin.Itertools.itNothing) = true
  · obtain rfl : S = 0 := by
      simp [Builtin.Itertools.itNothing, rawInt] at hz
      exact hz.1
    show wpAny _ _ (if (Value.int 0 tk == Builtin.Itertools.itNothing) = true then _ else _) _ _ _
    rw [if_pos hz]
    refine wpAny_bind (wpAny_rule ?_)
    refine wpAny_bind (wpAny_setField ha' rfl (by simp) ?_)
    refine wpAny_pure ⟨_, rfl, ?_⟩
    have e0 : (0 : Int) + b = b := Int.zero_add b
    rw [e0] at hQ
    exact wpAny_pure (hQ _ u s.toks (upd2 _) ⟨o1, oth _ _ _ (Ne.symm h1) g1, r1⟩ ⟨o2, oth _ _ _ h3 g2, r2⟩ (fun c o c1 c2 e => oth _ _ _ c2 (hs.extBut c o c1 e)) (Nat.le_refl _))
  · show wpAny _ _ (if (Value.int S tk == Builtin.Itertools.itNothing) = true then _ else _) _ _ _
    rw [if_neg hz]
    show wpAny _ _ (field (.ref a) 1 >>= _) _ _ _
    refine wpAny_bind (wpAny_field ha' rfl (x := .none) rfl ?_)
    refine wpAny_bind (wpAny_holding ?_)
    show wpAny _ _ (binaryOp .Add (.int S tk) (.int b u)) _ _ _
    refine PyProof.Rows.add_int ?_
    refine wpAny_bind (wpAny_setField ha' rfl (by simp) ?_)
    refine wpAny_bind (wpAny_letGo ?_)
    refine wpAny_pure ⟨_, rfl, ?_⟩
    exact wpAny_pure (hQ _ _ (s.toks + 1) (upd2 _) ⟨o1, oth _ _ _ (Ne.symm h1) g1, r1⟩ ⟨o2, oth _ _ _ h3 g2, r2⟩ (fun c o c1 c2 e => oth _ _ _ c2 (hs.extBut c o c1 e)) (Nat.le_succ _))
theorem acc_end {a it t : Addr} {i : Nat} {items : Array Value} {S : Int} {tk : Tok} {Q : Option Value → Shared → Prop} (hh : A.handled = none) (ha : IsAcc s.heap a it S tk) (hit : s.heap.IsTupleIter it t i) (ht : s.heap.IsTuple t items) (hx : items[i]? = none)
    (hQ : ∀ h', Heap.ExtBut it s.heap h' → Q none { s with heap := h' }) : wpAny (model prog w) A (pyNext (.ref a)) Q E s := by
  have hT : s.TypeIs (.ref a) "itertools.accumulate" := ⟨_, ha, rfl⟩
  have hh1 : A.in1.handled = none := hh
  unfold pyNext
  refine wpAny_bind (wpAny_attempt (wpAny_callSpecial?_slot (name := Str.ofString "__next__") hT slot_acc_next (wpAny_call_entry slot_acc_next hT entry_acc_next ?_ (args_acc_next _))))
  show wpAny _ _ (field (.ref a) 3 >>= _) _ _ s
  refine wpAny_bind (wpAny_field ha rfl (x := .none) rfl ?_)
  show wpAny _ _ (field (.ref a) 0 >>= _) _ _ s
  refine wpAny_bind (wpAny_field ha rfl (x := .ref it) rfl ?_)
  refine wpAny_bind (raw_end hh1 hit ht hx fun h' x he hx' => ?_)
  obtain ⟨o, ho, hc⟩ := hx'
  refine wpAny_bind (wpAny_isInstance (T := "StopIteration") (b := true) ⟨o, ho, hc⟩ isSubtype_stop ?_)
  exact wpAny_pure (hQ _ he)
theorem acc_iter {a it : Addr} {S : Int} {tk : Tok} {Q : Value → Shared → Prop} (ha : IsAcc s.heap a it S tk) (h : Q (.ref a) s) : wpAny (model prog w) A (pyIter (.ref a)) Q E s := by
  have hT : s.TypeIs (.ref a) "itertools.accumulate" := ⟨_, ha, rfl⟩
  refine wpAny_pyIter_slot hT slot_acc_iter (wpAny_call_entry slot_acc_iter hT entry_acc_iter ?_ (args_acc_iter _))
  show wpAny _ _ (ret (.ref a)) _ _ s
  exact wpAny_pure ⟨_, rfl, "itertools.accumulate", _, hT, slot_acc_next.lookup, h⟩
end
theorem walks_acc {prog : Program} {w : World} {A : Around} {a it t : Addr} {items : Array Value} {val : Nat → Int} (hh : A.handled = none) (hv : ∀ (i : Nat) (v : Value), items[i]? = some v → ∃ u, v = .int (val i) u) (h1 : a ≠ it) (h2 : t ≠ it) (h3 : t ≠ a) :
    WalksS prog w A a [a, it, t] [a, it] (fun x y => y = x) items.size (fun i v => ∃ u, v = .int (preSum val (i + 1)) u) (fun i s => (∃ tk, IsAcc s.heap a it (preSum val i) tk) ∧ s.heap.IsTupleIter it t i ∧ s.heap.IsTuple t items) where
  sub := fun b hb => by
    rcases List.mem_cons.mp hb with rfl | hb
    · simp
    · rw [List.mem_singleton.mp hb]; simp
  grefl := fun _ => rfl
  gtrans := fun _ _ _ q1 q2 => q2.trans q1
  frame := fun i s h' tk st _ hk => by
    obtain ⟨⟨k, q1⟩, ⟨o1, g1, r1⟩, ⟨o2, g2, r2⟩⟩ := st
    exact ⟨⟨k, hk a (by simp) _ q1⟩, ⟨o1, hk it (by simp) _ g1, r1⟩, ⟨o2, hk t (by simp) _ g2, r2⟩⟩
  item := fun i s Q E hi st hQ => by
    obtain ⟨⟨k, q1⟩, q2, q3⟩ := st
    have hg : items[i]? = some items[i] := Array.getElem?_eq_getElem hi
    obtain ⟨u, hu⟩ := hv i _ hg
    rw [hu] at hg
    refine acc_item q1 q2 q3 hg h1 h2 h3 fun h' v k2 a1 a2 a3 hk htk => ?_
    exact hQ _ _ ⟨v, rfl⟩ ⟨⟨v, a1⟩, a2, a3⟩ ⟨fun b o hb e => hk b o (fun z => hb (by simp [z])) (fun z => hb (by simp [z])) e, rfl, rfl, rfl, htk⟩
  done := fun s Q E st hQ => by
    obtain ⟨⟨k, q1⟩, q2, q3⟩ := st
    refine acc_end hh q1 q2 q3 (Array.getElem?_eq_none (Nat.le_refl _)) fun h' he => ?_
    exact hQ _ ⟨fun b o hb e => he b o (fun z => hb (by simp [z])) e, rfl, rfl, rfl, Nat.le_refl _⟩
  self := fun i s Q E st hQ => by
    obtain ⟨⟨k, q1⟩, _⟩ := st
    exact acc_iter q1 hQ
section
variable {prog : Program} {w : World} {A : Around} {E : Value → Shared → Prop} {s : Shared}
theorem sum_tup {t : Addr} {items : Array Value} {val : Nat → Int} {Q : Value → Shared → Prop} (hh : A.handled = none) (ht : s.heap.IsTuple t items) (hv : ∀ (i : Nat) (v : Value), items[i]? = some v → ∃ u, v = .int (val i) u)
    (hq : ∀ h' t' k, (∀ b o, s.heap.get? b = some o → h'.get? b = some o) → Q (.int (preSum val items.size) t') { s with heap := h', toks := k }) : wpAny (model prog w) A (call (.builtin "sum") [.ref t]) Q E s := by
  have lt : t < s.heap.objs.size := by obtain ⟨o, ho, _⟩ := ht; exact Heap.lt_size ho
  have hh1 : A.in1.handled = none := hh
  refine call_sum_walkG (wpAny_pyIter_tuple ht ?_)
  refine ⟨_, _, _, _, _, _, val, rfl, Walks.tuple hh1 s.heap.objs.size t (Nat.ne_of_lt lt) items, ⟨⟨_, Heap.get?_push_size _ rfl, rfl, rfl⟩, ht.push _⟩, fun b hb => ?_, hv, fun h' tk t' hk => ?_⟩
  · have e : (s.heap.push { cls := .type "tuple_iterator", data := .fields #[.ref t, .int 0 0] }).objs.size = s.heap.objs.size + 1 := Heap.size_push ..
    show b < (s.heap.push { cls := .type "tuple_iterator", data := .fields #[.ref t, .int 0 0] }).objs.size
    rw [e]
    rcases List.mem_cons.mp hb with rfl | hb
    · exact Nat.lt_succ_self _
    · rw [List.mem_singleton.mp hb]; exact Nat.lt_succ_of_lt lt
  · exact hq h' t' tk fun b o e => hk b o (fun z => absurd (List.mem_singleton.mp z) (Nat.ne_of_lt (Heap.lt_size e))) (Heap.get?_push_of_some _ e)
theorem sum_acc {t : Addr} {items : Array Value} {val : Nat → Int} {Q : Value → Shared → Prop} (hh : A.handled = none) (ht : s.heap.IsTuple t items) (hv : ∀ (i : Nat) (v : Value), items[i]? = some v → ∃ u, v = .int (val i) u)
    (hq : ∀ h' t' k, (∀ b o, s.heap.get? b = some o → h'.get? b = some o) → Q (.int (preSum (fun i => preSum val (i + 1)) items.size) t') { s with heap := h', toks := k }) :
    wpAny (model prog w) A (call (.type "itertools.accumulate") [.ref t]) (fun v s1 => wpAny (model prog w) A (call (.builtin "sum") [v]) Q E s1) E s := by
  have lt : t < s.heap.objs.size := by obtain ⟨o, ho, _⟩ := ht; exact Heap.lt_size ho
  have hh1 : A.in1.handled = none := hh
  refine call_acc (wpAny_pyIter_tuple ht ?_)
  have e1 : (s.heap.push { cls := .type "tuple_iterator", data := .fields #[.ref t, .int 0 0] }).objs.size = s.heap.objs.size + 1 := Heap.size_push ..
  intro h' g1 hk
  rw [show ({ s with heap := s.heap.push { cls := .type "tuple_iterator", data := .fields #[.ref t, .int 0 0] } } : Shared).heap.objs.size = s.heap.objs.size + 1 from e1] at g1 ⊢
  have git : h'.IsTupleIter s.heap.objs.size t 0 := ⟨_, hk _ _ (Heap.get?_push_size _ rfl), rfl, rfl⟩
  have gt : h'.IsTuple t items := (ht.push _).at fun o e => hk _ o e
  have W := walks_acc (A := A.in1) (prog := prog) (w := w) (a := s.heap.objs.size + 1) (it := s.heap.objs.size) (t := t) (items := items) hh1 hv (Nat.succ_ne_self _) (Nat.ne_of_lt lt) (Nat.ne_of_lt (Nat.lt_succ_of_lt lt))
  refine call_sum_walkAnyS (acc_iter g1 ?_)
  refine ⟨_, _, _, _, _, _, _, fun i => preSum val (i + 1), rfl, W, ⟨⟨0, g1⟩, git, gt⟩, fun b hb => ?_, fun i v hv => hv, fun s' t' hm => ?_⟩
  · have q1 := Heap.lt_size g1
    rcases List.mem_cons.mp hb with rfl | hb
    · exact q1
    · rcases List.mem_cons.mp hb with rfl | hb
      · exact Nat.lt_of_succ_lt q1
      · rw [List.mem_singleton.mp hb]; exact Nat.lt_trans lt (Nat.lt_of_succ_lt q1)
  · rw [Moved.eq_with hm]
    refine hq s'.heap t' s'.toks fun b o e => hm.heap b o (fun z => ?_) (hk b o (Heap.get?_push_of_some _ e))
    have hb := Heap.lt_size e
    rcases List.mem_cons.mp z with rfl | z
    · exact absurd hb (Nat.not_lt.mpr (Nat.le_succ _))
    · rw [List.mem_singleton.mp z] at hb
      exact Nat.lt_irrefl _ hb
end
end Ac
namespace L2
open PySem PySem.Spec PyProof.Rows
/-- the sum of the sums so far -/
def accI : Int → List Int → Int
  | _, [] => 0
  | S, b :: r => (S + b) + accI (S + b) r
theorem preSum_ext {f g : Nat → Int} : ∀ n, (∀ i, i < n → f i = g i) → preSum f n = preSum g n
  | 0, _ => rfl
  | n + 1, h => by
    show preSum f n + f n = preSum g n + g n
    rw [preSum_ext n (fun i hi => h i (Nat.lt_succ_of_lt hi)), h n (Nat.lt_succ_self n)]
theorem preSum_cons (f : Nat → Int) : ∀ n, preSum f (n + 1) = f 0 + preSum (fun i => f (i + 1)) n
  | 0 => by show (0 : Int) + f 0 = f 0 + 0; omega
  | n + 1 => by
    have := preSum_cons f n
    show preSum f (n + 1) + f (n + 1) = f 0 + (preSum (fun i => f (i + 1)) n + f (n + 1))
    rw [this]
    omega
theorem preSum_add (c : Int) (f : Nat → Int) : ∀ n, preSum (fun i => c + f i) n = n * c + preSum f n
  | 0 => by show (0 : Int) = ((0 : Nat) : Int) * c + 0; simp
  | n + 1 => by
    show preSum (fun i => c + f i) n + (c + f n) = ((n + 1 : Nat) : Int) * c + (preSum f n + f n)
    rw [preSum_add c f n, Int.natCast_add, Int.add_mul]
    simp only [Int.natCast_one, Int.one_mul]
    omega
theorem accI_add : ∀ (S : Int) (ns : List Int), accI S ns = ns.length * S + accI 0 ns
  | S, [] => by simp [accI]
  | S, b :: r => by
    show S + b + accI (S + b) r = ((r.length + 1 : Nat) : Int) * S + (0 + b + accI (0 + b) r)
    rw [accI_add (S + b) r, accI_add (0 + b) r, Int.natCast_add, Int.add_mul, Int.mul_add]
    simp only [Int.natCast_one, Int.one_mul, Int.zero_add]
    omega
theorem pre_sum : ∀ (ns : List Int) (val : Nat → Int), (∀ i b, ns[i]? = some b → val i = b) → preSum val ns.length = ns.sum
  | [], _, _ => rfl
  | b :: r, val, h => by
    rw [List.length_cons, preSum_cons, h 0 b rfl, pre_sum r (fun i => val (i + 1)) (fun i c hc => h (i + 1) c hc), List.sum_cons]
theorem pre_acc : ∀ (ns : List Int) (val : Nat → Int), (∀ i b, ns[i]? = some b → val i = b) → preSum (fun i => preSum val (i + 1)) ns.length = accI 0 ns
  | [], _, _ => rfl
  | b :: r, val, h => by
    rw [List.length_cons, preSum_cons]
    have e : preSum (fun i => preSum val (i + 1 + 1)) r.length = preSum (fun i => b + preSum (fun i => val (i + 1)) (i + 1)) r.length := preSum_ext _ fun i _ => by
      show preSum val (i + 1 + 1) = _
      rw [preSum_cons, h 0 b rfl]
    show preSum val (0 + 1) + preSum (fun i => preSum val (i + 1 + 1)) r.length = _
    rw [e, preSum_add, pre_acc r (fun i => val (i + 1)) (fun i c hc => h (i + 1) c hc)]
    show (0 : Int) + val 0 + (r.length * b + accI 0 r) = 0 + b + accI (0 + b) r
    rw [h 0 b rfl, accI_add (0 + b) r]
    simp only [Int.zero_add]
theorem ints_val {ns : List Int} {its : List Value} (rv : Vals (ns.map V.int) its) : ∀ (i : Nat) (v : Value), its.toArray[i]? = some v → ∃ u, v = .int (ns[i]?.getD 0) u := fun i v hv => by
  have hv' : its[i]? = some v := by simpa using hv
  have hi : i < ns.length := by
    have e := rv.length
    rw [List.length_map] at e
    have := (List.getElem?_eq_some_iff.mp hv').1
    omega
  obtain ⟨u2, hu2, rx⟩ := rv.get (i := i) (x := V.int ns[i]) (by rw [List.getElem?_map, List.getElem?_eq_getElem hi]; rfl)
  obtain rfl : u2 = v := Option.some.inj (hu2.symm.trans hv')
  obtain ⟨t, rfl⟩ := rx
  exact ⟨t, by rw [List.getElem?_eq_getElem hi]; rfl⟩
theorem val_get {ns : List Int} : ∀ (i : Nat) (b : Int), ns[i]? = some b → (fun i : Nat => ns[i]?.getD 0) i = b := fun i b h => by
  show ns[i]?.getD 0 = b
  rw [h]
  rfl
section
variable {X : Cx}
/-- sum(t) of a list or tuple of ints -/
def rSumA (K : PySem.W.Frag) : List V → Hp → VK → Prop := fun vs H Q => ∃ (a : Addr) (ns : List Int), vs = [V.ref a] ∧ (SqL K H a (ns.map V.int) ∨ SqT K H a (ns.map V.int)) ∧ Q (.int ns.sum) H
theorem cr_sumA (hc : X.calm = true) : CallR X (.builtin "sum") (rSumA X.K) := by
  intro pins s σ H vs us Q I r h
  obtain ⟨a, ns, rfl, hs, q⟩ := h
  rcases hs with hs | hs
  · exact cr_sum hc pins s σ H [V.ref a] us Q I r ⟨a, ns, rfl, hs, q⟩
  obtain ⟨its, rv, hl, _⟩ := I.tuple hs
  rw [Vals.ref1 r]
  refine Ac.sum_tup (val := fun i : Nat => ns[i]?.getD 0) (I.ok.hd hc) hl (ints_val rv) fun h' t' k hk => ⟨.int _, H, I.kept hk, ⟨_, rfl⟩, ?_⟩
  have e : its.toArray.size = ns.length := by have := rv.length; rw [List.length_map] at this; simp only [List.size_toArray]; omega
  rw [e, pre_sum ns _ val_get]
  exact q
/-- sum(accumulate(t)) of a tuple of ints -/
def tSumAcc (K : PySem.W.Frag) (ta : TA) : TE := fun σ H Q => ta σ H fun vs H2 => ∃ (q : Addr) (ns : List Int), vs = [V.ref q] ∧ SqT K H2 q (ns.map V.int) ∧ Q (.int (accI 0 ns)) H2
theorem pe_sumAcc {e : Expr} {ta : TA} {p0 pos p pos2 : Pos} (hc : X.calm = true) (hgs : Gl X "sum") (hms : X.mg "sum" = none) (hg : Gl X "accumulate") (hm : X.mg "accumulate" = some (.type "itertools.accumulate")) (ha : PA X [e] ta)
    (hs1 : starEach [.Call (.Name "accumulate" p) [e] [] pos2] X.env = (false, eval (.Call (.Name "accumulate" p) [e] [] pos2) X.env) :: starEach [] X.env := by rfl)
    (hp1 : (backTo pos (starEach [] X.env)).any (·.1) = false := by rfl) (hs : starEach [e] X.env = (false, eval e X.env) :: starEach [] X.env := by rfl) (hpl : (backTo pos2 (starEach [] X.env)).any (·.1) = false := by rfl) :
    PE X (.Call (.Name "sum" p0) [.Call (.Name "accumulate" p) [e] [] pos2] [] pos) (tSumAcc X.K ta) := by
  refine ⟨fun pins s σ H Q I h => ?_⟩
  refine wpAny_Call_Name_kw (ld_blt I hgs hms boot_sum ?_)
  refine PyProof.Rows.callWith_builtin1 ?_ hs1 hp1
  rw [hs1]
  show wpAny _ _ (spliced ((false, eval (.Call (.Name "accumulate" p) [e] [] pos2) X.env) :: backTo pos (starEach [] X.env))) _ _ s
  refine Calls.spliced_cons ?_
  refine wpAny_Call_Name_kw (ld_glob I hg hm ?_ (by decide))
  refine PyProof.Rows.callWith_type1 ?_ hs hpl
  refine thn (ha.run pos2 pins s σ H _ I h) fun us s3 ⟨vs, H2, I3, r3, q3⟩ => ?_
  obtain ⟨q, ns, rfl, hq, q3⟩ := q3
  rw [Vals.ref1 r3]
  obtain ⟨its, rv, hl, _⟩ := I3.tuple hq
  refine wpAny_mono (Ac.sum_acc (val := fun i : Nat => ns[i]?.getD 0) (Q := EP X pins σ Q) (E := X.xe) (I3.ok.hd hc) hl (ints_val rv) fun h' t' k hk => ?_) (fun v s4 h4 => Calls.spliced_nil h4) fun _ _ z => z
  have e : its.toArray.size = ns.length := by have := rv.length; rw [List.length_map] at this; simp only [List.size_toArray]; omega
  rw [e, pre_acc ns _ val_get]
  exact ⟨.int _, H2, I3.kept hk, ⟨t', rfl⟩, q3⟩
theorem w_sumAcc {K : PySem.W.Frag} {ta : TA} {σ : St} {H : Hp} {Q : VK} (h : ta σ H fun vs H2 => ∃ (q : Addr) (ns : List Int), vs = [V.ref q] ∧ SqT K H2 q (ns.map V.int) ∧ Q (.int (accI 0 ns)) H2) : tSumAcc K ta σ H Q := h
end
end L2
end

section
-- part K05M
set_option Elab.async false
set_option linter.all false
set_option maxRecDepth 100000
set_option maxHeartbeats 2000000
/-! K05M: rows as bytes; core Lean -/
namespace M5
open PySem PySem.Spec PyProof.Rows L2 Fw
abbrev HI : Int := 9223372036854775807
inductive RV where
  | non
  | txt (l : List Nat)
  | num (n : Int)
deriving DecidableEq
def alphabet : List Nat := [10, 32, 33, 34, 35, 36, 38, 39, 40, 41, 42, 43, 44, 45, 46, 47, 48, 49, 50, 51, 52, 53, 54, 55, 56, 57, 58, 59, 60, 61, 62, 63, 64, 65, 66, 67, 68, 69, 70, 71, 72, 73, 74, 75, 76, 77, 78, 79, 80, 81, 82, 83, 84, 85, 86, 87, 88, 89, 90, 91, 92, 93, 94, 95, 96, 97, 98, 99, 100, 101, 102, 103, 104, 105, 106, 107, 108, 109, 110, 111, 112, 113, 114, 115, 116, 117, 118, 119, 120, 121, 122, 123, 124, 125, 126]
def sgn (c : Nat) : Nat := alphabet.findIdx (· == c)
theorem al_len : alphabet.length = 95 := by decide +kernel
theorem sgn_ok {c : Nat} (h : c ∈ alphabet) : sgn c < 95 ∧ alphabet[sgn c]? = some c := by
  have h2 : alphabet.all (fun c => decide (sgn c < 95 ∧ alphabet[sgn c]? = some c)) = true := by decide +kernel
  exact of_decide_eq_true (List.all_eq_true.mp h2 c h)
theorem sgn_at {i : Nat} (h : i < 95) : ∃ c ∈ alphabet, alphabet[i]? = some c ∧ sgn c = i := by
  have h2 : ∀ i < 95, (match alphabet[i]? with | some c => decide (c ∈ alphabet ∧ sgn c = i) | none => false) = true := by decide +kernel
  have h3 := h2 i h
  cases e : alphabet[i]? with
  | none => rw [e] at h3; cases h3
  | some c => rw [e] at h3; exact ⟨c, (of_decide_eq_true h3).1, rfl, (of_decide_eq_true h3).2⟩
theorem sgn_lt {c d : Nat} (hc : c ∈ alphabet) (hd : d ∈ alphabet) : sgn c < sgn d ↔ c < d := by
  have h2 : alphabet.all (fun c => alphabet.all fun d => decide (sgn c < sgn d ↔ c < d)) = true := by decide +kernel
  exact of_decide_eq_true (List.all_eq_true.mp (List.all_eq_true.mp h2 c hc) d hd)
theorem sgn_inj {c d : Nat} (hc : c ∈ alphabet) (hd : d ∈ alphabet) (h : sgn c = sgn d) : c = d := by
  have h1 := sgn_lt hc hd
  have h2 := sgn_lt hd hc
  omega
/-! bytes -/
def Byt (d : List Int) : Prop := ∀ b ∈ d, 0 ≤ b ∧ b < 256
def fixedL (n : Int) : Nat → List Int
  | 0 => []
  | k + 1 => fixedL (n / 256) k ++ [n % 256]
def fromL (d : List Int) : Int := d.foldl (fun a b => a * 256 + b) 0
theorem fromL_snoc (d : List Int) (b : Int) : fromL (d ++ [b]) = fromL d * 256 + b := by simp [fromL]
theorem fixed_len (n : Int) (k : Nat) : (fixedL n k).length = k := by
  induction k generalizing n with
  | zero => rfl
  | succ k ih => rw [fixedL, List.length_append, ih]; rfl
theorem fixed_byt (n : Int) (k : Nat) : Byt (fixedL n k) := by
  induction k generalizing n with
  | zero => intro b hb; cases hb
  | succ k ih =>
    intro b hb
    rcases List.mem_append.mp hb with hb | hb
    · exact ih _ b hb
    · rw [List.mem_singleton.mp hb]; omega
theorem from_fixed (k : Nat) : ∀ n : Int, 0 ≤ n → n < 256 ^ k → fromL (fixedL n k) = n := by
  induction k with
  | zero => intro n h0 h1; simp at h1; have : n = 0 := by omega
            subst this; rfl
  | succ k ih =>
    intro n h0 h1
    rw [fixedL, fromL_snoc, ih (n / 256) (by omega) (by rw [Int.pow_succ] at h1; omega)]
    omega
theorem fixed_from : ∀ d : List Int, Byt d → fixedL (fromL d) d.length = d := by
  intro d
  rw [← List.reverse_reverse d]
  generalize d.reverse = e
  induction e with
  | nil => intro _; rfl
  | cons b e ih =>
    intro h
    rw [List.reverse_cons] at h ⊢
    have hb := h b (by simp)
    have h2 : Byt e.reverse := fun c hc => h c (List.mem_append_left _ hc)
    rw [fromL_snoc, List.length_append, List.length_singleton, fixedL]
    have e1 : (fromL e.reverse * 256 + b) / 256 = fromL e.reverse := by omega
    have e2 : (fromL e.reverse * 256 + b) % 256 = b := by omega
    rw [e1, e2, ih h2]
theorem from_bound : ∀ d : List Int, Byt d → 0 ≤ fromL d ∧ fromL d < 256 ^ d.length := by
  intro d
  rw [← List.reverse_reverse d]
  generalize d.reverse = e
  induction e with
  | nil => intro _; exact ⟨by decide, by decide⟩
  | cons b e ih =>
    intro h
    rw [List.reverse_cons] at h ⊢
    have hb := h b (by simp)
    have h2 : Byt e.reverse := fun c hc => h c (List.mem_append_left _ hc)
    obtain ⟨i1, i2⟩ := ih h2
    rw [fromL_snoc, List.length_append, List.length_singleton, Int.pow_succ]
    omega
/-! two lists that part at a place -/
def Div (a b : List Int) (lt : Bool) : Prop := ∃ p x y a' b', a = p ++ x :: a' ∧ b = p ++ y :: b' ∧ x ≠ y ∧ lt = decide (x < y)
theorem Div.app {a b : List Int} {lt : Bool} (h : Div a b lt) (u v : List Int) : Div (a ++ u) (b ++ v) lt := by
  obtain ⟨p, x, y, a', b', rfl, rfl, n, l⟩ := h
  exact ⟨p, x, y, a' ++ u, b' ++ v, by simp, by simp, n, l⟩
theorem Div.pre {a b : List Int} {lt : Bool} (h : Div a b lt) (u : List Int) : Div (u ++ a) (u ++ b) lt := by
  obtain ⟨p, x, y, a', b', rfl, rfl, n, l⟩ := h
  exact ⟨u ++ p, x, y, a', b', by simp, by simp, n, l⟩
theorem Div.ne {a b : List Int} {lt : Bool} (h : Div a b lt) : a ≠ b := by
  obtain ⟨p, x, y, a', b', rfl, rfl, n, l⟩ := h
  intro e
  exact n (List.cons.inj (List.append_cancel_left e)).1
theorem Div.nopre {a b : List Int} {lt : Bool} (h : Div a b lt) : b.take a.length ≠ a := by
  obtain ⟨p, x, y, a', b', rfl, rfl, n, l⟩ := h
  intro e
  rw [List.take_append, List.take_of_length_le (by simp)] at e
  have e2 := List.append_cancel_left e
  have : (p ++ x :: a').length - p.length = a'.length + 1 := by simp
  rw [this, List.take_succ_cons] at e2
  exact n (List.cons.inj e2).1.symm
theorem lex_app (p a b : List Int) : HT.lexLt (p ++ a) (p ++ b) = HT.lexLt a b := by
  induction p with
  | nil => rfl
  | cons x p ih =>
    rw [List.cons_append, List.cons_append]
    simp [HT.lexLt, ih]
theorem Div.lex {a b : List Int} {lt : Bool} (h : Div a b lt) : HT.lexLt a b = lt := by
  obtain ⟨p, x, y, a', b', rfl, rfl, n, l⟩ := h
  rw [lex_app, l]
  simp [HT.lexLt, n]
theorem lex_same (a : List Int) : HT.lexLt a a = false := by
  induction a with
  | nil => rfl
  | cons x a ih => simp [HT.lexLt, ih]
theorem fixed_div (k : Nat) : ∀ n m : Int, 0 ≤ n → n < 256 ^ k → 0 ≤ m → m < 256 ^ k → n ≠ m → Div (fixedL n k) (fixedL m k) (decide (n < m)) := by
  induction k with
  | zero => intro n m h0 h1 h2 h3 hn; simp at h1 h3; omega
  | succ k ih =>
    intro n m h0 h1 h2 h3 hn
    rw [Int.pow_succ] at h1 h3
    rw [fixedL, fixedL]
    by_cases c : n / 256 = m / 256
    · refine ⟨fixedL (n / 256) k, n % 256, m % 256, [], [], rfl, by rw [c], by omega, ?_⟩
      rw [decide_eq_decide]
      omega
    · have := ih (n / 256) (m / 256) (by omega) (by omega) (by omega) (by omega) c
      have e : decide (n < m) = decide (n / 256 < m / 256) := by rw [decide_eq_decide]; omega
      rw [e]
      exact this.app _ _
/-! keys -/
def okV : RV → Prop
  | .non => True
  | .txt l => ∀ c ∈ l, c ∈ alphabet
  | .num n => -HI ≤ n ∧ n ≤ HI
def sg (l : List Nat) : List Int := l.map fun c => ((sgn c + 2 : Nat) : Int)
def keyV : RV → List Int
  | .non => [1]
  | .txt l => 3 :: (sg l ++ [1])
  | .num n => 2 :: fixedL (n + HI) 8
def keyR (r : List RV) : List Int := r.flatMap keyV
/-- as ranks compare -/
def vlt : RV → RV → Bool
  | .non, .non => false
  | .non, _ => true
  | .num _, .non => false
  | .num n, .num m => decide (n < m)
  | .num _, .txt _ => true
  | .txt _, .non => false
  | .txt _, .num _ => false
  | .txt l, .txt m => decide (l < m)
theorem sg_div : ∀ l m : List Nat, (∀ c ∈ l, c ∈ alphabet) → (∀ c ∈ m, c ∈ alphabet) → l ≠ m → Div (sg l ++ [1]) (sg m ++ [1]) (decide (l < m))
  | [], [], _, _, h => absurd rfl h
  | [], d :: m, _, _, _ => ⟨[], 1, ((sgn d + 2 : Nat) : Int), [], sg m ++ [1], rfl, rfl, by omega, by
      have e1 : decide ((1 : Int) < ((sgn d + 2 : Nat) : Int)) = true := decide_eq_true (by omega)
      have e2 : decide (([] : List Nat) < d :: m) = true := by simp
      rw [e1, e2]⟩
  | c :: l, [], _, _, _ => ⟨[], ((sgn c + 2 : Nat) : Int), 1, sg l ++ [1], [], rfl, rfl, by omega, by
      have e1 : decide (((sgn c + 2 : Nat) : Int) < 1) = false := decide_eq_false (by omega)
      have e2 : decide (c :: l < ([] : List Nat)) = false := by simp
      rw [e1, e2]⟩
  | c :: l, d :: m, hl, hm, h => by
    have hc := hl c List.mem_cons_self
    have hd := hm d List.mem_cons_self
    by_cases e : c = d
    · subst e
      have ih := sg_div l m (fun x hx => hl x (List.mem_cons_of_mem _ hx)) (fun x hx => hm x (List.mem_cons_of_mem _ hx)) (fun q => h (by rw [q]))
      have e2 : decide (c :: l < c :: m) = decide (l < m) := by
        rw [decide_eq_decide, List.cons_lt_cons_iff]
        constructor
        · rintro (z | z)
          · omega
          · exact z.2
        · exact fun z => .inr ⟨rfl, z⟩
      rw [e2]
      exact ih.pre [((sgn c + 2 : Nat) : Int)]
    · refine ⟨[], ((sgn c + 2 : Nat) : Int), ((sgn d + 2 : Nat) : Int), sg l ++ [1], sg m ++ [1], rfl, rfl, fun q => e (sgn_inj hc hd (by omega)), ?_⟩
      rw [decide_eq_decide, List.cons_lt_cons_iff]
      have := sgn_lt hc hd
      constructor
      · rintro (z | z)
        · have := this.mpr z; omega
        · exact absurd z.1 e
      · intro z
        exact .inl (this.mp (by omega))
theorem key_div : ∀ v w : RV, okV v → okV w → v ≠ w → Div (keyV v) (keyV w) (vlt v w)
  | .non, .non, _, _, h => absurd rfl h
  | .non, .txt l, _, _, _ => ⟨[], 1, 3, [], _, rfl, rfl, by decide, rfl⟩
  | .non, .num n, _, _, _ => ⟨[], 1, 2, [], _, rfl, rfl, by decide, rfl⟩
  | .txt l, .non, _, _, _ => ⟨[], 3, 1, _, [], rfl, rfl, by decide, rfl⟩
  | .num n, .non, _, _, _ => ⟨[], 2, 1, _, [], rfl, rfl, by decide, rfl⟩
  | .txt l, .num n, _, _, _ => ⟨[], 3, 2, _, _, rfl, rfl, by decide, rfl⟩
  | .num n, .txt l, _, _, _ => ⟨[], 2, 3, _, _, rfl, rfl, by decide, rfl⟩
  | .txt l, .txt m, hl, hm, h => (sg_div l m hl hm (fun e => h (by rw [e]))).pre [3]
  | .num n, .num m, hn, hm, h => by
    have hn' : -HI ≤ n ∧ n ≤ HI := hn
    have hm' : -HI ≤ m ∧ m ≤ HI := hm
    have hne : n + HI ≠ m + HI := fun e => h (by rw [show n = m by omega])
    have := fixed_div 8 (n + HI) (m + HI) (by omega) (Int.lt_of_le_of_lt (by omega : n + HI ≤ 2 * HI) (by decide)) (by omega) (Int.lt_of_le_of_lt (by omega : m + HI ≤ 2 * HI) (by decide)) hne
    have e : decide (n + HI < m + HI) = decide (n < m) := by rw [decide_eq_decide]; omega
    rw [e] at this
    exact this.pre [2]
/-- rows of as many values -/
def rlt : List RV → List RV → Bool
  | v :: r, w :: s => if v = w then rlt r s else vlt v w
  | [], _ :: _ => true
  | _, [] => false
theorem row_div : ∀ r s : List RV, r.length = s.length → (∀ v ∈ r, okV v) → (∀ v ∈ s, okV v) → r ≠ s → Div (keyR r) (keyR s) (rlt r s)
  | [], [], _, _, _, h => absurd rfl h
  | v :: r, w :: s, hl, hr, hs, h => by
    show Div (keyV v ++ keyR r) (keyV w ++ keyR s) _
    by_cases e : v = w
    · subst e
      rw [rlt, if_pos rfl]
      exact (row_div r s (by simpa using hl) (fun x hx => hr x (List.mem_cons_of_mem _ hx)) (fun x hx => hs x (List.mem_cons_of_mem _ hx)) (fun q => h (by rw [q]))).pre _
    · rw [rlt, if_neg e]
      exact (key_div v w (hr v List.mem_cons_self) (hs w List.mem_cons_self) e).app _ _
theorem rlt_same (r : List RV) : rlt r r = false := by
  induction r with
  | nil => rfl
  | cons v r ih => rw [rlt, if_pos rfl, ih]
theorem row_lex {r s : List RV} (hl : r.length = s.length) (hr : ∀ v ∈ r, okV v) (hs : ∀ v ∈ s, okV v) : HT.lexLt (keyR r) (keyR s) = rlt r s := by
  by_cases e : r = s
  · subst e
    rw [lex_same, rlt_same]
  · exact (row_div r s hl hr hs e).lex
end M5
end

section
-- part K05N
set_option Elab.async false
set_option linter.all false
set_option maxRecDepth 100000
set_option maxHeartbeats 2000000
/-! K05N: reading back; core Lean -/
namespace M5
open PySem PySem.Spec PyProof.Rows L2 Fw
/-- one sign's number read; none: no such sign -/
def chr (b : Int) : Option Nat := if 0 ≤ b ∧ b < 95 then alphabet[b.toNat]? else none
theorem chr_sgn {c : Nat} (h : c ∈ alphabet) : chr (sgn c : Int) = some c := by
  have h2 := sgn_ok h
  rw [chr, if_pos (by omega)]
  exact h2.2
theorem chr_ok {b : Int} {c : Nat} (h : chr b = some c) : c ∈ alphabet ∧ (sgn c : Int) = b := by
  rw [chr] at h
  split at h
  · rename_i h1
    obtain ⟨d, hd, e, s⟩ := sgn_at (i := b.toNat) (by omega)
    rw [e] at h
    cases h
    exact ⟨hd, by omega⟩
  · cases h
theorem chr_none {b : Int} (h : chr b = none) : ¬ (0 ≤ b ∧ b < 95) := fun h1 => by
  rw [chr, if_pos h1] at h
  obtain ⟨d, hd, e, s⟩ := sgn_at (i := b.toNat) (by omega)
  rw [e] at h
  cases h
/-- a text's signs up to the byte 1, and how many bytes it takes with it -/
def tfk : List Int → Option (List Nat × Nat)
  | [] => none
  | b :: r => if b = 1 then some ([], 1) else match chr (b - 2) with
    | none => none
    | some c => (tfk r).map fun q => (c :: q.1, q.2 + 1)
/-- a value from a key's bytes, and how many it takes -/
def vfk : List Int → Option (RV × Nat)
  | [] => none
  | b :: r =>
    if b = 1 then some (.non, 1)
    else if b = 2 then (if r.length < 8 then none else if HI < fromL (r.take 8) - HI then none else some (.num (fromL (r.take 8) - HI), 9))
    else if b = 3 then (tfk r).map fun q => (.txt q.1, q.2 + 1)
    else none
theorem tfk_len : ∀ {d : List Int} {l : List Nat} {k : Nat}, tfk d = some (l, k) → 0 < k ∧ k ≤ d.length
  | [], l, k, h => by cases h
  | b :: r, l, k, h => by
    rw [tfk] at h
    split at h
    · cases h; simp
    · split at h
      · cases h
      · obtain ⟨⟨l', k'⟩, h1, h2⟩ := Option.map_eq_some_iff.mp h
        cases h2
        have := tfk_len h1
        simp only [List.length_cons]
        omega
theorem vfk_len {d : List Int} {v : RV} {k : Nat} (h : vfk d = some (v, k)) : 0 < k ∧ k ≤ d.length := by
  cases d with
  | nil => cases h
  | cons b r =>
    rw [vfk] at h
    split at h
    · cases h; simp
    · split at h
      · split at h
        · cases h
        · split at h
          · cases h
          · cases h; simp only [List.length_cons]; omega
      · split at h
        · obtain ⟨⟨l', k'⟩, h1, h2⟩ := Option.map_eq_some_iff.mp h
          cases h2
          have := tfk_len h1
          simp only [List.length_cons]
          omega
        · cases h
theorem tfk_sg : ∀ (l : List Nat) (r : List Int), (∀ c ∈ l, c ∈ alphabet) → tfk (sg l ++ 1 :: r) = some (l, l.length + 1)
  | [], r, _ => by
    show tfk (1 :: r) = _
    rw [tfk, if_pos rfl]
    rfl
  | c :: l, r, h => by
    have ih := tfk_sg l r fun x hx => h x (List.mem_cons_of_mem _ hx)
    show tfk (((sgn c + 2 : Nat) : Int) :: (sg l ++ 1 :: r)) = _
    have e : ((sgn c + 2 : Nat) : Int) - 2 = (sgn c : Int) := by omega
    rw [tfk, if_neg (by omega), e, chr_sgn (h c List.mem_cons_self), ih]
    rfl
theorem vfk_key (v : RV) (r : List Int) (h : okV v) : vfk (keyV v ++ r) = some (v, (keyV v).length) := by
  cases v with
  | non =>
    show vfk (1 :: r) = _
    rw [vfk, if_pos rfl]
    rfl
  | txt l =>
    show vfk (3 :: (sg l ++ [1] ++ r)) = _
    rw [vfk, if_neg (by decide), if_neg (by decide), if_pos rfl, List.append_assoc]
    show Option.map _ (tfk (sg l ++ 1 :: r)) = _
    rw [tfk_sg l r h]
    show some (RV.txt l, l.length + 1 + 1) = some (RV.txt l, (3 :: (sg l ++ [1])).length)
    simp [sg]
  | num n =>
    have hn : -HI ≤ n ∧ n ≤ HI := h
    have e8 : ((fixedL (n + HI) 8) ++ r).take 8 = fixedL (n + HI) 8 := by
      rw [List.take_append, List.take_of_length_le (by rw [fixed_len]; exact Nat.le_refl _), fixed_len]
      simp
    have ef := from_fixed 8 (n + HI) (by omega) (Int.lt_of_le_of_lt (by omega : n + HI ≤ 2 * HI) (by decide))
    show vfk (2 :: (fixedL (n + HI) 8 ++ r)) = _
    rw [vfk, if_neg (by decide), if_pos rfl, if_neg (by rw [List.length_append, fixed_len]; omega), e8, ef, if_neg (by omega)]
    have e9 : n + HI - HI = n := by omega
    rw [e9]
    show some (RV.num n, 9) = some (RV.num n, (2 :: fixedL (n + HI) 8).length)
    rw [List.length_cons, fixed_len]
theorem tfk_back : ∀ {d : List Int} {l : List Nat} {k : Nat}, tfk d = some (l, k) → (∀ c ∈ l, c ∈ alphabet) ∧ sg l ++ [1] = d.take k ∧ l.length ≤ k
  | [], l, k, h => by cases h
  | b :: r, l, k, h => by
    rw [tfk] at h
    split at h
    · rename_i e
      cases h
      subst e
      exact ⟨fun c hc => absurd hc List.not_mem_nil, rfl, Nat.zero_le _⟩
    · split at h
      · cases h
      · rename_i c hc
        obtain ⟨⟨l', k'⟩, h1, h2⟩ := Option.map_eq_some_iff.mp h
        cases h2
        obtain ⟨i1, i2, i3⟩ := tfk_back h1
        obtain ⟨c1, c2⟩ := chr_ok hc
        refine ⟨fun x hx => ?_, ?_, ?_⟩
        · rcases List.mem_cons.mp hx with rfl | hx
          · exact c1
          · exact i1 x hx
        · rw [List.take_succ_cons, ← i2]
          show ((sgn c + 2 : Nat) : Int) :: (sg l' ++ [1]) = _
          rw [show ((sgn c + 2 : Nat) : Int) = b by omega]
        · show l'.length + 1 ≤ k' + 1
          omega
theorem vfk_back {d : List Int} {v : RV} {k : Nat} (hb : Byt d) (h : vfk d = some (v, k)) : okV v ∧ keyV v = d.take k := by
  cases d with
  | nil => cases h
  | cons b r =>
    rw [vfk] at h
    split at h
    · rename_i e
      cases h
      subst e
      exact ⟨trivial, rfl⟩
    · split at h
      · rename_i e
        subst e
        split at h
        · cases h
        · rename_i hl
          split at h
          · cases h
          · rename_i hh
            cases h
            have h8 : (r.take 8).length = 8 := by rw [List.length_take]; omega
            have hb8 : Byt (r.take 8) := fun c hc => hb c (List.mem_cons_of_mem _ (List.mem_of_mem_take hc))
            have bd := from_bound _ hb8
            have ff := fixed_from _ hb8
            rw [h8] at ff
            refine ⟨⟨by omega, by omega⟩, ?_⟩
            show 2 :: fixedL (fromL (r.take 8) - HI + HI) 8 = _
            rw [show fromL (r.take 8) - HI + HI = fromL (r.take 8) by omega, ff]
            rfl
      · split at h
        · rename_i e
          subst e
          obtain ⟨⟨l', k'⟩, h1, h2⟩ := Option.map_eq_some_iff.mp h
          cases h2
          obtain ⟨i1, i2, _⟩ := tfk_back h1
          exact ⟨i1, by rw [List.take_succ_cons, ← i2]; rfl⟩
        · cases h
/-- all values of a key; the fuel: more than its bytes -/
def vsk : Nat → List Int → Option (List RV)
  | 0, _ => none
  | f + 1, d => if d = [] then some [] else match vfk d with
    | none => none
    | some (v, k) => (vsk f (d.drop k)).map (v :: ·)
theorem vsk_key : ∀ (r : List RV) (f : Nat), (∀ v ∈ r, okV v) → r.length < f → vsk f (keyR r) = some r
  | [], f + 1, _, _ => by rw [vsk]; rfl
  | v :: r, f + 1, h, hf => by
    have hv := vfk_key v (keyR r) (h v List.mem_cons_self)
    have ne : keyR (v :: r) ≠ [] := by cases v <;> simp [keyR, keyV]
    have e : keyR (v :: r) = keyV v ++ keyR r := rfl
    rw [vsk, if_neg ne, e, hv]
    show Option.map _ (vsk f ((keyV v ++ keyR r).drop (keyV v).length)) = _
    rw [List.drop_append, List.drop_of_length_le (Nat.le_refl _), Nat.sub_self, List.drop_zero, List.nil_append, vsk_key r f (fun x hx => h x (List.mem_cons_of_mem _ hx)) (by simpa using hf)]
    rfl
theorem byt_drop {d : List Int} (h : Byt d) (k : Nat) : Byt (d.drop k) := fun b hb => h b (List.mem_of_mem_drop hb)
theorem vsk_back : ∀ {f : Nat} {d : List Int} {r : List RV}, Byt d → vsk f d = some r → (∀ v ∈ r, okV v) ∧ keyR r = d ∧ r.length ≤ d.length
  | 0, d, r, _, h => by cases h
  | f + 1, d, r, hb, h => by
    rw [vsk] at h
    split at h
    · rename_i e
      cases h
      subst e
      exact ⟨fun v hv => absurd hv List.not_mem_nil, rfl, Nat.le_refl _⟩
    · split at h
      · cases h
      · rename_i v k hv
        obtain ⟨r', h1, h2⟩ := Option.map_eq_some_iff.mp h
        subst h2
        obtain ⟨i1, i2, i3⟩ := vsk_back (byt_drop hb k) h1
        obtain ⟨o1, o2⟩ := vfk_back hb hv
        have kl := vfk_len hv
        refine ⟨fun x hx => ?_, ?_, ?_⟩
        · rcases List.mem_cons.mp hx with rfl | hx
          · exact o1
          · exact i1 x hx
        · show keyV v ++ keyR r' = d
          rw [o2, i2, List.take_append_drop]
        · rw [List.length_drop] at i3
          rw [List.length_cons]
          omega
/-! natural numbers -/
def nat7 (n : Nat) : List Int := if n < 128 then [(n : Int)] else ((n % 128 + 128 : Nat) : Int) :: nat7 (n / 128)
termination_by n
theorem nat7_lt {n : Nat} (h : n < 128) : nat7 n = [(n : Int)] := by rw [nat7, if_pos h]
theorem nat7_ge {n : Nat} (h : ¬ n < 128) : nat7 n = ((n % 128 + 128 : Nat) : Int) :: nat7 (n / 128) := by rw [nat7, if_neg h]
/-- a number read: the flag: nothing is read yet -/
def nf : Bool → List Int → Option (Nat × Nat)
  | _, [] => none
  | f, b :: r => if b < 128 then (if b = 0 ∧ f = false then none else some ((b % 128).toNat, 1)) else (nf false r).map fun q => ((b % 128).toNat + 128 * q.1, q.2 + 1)
theorem nf_len : ∀ {f : Bool} {d : List Int} {m k : Nat}, nf f d = some (m, k) → 0 < k ∧ k ≤ d.length
  | f, [], m, k, h => by cases f <;> cases h
  | f, b :: r, m, k, h => by
    rw [nf] at h
    split at h
    · split at h
      · cases h
      · cases h; simp
    · obtain ⟨⟨m', k'⟩, h1, h2⟩ := Option.map_eq_some_iff.mp h
      cases h2
      have := nf_len h1
      simp only [List.length_cons]
      omega
theorem nf_nat7 (n : Nat) : ∀ (f : Bool) (r : List Int), (f = true ∨ n ≠ 0) → nf f (nat7 n ++ r) = some (n, (nat7 n).length) := by
  induction n using Nat.strongRecOn with
  | _ n ih =>
    intro f r h
    by_cases c : n < 128
    · rw [nat7_lt c]
      show nf f ((n : Int) :: r) = _
      have c2 : ¬ ((n : Int) = 0 ∧ f = false) := fun q => by
        rcases h with h | h
        · rw [h] at q; cases q.2
        · omega
      rw [nf, if_pos (by omega), if_neg c2]
      show some (((n : Int) % 128).toNat, 1) = some (n, 1)
      rw [show ((n : Int) % 128).toNat = n by omega]
    · rw [nat7_ge c]
      show nf f (((n % 128 + 128 : Nat) : Int) :: (nat7 (n / 128) ++ r)) = _
      rw [nf, if_neg (by omega), ih (n / 128) (by omega) false r (.inr (by omega))]
      show some ((((n % 128 + 128 : Nat) : Int) % 128).toNat + 128 * (n / 128), (nat7 (n / 128)).length + 1) = some (n, (nat7 (n / 128)).length + 1)
      rw [show (((n % 128 + 128 : Nat) : Int) % 128).toNat + 128 * (n / 128) = n by omega]
theorem nf_back : ∀ {f : Bool} {d : List Int} {m k : Nat}, Byt d → nf f d = some (m, k) → nat7 m = d.take k ∧ (f = true ∨ m ≠ 0)
  | f, [], m, k, _, h => by cases f <;> cases h
  | f, b :: r, m, k, hb, h => by
    have b1 := hb b List.mem_cons_self
    rw [nf] at h
    split at h
    · rename_i c
      split at h
      · cases h
      · rename_i c2
        cases h
        refine ⟨?_, ?_⟩
        · rw [nat7_lt (by omega)]
          show [(((b % 128).toNat : Nat) : Int)] = [b]
          rw [show (((b % 128).toNat : Nat) : Int) = b by omega]
        · cases f with
          | true => exact .inl rfl
          | false => exact .inr fun e => c2 ⟨by omega, rfl⟩
    · rename_i c
      obtain ⟨⟨m', k'⟩, h1, h2⟩ := Option.map_eq_some_iff.mp h
      cases h2
      obtain ⟨i1, i2⟩ := nf_back (fun x hx => hb x (List.mem_cons_of_mem _ hx)) h1
      have hm : m' ≠ 0 := by
        rcases i2 with i2 | i2
        · cases i2
        · exact i2
      refine ⟨?_, .inr (by omega)⟩
      rw [List.take_succ_cons, ← i1, nat7_ge (by omega)]
      rw [show (((((b % 128).toNat + 128 * m') % 128 + 128 : Nat)) : Int) = b by omega, show ((b % 128).toNat + 128 * m') / 128 = m' by omega]
theorem nat7_byt (n : Nat) : Byt (nat7 n) := by
  induction n using Nat.strongRecOn with
  | _ n ih =>
    by_cases c : n < 128
    · rw [nat7_lt c]
      intro b hb
      rw [List.mem_singleton.mp hb]
      omega
    · rw [nat7_ge c]
      intro b hb
      rcases List.mem_cons.mp hb with rfl | hb
      · omega
      · exact ih (n / 128) (by omega) b hb
theorem nat7_len (k : Nat) : ∀ n : Nat, n < 128 ^ (k + 1) → (nat7 n).length ≤ k + 1 := by
  induction k with
  | zero => intro n h; rw [nat7_lt (by simpa using h)]; exact Nat.le_refl _
  | succ k ih =>
    intro n h
    by_cases c : n < 128
    · rw [nat7_lt c]; simp
    · rw [nat7_ge c, List.length_cons]
      have := ih (n / 128) (by rw [Nat.pow_succ] at h; omega)
      omega
end M5
end

section
-- part K05R
set_option Elab.async false
set_option linter.all false
set_option maxRecDepth 100000
set_option maxHeartbeats 2000000
/-! K05R: records; core Lean -/
namespace M5
open PySem PySem.Spec PyProof.Rows L2 Fw
def zz (n : Int) : Nat := if 0 ≤ n then (2 * n).toNat else (-2 * n - 1).toNat
def uz (m : Nat) : Int := if m % 2 = 0 then (m / 2 : Nat) else -((m + 1) / 2 : Nat)
theorem uz_zz (n : Int) : uz (zz n) = n := by
  unfold uz zz
  split <;> split <;> omega
theorem zz_uz (m : Nat) : zz (uz m) = m := by
  unfold uz zz
  split <;> split <;> omega
def sgR (l : List Nat) : List Int := l.map fun c => ((sgn c : Nat) : Int)
def recV : RV → List Int
  | .non => [1]
  | .txt l => 3 :: (nat7 l.length ++ sgR l)
  | .num n => 2 :: nat7 (zz n)
def recR (r : List RV) : List Int := nat7 r.length ++ r.flatMap recV
def sgs : List Int → Option (List Nat)
  | [] => some []
  | b :: r => match chr b with
    | none => none
    | some c => (sgs r).map (c :: ·)
theorem sgs_sg : ∀ l : List Nat, (∀ c ∈ l, c ∈ alphabet) → sgs (sgR l) = some l
  | [], _ => rfl
  | c :: l, h => by
    show sgs (((sgn c : Nat) : Int) :: sgR l) = _
    rw [sgs, chr_sgn (h c List.mem_cons_self), sgs_sg l fun x hx => h x (List.mem_cons_of_mem _ hx)]
    rfl
theorem sgs_back : ∀ {d : List Int} {l : List Nat}, sgs d = some l → (∀ c ∈ l, c ∈ alphabet) ∧ sgR l = d
  | [], l, h => by cases h; exact ⟨fun c hc => absurd hc List.not_mem_nil, rfl⟩
  | b :: r, l, h => by
    rw [sgs] at h
    split at h
    · cases h
    · rename_i c hc
      obtain ⟨l', h1, h2⟩ := Option.map_eq_some_iff.mp h
      subst h2
      obtain ⟨i1, i2⟩ := sgs_back h1
      obtain ⟨c1, c2⟩ := chr_ok hc
      refine ⟨fun x hx => ?_, ?_⟩
      · rcases List.mem_cons.mp hx with rfl | hx
        · exact c1
        · exact i1 x hx
      · show (sgn c : Int) :: sgR l' = _
        rw [c2, i2]
/-- a value from a record's bytes, and how many it takes -/
def vfr : List Int → Option (RV × Nat)
  | [] => none
  | b :: r => if b = 1 then some (.non, 1) else match nf true r with
    | none => none
    | some (m, k) =>
      if b = 2 then (if -HI ≤ uz m ∧ uz m ≤ HI then some (.num (uz m), k + 1) else none)
      else if b ≠ 3 ∨ (r.drop k).length < m then none
      else (sgs ((r.drop k).take m)).map fun l => (.txt l, k + 1 + m)
theorem vfr_len {d : List Int} {v : RV} {k : Nat} (h : vfr d = some (v, k)) : 0 < k ∧ k ≤ d.length := by
  cases d with
  | nil => cases h
  | cons b r =>
    rw [vfr] at h
    split at h
    · cases h; simp
    · split at h
      · cases h
      · rename_i m k' hn
        have := nf_len hn
        split at h
        · split at h
          · cases h; simp only [List.length_cons]; omega
          · cases h
        · split at h
          · cases h
          · rename_i c
            obtain ⟨l, h1, h2⟩ := Option.map_eq_some_iff.mp h
            cases h2
            rw [List.length_drop] at c
            simp only [List.length_cons]
            omega
theorem vfr_rec (v : RV) (r : List Int) (h : okV v) : vfr (recV v ++ r) = some (v, (recV v).length) := by
  cases v with
  | non =>
    show vfr (1 :: r) = _
    rw [vfr, if_pos rfl]
    rfl
  | num n =>
    have hn : -HI ≤ n ∧ n ≤ HI := h
    show vfr (2 :: (nat7 (zz n) ++ r)) = _
    rw [vfr, if_neg (by decide), nf_nat7 _ true r (.inl rfl)]
    dsimp only
    rw [if_pos rfl, uz_zz, if_pos hn]
    rfl
  | txt l =>
    have e1 : (nat7 l.length ++ sgR l ++ r).drop (nat7 l.length).length = sgR l ++ r := by
      rw [List.append_assoc, List.drop_append, List.drop_of_length_le (Nat.le_refl _), Nat.sub_self, List.drop_zero, List.nil_append]
    have el : (sgR l).length = l.length := by simp [sgR]
    have e2 : (sgR l ++ r).take l.length = sgR l := by rw [← el]; simp
    show vfr (3 :: (nat7 l.length ++ sgR l ++ r)) = _
    rw [vfr, if_neg (by decide), List.append_assoc, nf_nat7 _ true _ (.inl rfl), ← List.append_assoc]
    dsimp only
    rw [if_neg (by decide), e1, if_neg (by rw [List.length_append, el]; intro q; rcases q with q | q; exact q rfl; omega), e2, sgs_sg l h]
    show some (RV.txt l, (nat7 l.length).length + 1 + l.length) = some (RV.txt l, (3 :: (nat7 l.length ++ sgR l)).length)
    rw [List.length_cons, List.length_append, el, show (nat7 l.length).length + 1 + l.length = (nat7 l.length).length + l.length + 1 by omega]
theorem vfr_back {d : List Int} {v : RV} {k : Nat} (hb : Byt d) (h : vfr d = some (v, k)) : okV v ∧ recV v = d.take k := by
  cases d with
  | nil => cases h
  | cons b r =>
    have hbr : Byt r := fun x hx => hb x (List.mem_cons_of_mem _ hx)
    rw [vfr] at h
    split at h
    · rename_i e
      cases h
      subst e
      exact ⟨trivial, rfl⟩
    · split at h
      · cases h
      · rename_i m k' hn
        obtain ⟨n1, _⟩ := nf_back hbr hn
        have nl := nf_len hn
        split at h
        · rename_i e
          subst e
          split at h
          · rename_i c
            cases h
            refine ⟨c, ?_⟩
            show 2 :: nat7 (zz (uz m)) = _
            rw [zz_uz, n1, List.take_succ_cons]
          · cases h
        · split at h
          · cases h
          · rename_i c
            obtain ⟨l, h1, h2⟩ := Option.map_eq_some_iff.mp h
            cases h2
            obtain ⟨i1, i2⟩ := sgs_back h1
            have b3 : b = 3 := by
              by_cases q : b = 3
              · exact q
              · exact absurd (.inl q) c
            subst b3
            have el : l.length = m := by
              have e3 : (sgR l).length = l.length := by simp [sgR]
              rw [← e3, i2, List.length_take]
              rw [List.length_drop] at c
              rw [List.length_drop]
              omega
            refine ⟨i1, ?_⟩
            show 3 :: (nat7 l.length ++ sgR l) = _
            rw [el, n1, i2, show k' + 1 + m = (k' + m) + 1 by omega, List.take_succ_cons, List.take_add]
/-- so many values of a record, and the bytes they take -/
def vsr : Nat → List Int → Option (List RV × Nat)
  | 0, _ => some ([], 0)
  | n + 1, d => match vfr d with
    | none => none
    | some (v, k) => (vsr n (d.drop k)).map fun q => (v :: q.1, k + q.2)
theorem vsr_rec : ∀ (r : List RV) (t : List Int), (∀ v ∈ r, okV v) → vsr r.length (r.flatMap recV ++ t) = some (r, (r.flatMap recV).length)
  | [], t, _ => rfl
  | v :: r, t, h => by
    have e : (v :: r).flatMap recV ++ t = recV v ++ (r.flatMap recV ++ t) := by simp
    rw [e, List.length_cons, vsr, vfr_rec v _ (h v List.mem_cons_self)]
    dsimp only
    rw [List.drop_append, List.drop_of_length_le (Nat.le_refl _), Nat.sub_self, List.drop_zero, List.nil_append, vsr_rec r t fun x hx => h x (List.mem_cons_of_mem _ hx)]
    show some (v :: r, (recV v).length + (r.flatMap recV).length) = some (v :: r, ((v :: r).flatMap recV).length)
    simp
theorem vsr_back : ∀ {n : Nat} {d : List Int} {r : List RV} {k : Nat}, Byt d → vsr n d = some (r, k) → (∀ v ∈ r, okV v) ∧ r.flatMap recV = d.take k ∧ r.length = n ∧ n ≤ k ∧ k ≤ d.length
  | 0, d, r, k, _, h => by cases h; exact ⟨fun v hv => absurd hv List.not_mem_nil, by simp, rfl, Nat.le_refl _, Nat.zero_le _⟩
  | n + 1, d, r, k, hb, h => by
    rw [vsr] at h
    split at h
    · cases h
    · rename_i v k1 hv
      obtain ⟨⟨r', k2⟩, h1, h2⟩ := Option.map_eq_some_iff.mp h
      cases h2
      obtain ⟨i1, i2, i3, i4, i5⟩ := vsr_back (byt_drop hb k1) h1
      obtain ⟨o1, o2⟩ := vfr_back hb hv
      have kl := vfr_len hv
      rw [List.length_drop] at i5
      refine ⟨fun x hx => ?_, ?_, by rw [List.length_cons, i3], by omega, by omega⟩
      · rcases List.mem_cons.mp hx with rfl | hx
        · exact o1
        · exact i1 x hx
      · show recV v ++ r'.flatMap recV = _
        rw [o2, i2, ← List.take_add]
/-- a row from a record -/
def rowOf (d : List Int) : Option (List RV) := match nf true d with
  | none => none
  | some (m, k) => match vsr m (d.drop k) with
    | none => none
    | some (r, j) => if k + j = d.length then some r else none
theorem rowOf_rec {r : List RV} (h : ∀ v ∈ r, okV v) : rowOf (recR r) = some r := by
  have e := vsr_rec r [] h
  rw [List.append_nil] at e
  rw [rowOf, recR, nf_nat7 _ true _ (.inl rfl)]
  dsimp only
  rw [List.drop_append, List.drop_of_length_le (Nat.le_refl _), Nat.sub_self, List.drop_zero, List.nil_append, e]
  dsimp only
  rw [if_pos (by rw [List.length_append])]
theorem rowOf_back {d : List Int} {r : List RV} (hb : Byt d) (h : rowOf d = some r) : (∀ v ∈ r, okV v) ∧ recR r = d ∧ r.length ≤ d.length := by
  rw [rowOf] at h
  split at h
  · cases h
  · rename_i m k hn
    split at h
    · cases h
    · rename_i r' j hv
      split at h
      · rename_i e
        cases h
        obtain ⟨n1, _⟩ := nf_back hb hn
        obtain ⟨i1, i2, i3, i4, i5⟩ := vsr_back (byt_drop hb k) hv
        refine ⟨i1, ?_, by omega⟩
        rw [List.length_drop] at i5
        have e3 : (d.drop k).take j = d.drop k := List.take_of_length_le (by rw [List.length_drop]; omega)
        rw [recR, i3, n1, i2, e3, List.take_append_drop]
      · cases h
theorem sgR_byt {l : List Nat} (h : ∀ c ∈ l, c ∈ alphabet) : Byt (sgR l) := by
  intro b hb
  obtain ⟨c, hc, rfl⟩ := List.mem_map.mp hb
  have := (sgn_ok (h c hc)).1
  omega
theorem recV_byt {v : RV} (h : okV v) : Byt (recV v) := by
  cases v with
  | non => intro b hb; rw [List.mem_singleton.mp hb]; decide
  | num n =>
    intro b hb
    rcases List.mem_cons.mp hb with rfl | hb
    · decide
    · exact nat7_byt _ b hb
  | txt l =>
    intro b hb
    rcases List.mem_cons.mp hb with rfl | hb
    · decide
    · rcases List.mem_append.mp hb with hb | hb
      · exact nat7_byt _ b hb
      · exact sgR_byt h b hb
theorem recR_byt {r : List RV} (h : ∀ v ∈ r, okV v) : Byt (recR r) := by
  intro b hb
  rcases List.mem_append.mp hb with hb | hb
  · exact nat7_byt _ b hb
  · obtain ⟨v, hv, hb⟩ := List.mem_flatMap.mp hb
    exact recV_byt (h v hv) b hb
/-! the least key above a prefix -/
def upLen (d : List Int) : Nat := (d.reverse.dropWhile (· == 255)).length
theorem upLen_le (d : List Int) : upLen d ≤ d.length := by
  unfold upLen
  have := List.dropWhile_sublist (p := (· == (255 : Int))) (l := d.reverse)
  have := this.length_le
  simpa using this
theorem upLen_snoc (d : List Int) (b : Int) : upLen (d ++ [b]) = if b = 255 then upLen d else d.length + 1 := by
  unfold upLen
  rw [List.reverse_append, List.reverse_singleton, List.singleton_append, List.dropWhile_cons]
  by_cases h : b = 255
  · simp [h]
  · simp [h]
theorem upLen_pos {d : List Int} {b : Int} (h : b ∈ d) (hb : b ≠ 255) : 0 < upLen d := by
  rw [← List.reverse_reverse d] at h ⊢
  generalize d.reverse = e at *
  induction e with
  | nil => cases h
  | cons c e ih =>
    rw [List.reverse_cons] at h ⊢
    rw [upLen_snoc]
    split
    · rename_i q
      refine ih ?_
      rcases List.mem_append.mp h with h | h
      · exact h
      · rw [List.mem_singleton.mp h] at hb
        exact absurd q hb
    · omega
def upper (d : List Int) : Option (List Int) := if upLen d = 0 then none else some (d.take (upLen d - 1) ++ [d.getD (upLen d - 1) 0 + 1])
theorem upper_ok {d : List Int} (h : 0 < upLen d) (q : List Int) : ∃ u, upper d = some u ∧ HT.lexLt (d ++ q) u = true ∧ u.length = upLen d ∧ u.take (upLen d - 1) = d.take (upLen d - 1) := by
  have hl := upLen_le d
  refine ⟨d.take (upLen d - 1) ++ [d.getD (upLen d - 1) 0 + 1], by rw [upper, if_neg (by omega)], ?_, ?_, ?_⟩
  · have hlt : upLen d - 1 < d.length := by omega
    have e : d = d.take (upLen d - 1) ++ d[upLen d - 1] :: d.drop (upLen d - 1 + 1) := by
      rw [← List.drop_eq_getElem_cons hlt, List.take_append_drop]
    have e2 : d.getD (upLen d - 1) 0 = d[upLen d - 1] := by simp [List.getD, List.getElem?_eq_getElem hlt]
    have dv : Div (d ++ q) (d.take (upLen d - 1) ++ [d.getD (upLen d - 1) 0 + 1]) true :=
      ⟨d.take (upLen d - 1), d[upLen d - 1], d.getD (upLen d - 1) 0 + 1, d.drop (upLen d - 1 + 1) ++ q, [], by
        have e4 : d ++ q = (d.take (upLen d - 1) ++ d[upLen d - 1] :: d.drop (upLen d - 1 + 1)) ++ q := by rw [← e]
        rw [e4, List.append_assoc, List.cons_append], rfl, by rw [e2]; omega, by rw [e2]; exact (decide_eq_true (by omega)).symm⟩
    exact dv.lex
  · rw [List.length_append, List.length_take, List.length_singleton]
    omega
  · rw [List.take_append, List.take_take, Nat.min_self, List.length_take, show upLen d - 1 - min (upLen d - 1) d.length = 0 by omega, List.take_zero, List.append_nil]
end M5
end

section
-- part K05B
set_option Elab.async false
set_option linter.all false
set_option maxRecDepth 100000
set_option maxHeartbeats 800000
open PySem PySem.Spec PyProof.Rows L2 Fw
local macro_rules | `(tactic| walk_at "e1") => `(tactic| first
  | ((with_reducible refine' w_var ?hv ?_); (case hv => rfl))
  | with_reducible refine w_c ?_
  | with_reducible refine w_op ?_
  | with_reducible refine w_un ?_
  | with_reducible refine w_cons ?_
  | with_reducible refine w_nil ?_
  | with_reducible refine w_cl ?_
  | with_reducible refine w_cb ?_
  | with_reducible refine w_gname ?_
  | with_reducible refine w_gsub ?_
  | with_reducible refine w_test ?_
  | with_reducible refine w_B ?_
  | with_reducible refine w_bl ?_
  | with_reducible refine w_and ?_
  | with_reducible refine w_or ?_
  | with_reducible refine w_not ?_
  | with_reducible refine w_if ?_
  | with_reducible refine w_I0 ?_
  | with_reducible refine w_ipI ?_
  | with_reducible refine w_eqS ?_
  | with_reducible refine w_neS ?_
  | with_reducible refine w_eqI ?_
  | ((with_reducible refine w_eq ?hs ?_); (case hs => rfl))
  | ((with_reducible refine w_ne ?hs ?_); (case hs => rfl))
  | with_reducible refine w_fld ?_
  | with_reducible refine w_bm ?_
  | with_reducible refine w_bm0 ?_
  | with_reducible refine w_sl ?_
  | with_reducible refine w_part ?_
  | with_reducible refine w_partI ?_
  | with_reducible refine w_nopart ?_
  | ((with_reducible refine' w_ixL ?hh ?ha ?_); (case hh => first | assumption | exact upd_same); (case ha => rfl))
  | ((with_reducible refine' w_setLu ?ha ?_); (case ha => rfl))
  | ((with_reducible refine' w_setL ?hh ?ha ?_); (case hh => first | assumption | exact upd_same); (case ha => rfl))
  | with_reducible refine w_iteT ?_
  | with_reducible refine w_iteF ?_
  | with_reducible refine w_lst ?_
  | with_reducible refine w_tup ?_
  | ((with_reducible refine w_new ?hz ?_); (case hz => rfl))
  | with_reducible refine w_lc ?_
  | with_reducible refine w_iL ?_
  | with_reducible refine w_iT ?_
  | with_reducible refine w_iR1 ?_
  | with_reducible refine w_iR2 ?_
  | with_reducible refine w_yes ?_
  | with_reducible refine w_iStr ?_
  | with_reducible exact tyS
  | with_reducible refine And.intro tyS ?_
  | ((with_reducible refine w_find3 ?_); (first | rw [find3_one] | rw [starts3] | skip))
  | ((with_reducible refine w_2s ?_); (try rw [find_one]))
  | ((with_reducible refine w_inS ?_); rw [S_list])
  | ((with_reducible refine w_lenS ?hz ?_); (case hz => first | assumption | omega | decide); rw [SX.S_len])
  | ((with_reducible refine w_addS ?hz ?_); (case hz => first | assumption | omega | decide); rw [vS_cat])
  | with_reducible refine w_mk ?_
  | with_reducible refine w_me ?_
  | with_reducible refine w_sfld ?_
  | ((with_reducible refine' w_gtup ?hh ?hn ?_); (case hh => first | assumption | exact upd_same); (case hn => rfl))
  | with_reducible refine w_gcons ?_
  | with_reducible refine w_gnil ?_
  | with_reducible refine w_repl ?_
  | with_reducible refine w_star ?_
  | with_reducible refine w_revL ?_
  | with_reducible refine w_isiS ?_
  | with_reducible refine w_isiI ?_
  | with_reducible refine w_isiN ?_
  | with_reducible refine w_chain ?_
  | with_reducible refine w_x1i ?_
  | with_reducible refine w_x1b ?_
  | with_reducible refine w_x1s ?_
  | with_reducible refine w_int1i ?_
  | with_reducible refine w_int1b ?_
  | ((with_reducible refine w_mod ?hc ?_); (case hc => omega))
  | ((with_reducible refine w_fdivW ?hc ?hd ?_); (case hc => omega); (case hd => omega))
  | ((with_reducible refine w_mul ?hc ?_); (case hc => first | exact Or.inr ⟨by decide, by decide⟩ | exact Or.inl ⟨by decide, by decide⟩))
  | ((with_reducible refine w_pow ?hc ?_); (case hc => exact ⟨by decide, by decide, by decide⟩)))
local macro_rules | `(tactic| walk_at "s1") => `(tactic| first
  | with_reducible refine w_seq ?_
  | with_reducible refine w_asg ?_
  | with_reducible refine w_ret ?_
  | with_reducible refine w_drop ?_
  | with_reducible refine w_next ?_
  | with_reducible refine w_ifs ?_
  | ((with_reducible refine' w_aug ?hv ?_); (case hv => rfl))
  | with_reducible refine w_for ?_
  | walk_at "e1")
local macro_rules | `(tactic| walk_at "e") => `(tactic| repeat walk_at "e1")
local macro_rules | `(tactic| walk_at "g") => `(tactic| repeat walk_at "s1")

namespace K05
open M5
-- sign_number: 0:sign 1:place
abbrev s_sign_number : Stmt := top 15
theorem sc_sign_number : FnScope ["sign", "place"] ["sign"] (defScope s_sign_number) := ⟨rfl, rfl, rfl, by decide +kernel, rfl, by decide +kernel, by decide +kernel⟩
-- check_text: 0:text 1:sign
abbrev s_check_text : Stmt := top 16
theorem sc_check_text : FnScope ["text", "sign"] ["text"] (defScope s_check_text) := ⟨rfl, rfl, rfl, by decide +kernel, rfl, by decide +kernel, by decide +kernel⟩
-- fixed: 0:number 1:many 2:data 3:_
abbrev s_fixed : Stmt := top 17
theorem sc_fixed : FnScope ["number", "many", "data", "_"] ["number", "many"] (defScope s_fixed) := ⟨rfl, rfl, rfl, by decide +kernel, rfl, by decide +kernel, by decide +kernel⟩
-- number_from: 0:data 1:number 2:one
abbrev s_number_from : Stmt := top 18
theorem sc_number_from : FnScope ["data", "number", "one"] ["data"] (defScope s_number_from) := ⟨rfl, rfl, rfl, by decide +kernel, rfl, by decide +kernel, by decide +kernel⟩
-- sign_at: 0:number
abbrev s_sign_at : Stmt := top 24
theorem sc_sign_at : FnScope ["number"] ["number"] (defScope s_sign_at) := ⟨rfl, rfl, rfl, by decide +kernel, rfl, by decide +kernel, by decide +kernel⟩
-- key_of_value: 0:value 1:signs 2:sign
abbrev s_key_of_value : Stmt := top 19
theorem sc_key_of_value : FnScope ["value", "signs", "sign"] ["value"] (defScope s_key_of_value) := ⟨rfl, rfl, rfl, by decide +kernel, rfl, by decide +kernel, by decide +kernel⟩
-- key_of: 0:values 1:data 2:value
abbrev s_key_of : Stmt := top 20
theorem sc_key_of : FnScope ["values", "data", "value"] ["values"] (defScope s_key_of) := ⟨rfl, rfl, rfl, by decide +kernel, rfl, by decide +kernel, by decide +kernel⟩
-- natural: 0:number 1:data
abbrev s_natural : Stmt := top 25
theorem sc_natural : FnScope ["number", "data"] ["number"] (defScope s_natural) := ⟨rfl, rfl, rfl, by decide +kernel, rfl, by decide +kernel, by decide +kernel⟩
-- checksum: 0:data 1:first 2:second
abbrev s_checksum : Stmt := top 30
theorem sc_checksum : FnScope ["data", "first", "second"] ["data"] (defScope s_checksum) := ⟨rfl, rfl, rfl, by decide +kernel, rfl, by decide +kernel, by decide +kernel⟩
-- upper_key: 0:prefix 1:many
abbrev s_upper_key : Stmt := top 31
theorem sc_upper_key : FnScope ["prefix", "many"] ["prefix"] (defScope s_upper_key) := ⟨rfl, rfl, rfl, by decide +kernel, rfl, by decide +kernel, by decide +kernel⟩
/-- a text, a number of the top -/
def Ct (mg : Str → Option Value) (x : Str) (l : List Nat) : Prop := ∃ u, mg x = some u ∧ RelV (.str (S l)) u
def Cin (mg : Str → Option Value) (x : Str) (n : Int) : Prop := ∃ u, mg x = some u ∧ RelV (.int n) u
structure Ex (K : PySem.W.Frag) (mg : Str → Option Value) (x : Str) (C : Addr) : Prop where
  ox : PySem.W.excIn K C [.type "ValueError", .type "Exception", .type "BaseException", .type "object"] "ValueError.__new__" = true
  og : mg x = some (.ref C)
  ok : PySem.W.keepIn K (.ref C) = true
  ob : PySem.W.subIn K (.ref C) (.type "BaseException") = some true
  ot : PySem.W.typeIn K (.ref C) = some (.type "type")
structure Wx (K : PySem.W.Frag) (mg : Str → Option Value) (cTE cRF : Addr) : Prop extends Wl K mg where
  n_tuple : mg "tuple" = none
  n_list : mg "list" = none
  n_isinstance : mg "isinstance" = none
  n_sum : mg "sum" = none
  g_accumulate : mg "accumulate" = some (.type "itertools.accumulate")
  e_TextError : Ex K mg "TextError" cTE
  e_RecordFault : Ex K mg "RecordFault" cRF
  c_ALPHABET : Ct mg "ALPHABET" alphabet
  c_HIGHEST : Cin mg "HIGHEST" 9223372036854775807
  c_NULL_MARK : Cin mg "NULL_MARK" 1
  c_INT_MARK : Cin mg "INT_MARK" 2
  c_TEXT_MARK : Cin mg "TEXT_MARK" 3
  c_TEXT_END : Cin mg "TEXT_END" 1
  c_FIRST_SIGN : Cin mg "FIRST_SIGN" 2
  c_INT_BYTES : Cin mg "INT_BYTES" 8
  c_MODULUS : Cin mg "MODULUS" 65521
  d_sign_number : FnP K mg "sign_number" s_sign_number
  d_check_text : FnP K mg "check_text" s_check_text
  d_fixed : FnP K mg "fixed" s_fixed
  d_number_from : FnP K mg "number_from" s_number_from
  d_sign_at : FnP K mg "sign_at" s_sign_at
  d_key_of_value : FnP K mg "key_of_value" s_key_of_value
  d_key_of : FnP K mg "key_of" s_key_of
  d_natural : FnP K mg "natural" s_natural
  d_checksum : FnP K mg "checksum" s_checksum
  d_upper_key : FnP K mg "upper_key" s_upper_key
section
variable {P : Program} {w : World} {K : PySem.W.Frag} {mg : Str → Option Value} {base : Heap} {cTE cRF : Addr}
def spSign (C : Addr) : Sp := fun vs H Q E => ∃ c : Nat, vs = [.str (S [c])] ∧ (c ∈ alphabet → Q (.int (sgn c : Nat)) H) ∧ (c ∉ alphabet → E (.ref C) none H)
theorem ok_sign_number (W : Wx K mg cTE cRF) : Cl P w K mg base 1 "sign_number" (spSign cTE) := by
  refine cl_mk W.d_sign_number sc_sign_number (fun _ _ _ _ _ _ us hl => match us, hl with | [_], _ => rfl) (fun vs H Q E h => ?_) (fun f cdv A outer s H vs Q E hr h => ?_)
  · obtain ⟨c, rfl, _⟩ := h; rfl
  obtain ⟨c, rfl, q1, q2⟩ := h
  refine ⟨_, (pss_cons (ps_set (i := 1) sc_sign_number.nd rfl (Or.inl rfl) (pe_bm PySem.F.plainAttrs_str PySem.F.slot_str_find PySem.F.type_str_find mt_find (C8.pe_gc rfl W.c_ALPHABET) (pa_cons (pv 0) pa_nil)))
    (pss_cons (ps_if (pt_cmpR op_lt (pv 1) pe_int (nomark _))
    (pss_one (ps_raise rfl (takes_of rfl rfl rfl rfl) (pmk_own PySem.F.excBase_ValueError W.e_TextError.ox W.e_TextError.og W.e_TextError.ok (raises_own W.e_TextError.ob W.e_TextError.ot) rfl)))
    pss_nil)
    (pss_one (ps_ret (pv 1))))), ?_⟩
  walk_at "g"
  cases e : alphabet.findIdx? (· == c) with
  | none =>
    have hn : c ∉ alphabet := fun hc => by
      have := List.findIdx?_eq_none_iff.mp e c hc
      simp at this
    simp only [e]
    refine w_iteD (fun c1 => ?_) (fun c1 => ?_)
    · exact q2 hn
    · exact absurd (by decide) c1
  | some k =>
    obtain ⟨hk, e1, _⟩ := List.findIdx?_eq_some_iff_getElem.mp e
    have hm : c ∈ alphabet := by
      have := List.getElem_mem hk
      rwa [eq_of_beq e1] at this
    have hs : sgn c = k := by
      have := List.findIdx?_eq_some_iff_findIdx_eq.mp e
      exact this.2
    simp only [e]
    refine w_iteD (fun c1 => ?_) (fun c1 => ?_)
    · exfalso
      have c2 : (k : Int) < 0 := c1
      omega
    · walk_at "g"
      have := q1 hm
      rw [hs] at this
      exact this
def spCheck (C : Addr) : Sp := fun vs H Q E => ∃ l : List Nat, vs = [.str (S l)] ∧ ((∀ c ∈ l, c ∈ alphabet) → Q (.str (S l)) H) ∧ ((¬ ∀ c ∈ l, c ∈ alphabet) → E (.ref C) none H)
theorem ok_check_text (W : Wx K mg cTE cRF) (c_sign_number : Cl P w K mg base 1 "sign_number" (spSign cTE)) : Cl P w K mg base 2 "check_text" (spCheck cTE) := by
  refine cl_mk W.d_check_text sc_check_text (fun _ _ _ _ _ _ us hl => match us, hl with | [_], _ => rfl) (fun vs H Q E h => ?_) (fun f cdv A outer s H vs Q E hr h => ?_)
  · obtain ⟨c, rfl, _⟩ := h; rfl
  obtain ⟨l, rfl, q1, q2⟩ := h
  refine ⟨_, (pss_cons (ps_for (passes_of rfl) rfl (pi_str (pv 0)) (pg_name (i := 1) sc_check_text.nd rfl (Or.inl rfl))
    (pss_one (ps_expr (pe_cl c_sign_number hr (by decide) rfl passD (pa_cons (pv 1) pa_nil)))))
    (pss_one (ps_ret (pv 0)))), ?_⟩
  walk_at "g"
  refine w_forS (fun i σ H' => H' = H ∧ (∀ c ∈ l.take i, c ∈ alphabet) ∧ ∃ v : Option V, σ = [some (.str (S l)), v]) ⟨rfl, by simp, none, rfl⟩ ?_ ?_
  · rintro i c σ H' hi ⟨rfl, ha, v, rfl⟩
    walk_at "g"
    refine ⟨c, rfl, fun hc => ?_, fun hc => ?_⟩
    · refine ⟨rfl, ?_, _, rfl⟩
      intro d hd
      rw [List.take_add_one, hi] at hd
      rcases List.mem_append.mp hd with hd | hd
      · exact ha d hd
      · rcases List.mem_singleton.mp (by simpa using hd) with rfl
        exact hc
    · exact q2 fun h => hc (h c (List.mem_of_getElem? hi))
  · rintro σ H' ⟨rfl, ha, v, rfl⟩
    rw [List.take_length] at ha
    walk_at "g"
    exact q1 ha
theorem same_upd {H H' : Hp} {L : Addr} {o : HO} (s : Same H H') (hL : H L = none) : Same H (upd H' L o) := fun b u e => by rw [upd_ne (ne_of_none e hL)]; exact s _ _ e
/-- a new tuple of ints -/
def GivesT (H : Hp) (Q : VK) (d : List Int) : Prop := ∀ (p : Addr) (H' : Hp), Same H H' → H p = none → H' p = some (.tup (d.map V.int)) → Q (.ref p) H'
def spFixed : Sp := fun vs H Q _ => ∃ (n : Int) (k : Nat), vs = [.int n, .int (k : Int)] ∧ k ≤ 64 ∧ GivesT H Q (fixedL n k)
theorem ok_fixed (W : Wx K mg cTE cRF) : Cl P w K mg base 1 "fixed" spFixed := by
  refine cl_mk W.d_fixed sc_fixed (fun _ _ _ _ _ _ us hl => match us, hl with | [_, _], _ => rfl) (fun vs H Q E h => ?_) (fun f cdv A outer s H vs Q E hr h => ?_)
  · obtain ⟨n, k, rfl, _⟩ := h; rfl
  obtain ⟨n, k, rfl, hk, q⟩ := h
  refine ⟨_, (pss_cons (ps_set (i := 2) sc_fixed.nd rfl (Or.inl rfl) (pe_lst pa_nil))
    (pss_cons (ps_for (passes_of rfl) rfl (pi_range1 rfl W.n_range (pa_cons (pv 1) pa_nil)) (pg_name (i := 3) sc_fixed.nd rfl (Or.inl rfl))
    (pss_cons (ps_expr (pe_bm PySem.F.plainAttrs_list PySem.F.slot_list_append PySem.F.type_list_append mt_append (pv 2) (pa_cons (pe_op op_mod (pv 0) pe_int) pa_nil)))
    (pss_one (ps_set (i := 0) sc_fixed.nd rfl (Or.inl rfl) (pe_op op_fdivW (pv 0) pe_int)))))
    (pss_one (ps_ret (pe_callTy call_tuple_of rfl W.n_tuple (by decide +kernel) (pa_cons (pe_revL (pv 2)) pa_nil)))))), ?_⟩
  walk_at "g"
  intro L hL
  walk_at "g"
  refine w_forRp ⟨by omega, by omega⟩ (fun i σ H' => ∃ (m : Int) (xs : List Int) (v : Option V), σ = [some (.int m), some (.int (k : Int)), some (.ref L), v] ∧ Same H H' ∧ H' L = some (.lst (xs.map V.int)) ∧ xs.length = i ∧ ∀ j, fixedL n (j + i) = fixedL m j ++ xs.reverse)
    ⟨n, [], none, rfl, same_new hL _, upd_same, rfl, fun j => by simp⟩ ?_ ?_
  · rintro i σ H' hi ⟨m, xs, v, rfl, sH, eL, hx, hf⟩
    walk_at "g"
    refine ⟨tyL eL, ?_⟩
    walk_at "g"
    refine w_app eL (by rw [List.length_map]; exact Nat.lt_of_lt_of_le (by omega : xs.length < 64) (by decide)) ?_
    walk_at "g"
    refine ⟨m / 256, xs ++ [m % 256], _, rfl, same_upd sH hL, by rw [upd_same, List.map_append]; rfl, by rw [List.length_append, hx]; rfl, fun j => ?_⟩
    have := hf (j + 1)
    rw [show j + (i + 1) = j + 1 + i by omega, this, fixedL, List.reverse_append, List.append_assoc]
    rfl
  · rintro σ H' ⟨m, xs, v, rfl, sH, eL, hx, hf⟩
    have e0 := hf 0
    have ek : ((k : Int)).toNat = k := by omega
    rw [ek, Nat.zero_add] at e0
    walk_at "g"
    refine ⟨L, xs.map V.int, rfl, SqL.of eL, fun R hR => ?_⟩
    walk_at "g"
    refine ⟨R, (xs.map V.int).reverse, rfl, .inl ⟨SqL.of upd_same, fun p hp => ?_⟩⟩
    refine q p _ ((sH.trans (same_new hR _)).trans (same_new hp _)) (sH.free (Same.free (same_new hR _) hp)) ?_
    rw [upd_same, e0, ← List.map_reverse]
    rfl
end
end K05
end

section
-- part K05C
set_option Elab.async false
set_option linter.all false
set_option maxRecDepth 100000
set_option maxHeartbeats 800000
open PySem PySem.Spec PyProof.Rows L2 Fw
local macro_rules | `(tactic| walk_at "e1") => `(tactic| first
  | ((with_reducible refine' w_var ?hv ?_); (case hv => rfl))
  | with_reducible refine w_c ?_
  | with_reducible refine w_op ?_
  | with_reducible refine w_un ?_
  | with_reducible refine w_cons ?_
  | with_reducible refine w_nil ?_
  | with_reducible refine w_cl ?_
  | with_reducible refine w_cb ?_
  | with_reducible refine w_gname ?_
  | with_reducible refine w_gsub ?_
  | with_reducible refine w_test ?_
  | with_reducible refine w_B ?_
  | with_reducible refine w_bl ?_
  | with_reducible refine w_and ?_
  | with_reducible refine w_or ?_
  | with_reducible refine w_not ?_
  | with_reducible refine w_if ?_
  | with_reducible refine w_I0 ?_
  | with_reducible refine w_ipI ?_
  | with_reducible refine w_eqS ?_
  | with_reducible refine w_neS ?_
  | with_reducible refine w_eqI ?_
  | ((with_reducible refine w_eq ?hs ?_); (case hs => rfl))
  | ((with_reducible refine w_ne ?hs ?_); (case hs => rfl))
  | with_reducible refine w_fld ?_
  | with_reducible refine w_bm ?_
  | with_reducible refine w_bm0 ?_
  | with_reducible refine w_sl ?_
  | with_reducible refine w_part ?_
  | with_reducible refine w_partI ?_
  | with_reducible refine w_nopart ?_
  | ((with_reducible refine' w_ixL ?hh ?ha ?_); (case hh => first | assumption | exact upd_same); (case ha => rfl))
  | ((with_reducible refine' w_setLu ?ha ?_); (case ha => rfl))
  | ((with_reducible refine' w_setL ?hh ?ha ?_); (case hh => first | assumption | exact upd_same); (case ha => rfl))
  | with_reducible refine w_iteT ?_
  | with_reducible refine w_iteF ?_
  | with_reducible refine w_lst ?_
  | with_reducible refine w_tup ?_
  | ((with_reducible refine w_new ?hz ?_); (case hz => rfl))
  | with_reducible refine w_lc ?_
  | with_reducible refine w_iL ?_
  | with_reducible refine w_iT ?_
  | with_reducible refine w_iR1 ?_
  | with_reducible refine w_iR2 ?_
  | with_reducible refine w_yes ?_
  | with_reducible refine w_iStr ?_
  | with_reducible exact tyS
  | with_reducible refine And.intro tyS ?_
  | ((with_reducible refine w_find3 ?_); (first | rw [find3_one] | rw [starts3] | skip))
  | ((with_reducible refine w_2s ?_); (try rw [find_one]))
  | ((with_reducible refine w_inS ?_); rw [S_list])
  | ((with_reducible refine w_lenS ?hz ?_); (case hz => first | assumption | omega | decide); rw [SX.S_len])
  | ((with_reducible refine w_addS ?hz ?_); (case hz => first | assumption | omega | decide); rw [vS_cat])
  | with_reducible refine w_mk ?_
  | with_reducible refine w_me ?_
  | with_reducible refine w_sfld ?_
  | ((with_reducible refine' w_gtup ?hh ?hn ?_); (case hh => first | assumption | exact upd_same); (case hn => rfl))
  | with_reducible refine w_gcons ?_
  | with_reducible refine w_gnil ?_
  | with_reducible refine w_repl ?_
  | with_reducible refine w_star ?_
  | with_reducible refine w_revL ?_
  | with_reducible refine w_isiS ?_
  | with_reducible refine w_isiI ?_
  | with_reducible refine w_isiN ?_
  | with_reducible refine w_chain ?_
  | with_reducible refine w_x1i ?_
  | with_reducible refine w_x1b ?_
  | with_reducible refine w_x1s ?_
  | with_reducible refine w_int1i ?_
  | with_reducible refine w_int1b ?_
  | ((with_reducible refine w_mod ?hc ?_); (case hc => omega))
  | ((with_reducible refine w_fdivW ?hc ?hd ?_); (case hc => omega); (case hd => omega))
  | ((with_reducible refine w_mul ?hc ?_); (case hc => first | exact Or.inr ⟨by decide, by decide⟩ | exact Or.inl ⟨by decide, by decide⟩))
  | ((with_reducible refine w_pow ?hc ?_); (case hc => exact ⟨by decide, by decide, by decide⟩)))
local macro_rules | `(tactic| walk_at "s1") => `(tactic| first
  | with_reducible refine w_seq ?_
  | with_reducible refine w_asg ?_
  | with_reducible refine w_ret ?_
  | with_reducible refine w_drop ?_
  | with_reducible refine w_next ?_
  | with_reducible refine w_ifs ?_
  | ((with_reducible refine' w_aug ?hv ?_); (case hv => rfl))
  | with_reducible refine w_for ?_
  | walk_at "e1")
local macro_rules | `(tactic| walk_at "e") => `(tactic| repeat walk_at "e1")
local macro_rules | `(tactic| walk_at "g") => `(tactic| repeat walk_at "s1")

namespace K05
open M5
section
variable {P : Program} {w : World} {K : PySem.W.Frag} {mg : Str → Option Value} {base : Heap} {cTE cRF : Addr}
def spNumF (K : PySem.W.Frag) : Sp := fun vs H Q _ => ∃ (a : Addr) (d : List Int), vs = [.ref a] ∧ SqT K H a (d.map V.int) ∧ Q (.int (fromL d)) H
theorem fromL_take {d : List Int} {i : Nat} {b : Int} (h : d[i]? = some b) : fromL (d.take (i + 1)) = fromL (d.take i) * 256 + b := by
  rw [List.take_add_one, h]
  exact fromL_snoc _ _
theorem ints_get {d : List Int} {i : Nat} {x : V} (h : (d.map V.int)[i]? = some x) : ∃ b, d[i]? = some b ∧ x = .int b := by
  rw [List.getElem?_map] at h
  cases e : d[i]? with
  | none => rw [e] at h; cases h
  | some b => rw [e] at h; exact ⟨b, rfl, (Option.some.inj h).symm⟩
theorem ok_number_from (W : Wx K mg cTE cRF) : Cl P w K mg base 1 "number_from" (spNumF K) := by
  refine cl_mk W.d_number_from sc_number_from (fun _ _ _ _ _ _ us hl => match us, hl with | [_], _ => rfl) (fun vs H Q E h => ?_) (fun f cdv A outer s H vs Q E hr h => ?_)
  · obtain ⟨a, d, rfl, _⟩ := h; rfl
  obtain ⟨a, d, rfl, hS, q⟩ := h
  refine ⟨_, (pss_cons (ps_set (i := 1) sc_number_from.nd rfl (Or.inl rfl) pe_int)
    (pss_cons (ps_for (passes_of rfl) rfl (pi_tup (pv 0)) (pg_name (i := 2) sc_number_from.nd rfl (Or.inl rfl))
    (pss_one (ps_set (i := 1) sc_number_from.nd rfl (Or.inl rfl) (pe_op op_add (pe_op op_mul (pv 1) pe_int) (pv 2)))))
    (pss_one (ps_ret (pv 1))))), ?_⟩
  walk_at "g"
  refine w_forT hS (fun i σ H' => H' = H ∧ ∃ v : Option V, σ = [some (.ref a), some (.int (fromL (d.take i))), v]) ⟨rfl, none, rfl⟩ (fun i σ H' _ h => by rw [h.1]; exact hS) ?_ ?_
  · rintro i x σ H' hi ⟨rfl, v, rfl⟩
    obtain ⟨b, hb, rfl⟩ := ints_get hi
    walk_at "g"
    exact ⟨rfl, _, by rw [fromL_take hb]; rfl⟩
  · rintro σ H' ⟨rfl, v, rfl⟩
    rw [List.length_map, List.take_length]
    walk_at "g"
    exact q
def spSignAt (C : Addr) : Sp := fun vs H Q E => ∃ b : Int, vs = [.int b] ∧ match chr b with
  | some c => Q (.str (S [c])) H
  | none => E (.ref C) none H
theorem ok_sign_at (W : Wx K mg cTE cRF) : Cl P w K mg base 1 "sign_at" (spSignAt cRF) := by
  refine cl_mk W.d_sign_at sc_sign_at (fun _ _ _ _ _ _ us hl => match us, hl with | [_], _ => rfl) (fun vs H Q E h => ?_) (fun f cdv A outer s H vs Q E hr h => ?_)
  · obtain ⟨b, rfl, _⟩ := h; rfl
  obtain ⟨b, rfl, q⟩ := h
  refine ⟨_, (pss_cons (ps_if (pt_not (pt_chain op_le op_lt pe_int (pv 0) (pe_callB call_len_str rfl W.n_len PySem.boot_len (pa_cons (C8.pe_gc rfl W.c_ALPHABET) pa_nil))))
    (pss_one (ps_raise rfl (takes_of rfl rfl rfl rfl) (pmk_own PySem.F.excBase_ValueError W.e_RecordFault.ox W.e_RecordFault.og W.e_RecordFault.ok (raises_own W.e_RecordFault.ob W.e_RecordFault.ot) rfl)))
    pss_nil)
    (pss_one (ps_ret (pe_ix ix_str (C8.pe_gc rfl W.c_ALPHABET) (pv 0) (fun _ _ => rfl))))), ?_⟩
  have el : alphabet.length = 95 := al_len
  walk_at "g"
  refine w_iteD (fun c1 => ?_) (fun c1 => ?_)
  · walk_at "g"
    rw [el]
    refine w_iteN (fun c2 => ?_) (fun c2 => ?_)
    · have e1 : chr b = none := by rw [chr, if_neg (fun h => c2 h.2)]
      rw [e1] at q
      exact q
    · obtain ⟨c, hc, e, es⟩ := sgn_at (i := b.toNat) (by omega)
      have e1 : chr b = some c := by rw [chr, if_pos ⟨c1, c2⟩]; exact e
      rw [e1] at q
      have eb : b = ((b.toNat : Nat) : Int) := by omega
      walk_at "g"
      rw [eb]
      exact w_ixS (by rw [el]; decide) e q
  · have e1 : chr b = none := by rw [chr, if_neg (fun h => c1 h.1)]
    rw [e1] at q
    walk_at "g"
    rw [Bool.not_false]
    walk_at "g"
    exact q
def vOf : RV → V
  | .non => .non
  | .txt l => .str (S l)
  | .num n => .int n
/-- a value that may be stored, of no great length -/
def okL (v : RV) : Prop := okV v ∧ match v with | .txt l => l.length ≤ 10000 | _ => True
def spKV : Sp := fun vs H Q _ => ∃ v : RV, vs = [vOf v] ∧ okL v ∧ GivesT H Q (keyV v)
theorem ok_key_of_value (W : Wx K mg cTE cRF) (c_sign_number : Cl P w K mg base 1 "sign_number" (spSign cTE)) (c_fixed : Cl P w K mg base 1 "fixed" spFixed) : Cl P w K mg base 2 "key_of_value" spKV := by
  refine cl_mk W.d_key_of_value sc_key_of_value (fun _ _ _ _ _ _ us hl => match us, hl with | [_], _ => rfl) (fun vs H Q E h => ?_) (fun f cdv A outer s H vs Q E hr h => ?_)
  · obtain ⟨v, rfl, _⟩ := h; rfl
  obtain ⟨v, rfl, ⟨ok, okl⟩, q⟩ := h
  refine ⟨_, (pss_cons (ps_if (pt_cmpR op_isN (pv 0) pe_non (nomark _))
    (pss_one (ps_ret (pe_tup (pa_cons (C8.pe_gc rfl W.c_NULL_MARK) pa_nil))))
    pss_nil)
    (pss_cons (ps_if (pt_val (pe_callB L2.call_isi rfl W.n_isinstance PyProof.Rows.boot_isinstance (pa_cons (pv 0) (pa_cons (pe_bltn (v := .ty "str") rfl W.n_str (by decide +kernel) rfl) pa_nil))))
    (pss_cons (ps_setLc (i := 1) (own := [("sign", 2)]) rfl sc_key_of_value.nd rfl rfl (sw_true rfl rfl rfl (by decide +kernel)) (pi_str (pv 0)) (blkOk_by (own := [("sign", 2)]) (N := ["value", "signs", "sign"]) (sc := defScope s_key_of_value) (by decide +kernel)) (fun _ _ _ _ _ => (pg_name (i := 2) sc_key_of_value.nd rfl (by first | exact Or.inl rfl | exact Or.inr rfl))) (fun _ _ _ _ _ => pts_nil) (fun _ _ _ _ _ => (pe_op op_add (pe_cl c_sign_number hr (by decide) rfl passL (pa_cons (pv 2) pa_nil)) (C8.pe_gc rfl W.c_FIRST_SIGN))))
    (pss_one (ps_ret (pe_tup (pa_cons (C8.pe_gc rfl W.c_TEXT_MARK) (StX.pa_star (pv 1) (pa_cons (C8.pe_gc rfl W.c_TEXT_END) pa_nil)))))))
    pss_nil)
    (pss_one (ps_ret (pe_tup (pa_cons (C8.pe_gc rfl W.c_INT_MARK) (StX.pa_star (pe_cl c_fixed hr (by decide) rfl passL (pa_cons (pe_op op_add (pv 0) (C8.pe_gc rfl W.c_HIGHEST)) (pa_cons (C8.pe_gc rfl W.c_INT_BYTES) pa_nil))) pa_nil))))))), ?_⟩
  cases v with
  | non =>
    have q2 : GivesT H Q [1] := q
    unfold vOf
    walk_at "g"
    refine ⟨rfl, ?_⟩
    rw [decide_eq_true rfl]
    walk_at "g"
    exact fun p hp => q2 p _ (same_new hp _) hp upd_same
  | txt l =>
    have ok2 : ∀ c ∈ l, c ∈ alphabet := ok
    have okl2 : l.length ≤ 10000 := okl
    have q2 : GivesT H Q (3 :: (sg l ++ [1])) := q
    unfold vOf
    walk_at "g"
    refine ⟨rfl, ?_⟩
    rw [decide_eq_false (fun e => by cases e)]
    walk_at "g"
    refine w_lcS (fun D hD => ⟨fun i H2 => Same H H2 ∧ H2 D = some (.lst ((sg (l.take i)).map V.int)), ⟨same_new hD _, upd_same⟩, ?_, ?_⟩)
    · rintro i c H2 hi ⟨s2, eD⟩
      walk_at "g"
      refine ⟨rfl, ?_⟩
      walk_at "g"
      refine ⟨c, rfl, fun hc => ?_, fun hc => absurd (ok2 c (List.mem_of_getElem? hi)) hc⟩
      walk_at "g"
      have hlt := (List.getElem?_eq_some_iff.mp hi).1
      refine ⟨_, eD, ?_, same_upd s2 hD, ?_⟩
      · simp only [sg, List.length_map, List.length_take]
        exact Nat.lt_of_lt_of_le (by omega : min i l.length < 10000) (by decide)
      · rw [upd_same, List.take_add_one, hi]
        simp [sg]
    · rintro H2 ⟨s2, eD⟩
      rw [List.take_length] at eD
      walk_at "g"
      refine ⟨D, _, rfl, .inr (SqL.of eD), ?_⟩
      walk_at "g"
      refine ⟨?_, fun p hp => ?_⟩
      · simp only [List.length_cons, List.length_append, List.length_map, sg, List.length_nil]
        exact Nat.le_trans (by omega : _ ≤ 10003) (by decide)
      · refine q2 p _ (s2.trans (same_new hp _)) (s2.free hp) ?_
        rw [upd_same]
        simp
  | num n =>
    have q2 : GivesT H Q (2 :: fixedL (n + HI) 8) := q
    unfold vOf
    walk_at "g"
    refine ⟨rfl, ?_⟩
    rw [decide_eq_false (fun e => by cases e)]
    walk_at "g"
    refine ⟨n + HI, 8, rfl, by decide, fun p H' sH fp ep => ?_⟩
    refine ⟨p, _, rfl, .inl (SqT.of ep), ?_⟩
    walk_at "g"
    intro p' hp'
    refine q2 p' _ (sH.trans (same_new hp' _)) (sH.free hp') ?_
    rw [upd_same]
    simp
def spKeyOf (K : PySem.W.Frag) : Sp := fun vs H Q _ => ∃ (a : Addr) (r : List RV), vs = [.ref a] ∧ SqT K H a (r.map vOf) ∧ (∀ v ∈ r, okL v) ∧ (keyR r).length ≤ 100000 ∧ GivesT H Q (keyR r)
theorem vals_get {r : List RV} {i : Nat} {x : V} (h : (r.map vOf)[i]? = some x) : ∃ v, r[i]? = some v ∧ x = vOf v := by
  rw [List.getElem?_map] at h
  cases e : r[i]? with
  | none => rw [e] at h; cases h
  | some b => rw [e] at h; exact ⟨b, rfl, (Option.some.inj h).symm⟩
theorem keyR_take {r : List RV} {i : Nat} {v : RV} (h : r[i]? = some v) : keyR (r.take (i + 1)) = keyR (r.take i) ++ keyV v := by
  rw [List.take_add_one, h]
  simp [keyR]
theorem keyR_le (r : List RV) (i : Nat) : (keyR (r.take i)).length ≤ (keyR r).length := by
  have e : keyR r = keyR (r.take i) ++ keyR (r.drop i) := by
    rw [keyR, keyR, keyR, ← List.flatMap_append, List.take_append_drop]
  rw [e, List.length_append]
  omega
theorem sqT_same {K : PySem.W.Frag} {H H' : Hp} {a : Addr} {xs : List V} (h : SqT K H a xs) (s : Same H H') : SqT K H' a xs := by
  rcases h with (h | ⟨o, h⟩) | h
  · exact .inl (.inl (s _ _ h))
  · exact .inl (.inr ⟨o, s _ _ h⟩)
  · exact .inr h
theorem ok_key_of (W : Wx K mg cTE cRF) (c_key_of_value : Cl P w K mg base 2 "key_of_value" spKV) : Cl P w K mg base 3 "key_of" (spKeyOf K) := by
  refine cl_mk W.d_key_of sc_key_of (fun _ _ _ _ _ _ us hl => match us, hl with | [_], _ => rfl) (fun vs H Q E h => ?_) (fun f cdv A outer s H vs Q E hr h => ?_)
  · obtain ⟨a, r, rfl, _⟩ := h; rfl
  obtain ⟨a, r, rfl, hS, ok, hz, q⟩ := h
  refine ⟨_, (pss_cons (ps_set (i := 1) sc_key_of.nd rfl (Or.inl rfl) (pe_lst pa_nil))
    (pss_cons (ps_for (passes_of rfl) rfl (pi_tup (pv 0)) (pg_name (i := 2) sc_key_of.nd rfl (Or.inl rfl))
    (pss_one (ps_expr (pe_bm PySem.F.plainAttrs_list PySem.F.slot_list_extend PySem.F.type_list_extend mt_extT (pv 1) (pa_cons (pe_cl c_key_of_value hr (by decide) rfl passD (pa_cons (pv 2) pa_nil)) pa_nil)))))
    (pss_one (ps_ret (pe_callTy call_tuple_of rfl W.n_tuple (by decide +kernel) (pa_cons (pv 1) pa_nil)))))), ?_⟩
  walk_at "g"
  intro L hL
  walk_at "g"
  refine w_forT (sqT_same hS (same_new hL _)) (fun i σ H' => Same H H' ∧ H' L = some (.lst ((keyR (r.take i)).map V.int)) ∧ ∃ v : Option V, σ = [some (.ref a), some (.ref L), v]) ⟨same_new hL _, upd_same, none, rfl⟩ (fun i σ H' _ h => sqT_same hS h.1) ?_ ?_
  · rintro i x σ H' hi ⟨sH, eL, v, rfl⟩
    obtain ⟨v, hv, rfl⟩ := vals_get hi
    walk_at "g"
    refine ⟨tyL eL, ?_⟩
    walk_at "g"
    refine ⟨v, rfl, ok v (List.mem_of_getElem? hv), fun p H2 s2 fp ep => ?_⟩
    walk_at "g"
    have eL2 := s2 _ _ eL
    have le := keyR_le r (i + 1)
    rw [keyR_take hv, List.length_append] at le
    refine w_extT eL2 (SqT.of ep) (by rw [List.length_map, List.length_map]; exact Nat.le_trans (by omega : _ ≤ 100000) (by decide)) ?_
    walk_at "g"
    refine ⟨same_upd (sH.trans s2) hL, ?_, _, rfl⟩
    rw [upd_same, keyR_take hv, List.map_append]
  · rintro σ H' ⟨sH, eL, v, rfl⟩
    rw [List.length_map, List.take_length] at eL
    walk_at "g"
    refine ⟨L, _, rfl, .inl ⟨SqL.of eL, fun p hp => ?_⟩⟩
    exact q p _ (sH.trans (same_new hp _)) (sH.free hp) upd_same
end
end K05
end

section
-- part K05D
set_option Elab.async false
set_option linter.all false
set_option maxRecDepth 100000
set_option maxHeartbeats 800000
open PySem PySem.Spec PyProof.Rows L2 Fw
local macro_rules | `(tactic| walk_at "e1") => `(tactic| first
  | ((with_reducible refine' w_var ?hv ?_); (case hv => rfl))
  | with_reducible refine w_c ?_
  | with_reducible refine w_op ?_
  | with_reducible refine w_un ?_
  | with_reducible refine w_cons ?_
  | with_reducible refine w_nil ?_
  | with_reducible refine w_cl ?_
  | with_reducible refine w_cb ?_
  | with_reducible refine w_gname ?_
  | with_reducible refine w_gsub ?_
  | with_reducible refine w_test ?_
  | with_reducible refine w_B ?_
  | with_reducible refine w_bl ?_
  | with_reducible refine w_and ?_
  | with_reducible refine w_or ?_
  | with_reducible refine w_not ?_
  | with_reducible refine w_if ?_
  | with_reducible refine w_I0 ?_
  | with_reducible refine w_ipI ?_
  | with_reducible refine w_eqS ?_
  | with_reducible refine w_neS ?_
  | with_reducible refine w_eqI ?_
  | ((with_reducible refine w_eq ?hs ?_); (case hs => rfl))
  | ((with_reducible refine w_ne ?hs ?_); (case hs => rfl))
  | with_reducible refine w_fld ?_
  | with_reducible refine w_bm ?_
  | with_reducible refine w_bm0 ?_
  | with_reducible refine w_sl ?_
  | with_reducible refine w_part ?_
  | with_reducible refine w_partI ?_
  | with_reducible refine w_nopart ?_
  | ((with_reducible refine' w_ixL ?hh ?ha ?_); (case hh => first | assumption | exact upd_same); (case ha => rfl))
  | ((with_reducible refine' w_setLu ?ha ?_); (case ha => rfl))
  | ((with_reducible refine' w_setL ?hh ?ha ?_); (case hh => first | assumption | exact upd_same); (case ha => rfl))
  | with_reducible refine w_iteT ?_
  | with_reducible refine w_iteF ?_
  | with_reducible refine w_lst ?_
  | with_reducible refine w_tup ?_
  | ((with_reducible refine w_new ?hz ?_); (case hz => rfl))
  | with_reducible refine w_lc ?_
  | with_reducible refine w_iL ?_
  | with_reducible refine w_iT ?_
  | with_reducible refine w_iR1 ?_
  | with_reducible refine w_iR2 ?_
  | with_reducible refine w_yes ?_
  | with_reducible refine w_iStr ?_
  | with_reducible exact tyS
  | with_reducible refine And.intro tyS ?_
  | ((with_reducible refine w_find3 ?_); (first | rw [find3_one] | rw [starts3] | skip))
  | ((with_reducible refine w_2s ?_); (try rw [find_one]))
  | ((with_reducible refine w_inS ?_); rw [S_list])
  | ((with_reducible refine w_lenS ?hz ?_); (case hz => first | assumption | omega | decide); rw [SX.S_len])
  | ((with_reducible refine w_addS ?hz ?_); (case hz => first | assumption | omega | decide); rw [vS_cat])
  | with_reducible refine w_mk ?_
  | with_reducible refine w_me ?_
  | with_reducible refine w_sfld ?_
  | ((with_reducible refine' w_gtup ?hh ?hn ?_); (case hh => first | assumption | exact upd_same); (case hn => rfl))
  | with_reducible refine w_gcons ?_
  | with_reducible refine w_gnil ?_
  | with_reducible refine w_repl ?_
  | with_reducible refine w_star ?_
  | with_reducible refine w_revL ?_
  | with_reducible refine w_isiS ?_
  | with_reducible refine w_isiI ?_
  | with_reducible refine w_isiN ?_
  | with_reducible refine w_chain ?_
  | with_reducible refine w_x1i ?_
  | with_reducible refine w_x1b ?_
  | with_reducible refine w_x1s ?_
  | with_reducible refine w_int1i ?_
  | with_reducible refine w_int1b ?_
  | ((with_reducible refine w_mod ?hc ?_); (case hc => omega))
  | ((with_reducible refine w_fdivW ?hc ?hd ?_); (case hc => omega); (case hd => omega))
  | ((with_reducible refine w_mul ?hc ?_); (case hc => first | exact Or.inr ⟨by decide, by decide⟩ | exact Or.inl ⟨by decide, by decide⟩))
  | ((with_reducible refine w_pow ?hc ?_); (case hc => exact ⟨by decide, by decide, by decide⟩)))
local macro_rules | `(tactic| walk_at "s1") => `(tactic| first
  | with_reducible refine w_seq ?_
  | with_reducible refine w_asg ?_
  | with_reducible refine w_ret ?_
  | with_reducible refine w_drop ?_
  | with_reducible refine w_next ?_
  | with_reducible refine w_ifs ?_
  | ((with_reducible refine' w_aug ?hv ?_); (case hv => rfl))
  | with_reducible refine w_for ?_
  | walk_at "e1")
local macro_rules | `(tactic| walk_at "e") => `(tactic| repeat walk_at "e1")
local macro_rules | `(tactic| walk_at "g") => `(tactic| repeat walk_at "s1")

namespace K05
open M5
-- values_from_key: 0:data 1:values 2:place 3:value
abbrev s_values_from_key : Stmt := top 21
theorem sc_values_from_key : FnScope ["data", "values", "place", "value"] ["data"] (defScope s_values_from_key) := ⟨rfl, rfl, rfl, by decide +kernel, rfl, by decide +kernel, by decide +kernel⟩
-- value_from_key: 0:data 1:place 2:mark 3:end 4:number
abbrev s_value_from_key : Stmt := top 22
theorem sc_value_from_key : FnScope ["data", "place", "mark", "end", "number"] ["data", "place"] (defScope s_value_from_key) := ⟨rfl, rfl, rfl, by decide +kernel, rfl, by decide +kernel, by decide +kernel⟩
-- text_from_key: 0:data 1:place 2:signs
abbrev s_text_from_key : Stmt := top 23
theorem sc_text_from_key : FnScope ["data", "place", "signs"] ["data", "place"] (defScope s_text_from_key) := ⟨rfl, rfl, rfl, by decide +kernel, rfl, by decide +kernel, by decide +kernel⟩
-- natural_from: 0:data 1:place 2:number 3:weight 4:one
abbrev s_natural_from : Stmt := top 26
theorem sc_natural_from : FnScope ["data", "place", "number", "weight", "one"] ["data", "place"] (defScope s_natural_from) := ⟨rfl, rfl, rfl, by decide +kernel, rfl, by decide +kernel, by decide +kernel⟩
-- record_of: 0:row 1:data 2:value 3:sign
abbrev s_record_of : Stmt := top 27
theorem sc_record_of : FnScope ["row", "data", "value", "sign"] ["row"] (defScope s_record_of) := ⟨rfl, rfl, rfl, by decide +kernel, rfl, by decide +kernel, by decide +kernel⟩
-- row_from: 0:data 1:many 2:place 3:row 4:value
abbrev s_row_from : Stmt := top 28
theorem sc_row_from : FnScope ["data", "many", "place", "row", "value"] ["data"] (defScope s_row_from) := ⟨rfl, rfl, rfl, by decide +kernel, rfl, by decide +kernel, by decide +kernel⟩
-- value_from_record: 0:data 1:place 2:mark 3:number 4:value 5:signs 6:one
abbrev s_value_from_record : Stmt := top 29
theorem sc_value_from_record : FnScope ["data", "place", "mark", "number", "value", "signs", "one"] ["data", "place"] (defScope s_value_from_record) := ⟨rfl, rfl, rfl, by decide +kernel, rfl, by decide +kernel, by decide +kernel⟩
structure Wd (K : PySem.W.Frag) (mg : Str → Option Value) (cTE cRF : Addr) : Prop extends Wx K mg cTE cRF where
  d_values_from_key : FnP K mg "values_from_key" s_values_from_key
  d_value_from_key : FnP K mg "value_from_key" s_value_from_key
  d_text_from_key : FnP K mg "text_from_key" s_text_from_key
  d_natural_from : FnP K mg "natural_from" s_natural_from
  d_record_of : FnP K mg "record_of" s_record_of
  d_row_from : FnP K mg "row_from" s_row_from
  d_value_from_record : FnP K mg "value_from_record" s_value_from_record
section
variable {P : Program} {w : World} {K : PySem.W.Frag} {mg : Str → Option Value} {base : Heap} {cTE cRF : Addr}
/-- a new pair (value, place) -/
def Pair (H : Hp) (Q : VK) (v : V) (e : Nat) : Prop := ∀ (q : Addr) (H' : Hp), Same H H' → H q = none → H' q = some (.tup [v, .int (e : Int)]) → Q (.ref q) H'
def Fails (H : Hp) (E : XK) (C : Addr) : Prop := ∀ H', Same H H' → E (.ref C) none H'
theorem int_get {d : List Int} {i : Nat} {b : Int} (h : d[i]? = some b) : atI (d.map V.int) (i : Int) = some (.int b) := atI_nat (by rw [List.getElem?_map, h]; rfl)
theorem w_ixT {K : PySem.W.Frag} {a : Addr} {d : List Int} {i : Nat} {b : Int} {H : Hp} {Q : VK} (hS : SqT K H a (d.map V.int)) (h : d[i]? = some b) (q : Q (.int b) H) : rIxT K (.ref a) (.int (i : Int)) H Q := ⟨a, _, _, _, rfl, rfl, hS, int_get h, q⟩
theorem w_lenT {K : PySem.W.Frag} {a : Addr} {d : List Int} {H : Hp} {R : V → Hp → Prop} (hS : SqT K H a (d.map V.int)) (q : R (.int (d.length : Int)) H) : ∃ p xs, [V.ref a] = [.ref p] ∧ (SqL K H p xs ∨ SqT K H p xs) ∧ R (.int (xs.length : Int)) H :=
  ⟨a, d.map V.int, rfl, .inr hS, by rw [List.length_map]; exact q⟩
def spTFK (K : PySem.W.Frag) (C : Addr) : Sp := fun vs H Q E => ∃ (a : Addr) (d : List Int) (p : Nat), vs = [.ref a, .int (p : Int)] ∧ SqT K H a (d.map V.int) ∧ d.length ≤ 900 ∧ p ≤ d.length ∧ match tfk (d.drop p) with
  | none => Fails H E C
  | some (l, k) => Pair H Q (.str (S l)) (p + k)
theorem ok_text_from_key (W : Wd K mg cTE cRF) (c_sign_at : Cl P w K mg base 1 "sign_at" (spSignAt cRF)) : Cl P w K mg base 2 "text_from_key" (spTFK K cRF) := by
  refine cl_mk W.d_text_from_key sc_text_from_key (fun _ _ _ _ _ _ us hl => match us, hl with | [_, _], _ => rfl) (fun vs H Q E h => ?_) (fun f cdv A outer s H vs Q E hr h => ?_)
  · obtain ⟨a, d, p, rfl, _⟩ := h; rfl
  obtain ⟨a, d, p, rfl, hS, hd, hp, q⟩ := h
  refine ⟨_, (pss_cons (ps_set (i := 2) sc_text_from_key.nd rfl (Or.inl rfl) (pe_lst pa_nil))
    (pss_cons (ps_while (passes_of rfl) (PW.pt (pw_and (pt_cmpR op_lt (pv 1) (pe_callB call_len_seq rfl W.n_len PySem.boot_len (pa_cons (pv 0) pa_nil)) (nomark _)) (pw_and1 (pt_cmpR op_ne (pe_ix ix_tup (pv 0) (pv 1) (fun _ _ => rfl)) (C8.pe_gc rfl W.c_TEXT_END) (nomark _)))))
    (pss_cons (ps_expr (pe_bm PySem.F.plainAttrs_list PySem.F.slot_list_append PySem.F.type_list_append mt_append (pv 2) (pa_cons (pe_cl c_sign_at hr (by decide) rfl passD (pa_cons (pe_op op_sub (pe_ix ix_tup (pv 0) (pv 1) (fun _ _ => rfl)) (C8.pe_gc rfl W.c_FIRST_SIGN)) pa_nil)) pa_nil)))
    (pss_one (ps_aug (i := 1) sc_text_from_key.nd rfl (Or.inl rfl) pe_int ip_add))))
    (pss_cons (ps_if (pt_cmpR op_eq (pv 1) (pe_callB call_len_seq rfl W.n_len PySem.boot_len (pa_cons (pv 0) pa_nil)) (nomark _))
    (pss_one (ps_raise rfl (takes_of rfl rfl rfl rfl) (pmk_own PySem.F.excBase_ValueError W.e_RecordFault.ox W.e_RecordFault.og W.e_RecordFault.ok (raises_own W.e_RecordFault.ob W.e_RecordFault.ot) rfl)))
    pss_nil)
    (pss_one (ps_ret (pe_tup (pa_cons (pe_bm PySem.F.plainAttrs_str PySem.F.slot_str_join PySem.F.type_str_join mt_join pe_str (pa_cons (pv 2) pa_nil)) (pa_cons (pe_op op_add (pv 1) pe_int) pa_nil)))))))), ?_⟩
  walk_at "g"
  intro L hL
  walk_at "g"
  refine w_while (fun m σ H' => ∃ (z : Nat) (l : List Nat), σ = [some (.ref a), some (.int (z : Int)), some (.ref L)] ∧ Same H H' ∧ H' L = some (.lst (l.map fun c => V.str (S [c]))) ∧ z ≤ d.length ∧ p ≤ z ∧ m = d.length - z ∧ l.length ≤ z ∧
    tfk (d.drop p) = (tfk (d.drop z)).map fun r => (l ++ r.1, r.2 + (z - p))) (d.length - p) ⟨p, [], rfl, same_new hL _, upd_same, hp, Nat.le_refl _, rfl, Nat.zero_le _, ?_⟩ ?_
  · cases tfk (d.drop p) <;> simp
  rintro m σ H' ⟨z, l, rfl, sH, eL, hz, hpz, rfl, hlz, ef⟩
  have hS' := sqT_same hS sH
  walk_at "g"
  refine ⟨a, _, rfl, .inr hS', ?_⟩
  rw [List.length_map]
  walk_at "g"
  refine w_iteD (fun c1 => ?_) (fun c1 => ?_)
  · have hlt : z < d.length := by
      have c2 : (z : Int) < (d.length : Int) := c1
      omega
    have hg := List.getElem?_eq_getElem hlt
    have ed : d.drop z = d[z] :: d.drop (z + 1) := List.drop_eq_getElem_cons hlt
    generalize d[z] = b at hg ed
    walk_at "g"
    refine w_ixT hS' hg ?_
    walk_at "g"
    refine w_iteN (fun c2 => ?_) (fun c2 => ?_)
    · have hb : b ≠ 1 := fun e => c2 (by rw [e])
      refine ⟨fun σ' H2 => ∃ c, chr (b - 2) = some c ∧ σ' = [some (.ref a), some (.int ((z + 1 : Nat) : Int)), some (.ref L)] ∧ Same H H2 ∧ H2 L = some (.lst ((l ++ [c]).map fun c => V.str (S [c]))), ?_, ?_⟩
      · rintro σ' H2 ⟨c, hc, rfl, s2, e2⟩
        refine ⟨d.length - (z + 1), by omega, z + 1, l ++ [c], rfl, s2, e2, hlt, by omega, rfl, by rw [List.length_append, List.length_singleton]; omega, ?_⟩
        rw [ef, ed, tfk, if_neg hb, hc]
        dsimp only
        rw [Option.map_map]
        congr 1
        funext r
        show (l ++ c :: r.1, r.2 + 1 + (z - p)) = (l ++ [c] ++ r.1, r.2 + (z + 1 - p))
        rw [List.append_assoc, show r.2 + 1 + (z - p) = r.2 + (z + 1 - p) by omega]
        rfl
      · walk_at "g"
        refine ⟨tyL eL, ?_⟩
        walk_at "g"
        refine w_ixT hS' hg ?_
        walk_at "g"
        refine ⟨b - 2, rfl, ?_⟩
        cases hc : chr (b - 2) with
        | none =>
          rw [ef, ed, tfk, if_neg hb, hc] at q
          exact q H' sH
        | some c =>
          walk_at "g"
          refine w_app eL (by rw [List.length_map]; exact Nat.lt_of_lt_of_le (by omega : l.length < 1000) (by decide)) ?_
          walk_at "g"
          exact ⟨c, rfl, rfl, same_upd sH hL, by rw [upd_same, List.map_append]; rfl⟩
    · have hb : b = 1 := by
        injection c2
      subst hb
      rw [ef, ed, tfk, if_pos rfl] at q
      have q2 : Pair H Q (.str (S (l ++ []))) (p + (1 + (z - p))) := q
      rw [List.append_nil, show p + (1 + (z - p)) = z + 1 by omega] at q2
      walk_at "g"
      refine ⟨a, _, rfl, .inr hS', ?_⟩
      rw [List.length_map]
      walk_at "g"
      refine w_iteD (fun c3 => absurd c3 (by omega)) (fun c3 => ?_)
      walk_at "g"
      have jj := join1 (K := K) (l := l) (by omega) eL
      refine ⟨S [], L, l.map (fun c => S [c]), rfl, rfl, .inl jj.1, jj.2.1, ?_⟩
      rw [jj.2.2]
      walk_at "g"
      exact fun r hr' => q2 r _ (sH.trans (same_new hr' _)) (sH.free hr') upd_same
  · have hge : z = d.length := by
      have c2 : ¬ (z : Int) < (d.length : Int) := c1
      omega
    rw [ef, List.drop_eq_nil_of_le (by omega), tfk] at q
    walk_at "g"
    refine ⟨a, _, rfl, .inr hS', ?_⟩
    rw [List.length_map]
    walk_at "g"
    refine w_iteD (fun c3 => ?_) (fun c3 => absurd (by rw [hge]) c3)
    exact q H' sH
theorem cut_ints2 (d : List Int) {i j : Nat} (hi : i ≤ d.length) (hj : j ≤ d.length) : cutV (d.map V.int) (some (i : Int)) (some (j : Int)) = ((d.drop i).take (j - i)).map V.int := by
  unfold cutV
  rw [HT.sIx_nat, HT.sIx_nat, List.length_map, Nat.min_eq_left hi, Nat.min_eq_left hj, ← List.map_drop, ← List.map_take]
theorem w_slT {a : Addr} {d : List Int} {i j : Nat} {H : Hp} {Q : VK} (hS : SqT K H a (d.map V.int)) (h0 : 0 < i) (hi : i ≤ d.length) (hj : j ≤ d.length) (q : ∀ p, H p = none → Q (.ref p) (upd H p (.tup (((d.drop i).take (j - i)).map V.int)))) : rSlA K (.ref a) (some (i : Int)) (some (j : Int)) H Q := by
  have hs : HT.sIx (d.map V.int).length 0 (some (i : Int)) = i := by rw [HT.sIx_nat, List.length_map, Nat.min_eq_left hi]
  refine ⟨a, _, rfl, hS, fun e => ?_, fun _ p hp => ?_⟩
  · rw [hs] at e
    omega
  · rw [cut_ints2 d hi hj]
    exact q p hp
def spVFK (K : PySem.W.Frag) (C : Addr) : Sp := fun vs H Q E => ∃ (a : Addr) (d : List Int) (p : Nat), vs = [.ref a, .int (p : Int)] ∧ SqT K H a (d.map V.int) ∧ d.length ≤ 900 ∧ match vfk (d.drop p) with
  | none => Fails H E C
  | some (v, k) => Pair H Q (vOf v) (p + k)
theorem ok_value_from_key (W : Wd K mg cTE cRF) (c_number_from : Cl P w K mg base 1 "number_from" (spNumF K)) (c_text_from_key : Cl P w K mg base 2 "text_from_key" (spTFK K cRF)) : Cl P w K mg base 3 "value_from_key" (spVFK K cRF) := by
  refine cl_mk W.d_value_from_key sc_value_from_key (fun _ _ _ _ _ _ us hl => match us, hl with | [_, _], _ => rfl) (fun vs H Q E h => ?_) (fun f cdv A outer s H vs Q E hr h => ?_)
  · obtain ⟨a, d, p, rfl, _⟩ := h; rfl
  obtain ⟨a, d, p, rfl, hS, hd, q⟩ := h
  refine ⟨_, (pss_cons (ps_if (pt_not (pt_chain op_le op_lt pe_int (pv 1) (pe_callB call_len_seq rfl W.n_len PySem.boot_len (pa_cons (pv 0) pa_nil))))
    (pss_one (ps_raise rfl (takes_of rfl rfl rfl rfl) (pmk_own PySem.F.excBase_ValueError W.e_RecordFault.ox W.e_RecordFault.og W.e_RecordFault.ok (raises_own W.e_RecordFault.ob W.e_RecordFault.ot) rfl)))
    pss_nil)
    (pss_cons (ps_set (i := 2) sc_value_from_key.nd rfl (Or.inl rfl) (pe_ix ix_tup (pv 0) (pv 1) (fun _ _ => rfl)))
    (pss_cons (ps_if (pt_cmpR op_eq (pv 2) (C8.pe_gc rfl W.c_NULL_MARK) (nomark _))
    (pss_one (ps_ret (pe_tup (pa_cons pe_non (pa_cons (pe_op op_add (pv 1) pe_int) pa_nil)))))
    pss_nil)
    (pss_cons (ps_if (pt_cmpR op_eq (pv 2) (C8.pe_gc rfl W.c_INT_MARK) (nomark _))
    (pss_cons (ps_set (i := 3) sc_value_from_key.nd rfl (Or.inl rfl) (pe_op op_add (pe_op op_add (pv 1) pe_int) (C8.pe_gc rfl W.c_INT_BYTES)))
    (pss_cons (ps_if (pt_cmpR op_gt (pv 3) (pe_callB call_len_seq rfl W.n_len PySem.boot_len (pa_cons (pv 0) pa_nil)) (nomark _))
    (pss_one (ps_raise rfl (takes_of rfl rfl rfl rfl) (pmk_own PySem.F.excBase_ValueError W.e_RecordFault.ox W.e_RecordFault.og W.e_RecordFault.ok (raises_own W.e_RecordFault.ob W.e_RecordFault.ot) rfl)))
    pss_nil)
    (pss_cons (ps_set (i := 4) sc_value_from_key.nd rfl (Or.inl rfl) (pe_op op_sub (pe_cl c_number_from hr (by decide) rfl passL (pa_cons (pe_slice sl_tupA (pv 0) (po_some (pe_op op_add (pv 1) pe_int)) (po_some (pv 3))) pa_nil)) (C8.pe_gc rfl W.c_HIGHEST)))
    (pss_cons (ps_if (pt_cmpR op_gt (pv 4) (C8.pe_gc rfl W.c_HIGHEST) (nomark _))
    (pss_one (ps_raise rfl (takes_of rfl rfl rfl rfl) (pmk_own PySem.F.excBase_ValueError W.e_RecordFault.ox W.e_RecordFault.og W.e_RecordFault.ok (raises_own W.e_RecordFault.ob W.e_RecordFault.ot) rfl)))
    pss_nil)
    (pss_one (ps_ret (pe_tup (pa_cons (pv 4) (pa_cons (pv 3) pa_nil)))))))))
    pss_nil)
    (pss_cons (ps_if (pt_cmpR op_ne (pv 2) (C8.pe_gc rfl W.c_TEXT_MARK) (nomark _))
    (pss_one (ps_raise rfl (takes_of rfl rfl rfl rfl) (pmk_own PySem.F.excBase_ValueError W.e_RecordFault.ox W.e_RecordFault.og W.e_RecordFault.ok (raises_own W.e_RecordFault.ob W.e_RecordFault.ot) rfl)))
    pss_nil)
    (pss_one (ps_ret (pe_cl c_text_from_key hr (by decide) rfl passD (pa_cons (pv 0) (pa_cons (pe_op op_add (pv 1) pe_int) pa_nil)))))))))), ?_⟩
  walk_at "g"
  refine w_iteD (fun c0 => ?_) (fun c0 => absurd (by omega) c0)
  walk_at "g"
  refine ⟨a, _, rfl, .inr hS, ?_⟩
  rw [List.length_map]
  walk_at "g"
  refine w_iteN (fun c1 => ?_) (fun c1 => ?_)
  · have hge : d.length ≤ p := by omega
    rw [List.drop_eq_nil_of_le hge, vfk] at q
    exact q H (Same.refl H)
  have hlt : p < d.length := by omega
  have hg := List.getElem?_eq_getElem hlt
  have ed : d.drop p = d[p] :: d.drop (p + 1) := List.drop_eq_getElem_cons hlt
  generalize d[p] = b at hg ed
  rw [ed, vfk] at q
  walk_at "g"
  refine w_ixT hS hg ?_
  walk_at "g"
  refine w_iteD (fun c2 => ?_) (fun c2 => ?_)
  · have hb : b = 1 := c2
    rw [if_pos hb] at q
    walk_at "g"
    exact fun r hr' => q r _ (same_new hr' _) hr' upd_same
  have hb1 : b ≠ 1 := c2
  rw [if_neg hb1] at q
  walk_at "g"
  refine w_iteD (fun c3 => ?_) (fun c3 => ?_)
  · have hb : b = 2 := c3
    rw [if_pos hb] at q
    walk_at "g"
    refine ⟨a, _, rfl, .inr hS, ?_⟩
    rw [List.length_map]
    walk_at "g"
    refine w_iteD (fun c4 => ?_) (fun c4 => ?_)
    · rw [if_pos (by rw [List.length_drop]; omega)] at q
      exact q H (Same.refl H)
    · rw [if_neg (by rw [List.length_drop]; omega)] at q
      walk_at "g"
      refine w_slT (i := p + 1) (j := p + 1 + 8) hS (by omega) (by omega) (by omega) fun r hr' => ?_
      walk_at "g"
      refine ⟨r, (d.drop (p + 1)).take 8, rfl, SqT.of ?_, ?_⟩
      · rw [upd_same, show p + 1 + 8 - (p + 1) = 8 by omega]
      walk_at "g"
      refine w_iteD (fun c5 => ?_) (fun c5 => ?_)
      · rw [if_pos c5] at q
        exact q _ (same_new hr' _)
      · rw [if_neg c5] at q
        walk_at "g"
        exact fun t ht => q t _ ((same_new hr' _).trans (same_new ht _)) ((same_new hr' _).free ht) upd_same
  have hb2 : b ≠ 2 := c3
  rw [if_neg hb2] at q
  walk_at "g"
  refine w_iteN (fun c4 => ?_) (fun c4 => ?_)
  · have hb3 : b ≠ 3 := fun e => c4 (by rw [e])
    rw [if_neg hb3] at q
    exact q H (Same.refl H)
  have hb3 : b = 3 := by injection c4
  rw [if_pos hb3] at q
  walk_at "g"
  refine ⟨a, d, p + 1, rfl, hS, hd, hlt, ?_⟩
  cases e : tfk (d.drop (p + 1)) with
  | none => rw [e] at q; exact q
  | some r =>
    obtain ⟨l, k⟩ := r
    rw [e] at q
    have q2 : Pair H Q (.str (S l)) (p + (k + 1)) := q
    rw [show p + (k + 1) = p + 1 + k by omega] at q2
    exact q2
end
end K05
end

section
-- part K05E
set_option Elab.async false
set_option linter.all false
set_option maxRecDepth 100000
set_option maxHeartbeats 800000
open PySem PySem.Spec PyProof.Rows L2 Fw
local macro_rules | `(tactic| walk_at "e1") => `(tactic| first
  | ((with_reducible refine' w_var ?hv ?_); (case hv => rfl))
  | with_reducible refine w_c ?_
  | with_reducible refine w_op ?_
  | with_reducible refine w_un ?_
  | with_reducible refine w_cons ?_
  | with_reducible refine w_nil ?_
  | with_reducible refine w_cl ?_
  | with_reducible refine w_cb ?_
  | with_reducible refine w_gname ?_
  | with_reducible refine w_gsub ?_
  | with_reducible refine w_test ?_
  | with_reducible refine w_B ?_
  | with_reducible refine w_bl ?_
  | with_reducible refine w_and ?_
  | with_reducible refine w_or ?_
  | with_reducible refine w_not ?_
  | with_reducible refine w_if ?_
  | with_reducible refine w_I0 ?_
  | with_reducible refine w_ipI ?_
  | with_reducible refine w_eqS ?_
  | with_reducible refine w_neS ?_
  | with_reducible refine w_eqI ?_
  | ((with_reducible refine w_eq ?hs ?_); (case hs => rfl))
  | ((with_reducible refine w_ne ?hs ?_); (case hs => rfl))
  | with_reducible refine w_fld ?_
  | with_reducible refine w_bm ?_
  | with_reducible refine w_bm0 ?_
  | with_reducible refine w_sl ?_
  | with_reducible refine w_part ?_
  | with_reducible refine w_partI ?_
  | with_reducible refine w_nopart ?_
  | ((with_reducible refine' w_ixL ?hh ?ha ?_); (case hh => first | assumption | exact upd_same); (case ha => rfl))
  | ((with_reducible refine' w_setLu ?ha ?_); (case ha => rfl))
  | ((with_reducible refine' w_setL ?hh ?ha ?_); (case hh => first | assumption | exact upd_same); (case ha => rfl))
  | with_reducible refine w_iteT ?_
  | with_reducible refine w_iteF ?_
  | with_reducible refine w_lst ?_
  | with_reducible refine w_tup ?_
  | ((with_reducible refine w_new ?hz ?_); (case hz => rfl))
  | with_reducible refine w_lc ?_
  | with_reducible refine w_iL ?_
  | with_reducible refine w_iT ?_
  | with_reducible refine w_iR1 ?_
  | with_reducible refine w_iR2 ?_
  | with_reducible refine w_yes ?_
  | with_reducible refine w_iStr ?_
  | with_reducible exact tyS
  | with_reducible refine And.intro tyS ?_
  | ((with_reducible refine w_find3 ?_); (first | rw [find3_one] | rw [starts3] | skip))
  | ((with_reducible refine w_2s ?_); (try rw [find_one]))
  | ((with_reducible refine w_inS ?_); rw [S_list])
  | ((with_reducible refine w_lenS ?hz ?_); (case hz => first | assumption | omega | decide); rw [SX.S_len])
  | ((with_reducible refine w_addS ?hz ?_); (case hz => first | assumption | omega | decide); rw [vS_cat])
  | with_reducible refine w_mk ?_
  | with_reducible refine w_me ?_
  | with_reducible refine w_sfld ?_
  | ((with_reducible refine' w_gtup ?hh ?hn ?_); (case hh => first | assumption | exact upd_same); (case hn => rfl))
  | with_reducible refine w_gcons ?_
  | with_reducible refine w_gnil ?_
  | with_reducible refine w_repl ?_
  | with_reducible refine w_star ?_
  | with_reducible refine w_revL ?_
  | with_reducible refine w_isiS ?_
  | with_reducible refine w_isiI ?_
  | with_reducible refine w_isiN ?_
  | with_reducible refine w_chain ?_
  | with_reducible refine w_x1i ?_
  | with_reducible refine w_x1b ?_
  | with_reducible refine w_x1s ?_
  | with_reducible refine w_int1i ?_
  | with_reducible refine w_int1b ?_
  | ((with_reducible refine w_mod ?hc ?_); (case hc => omega))
  | ((with_reducible refine w_fdivW ?hc ?hd ?_); (case hc => omega); (case hd => omega))
  | ((with_reducible refine w_mul ?hc ?_); (case hc => first | exact Or.inr ⟨by decide, by decide⟩ | exact Or.inl ⟨by decide, by decide⟩))
  | ((with_reducible refine w_pow ?hc ?_); (case hc => exact ⟨by decide, by decide, by decide⟩)))
local macro_rules | `(tactic| walk_at "s1") => `(tactic| first
  | with_reducible refine w_seq ?_
  | with_reducible refine w_asg ?_
  | with_reducible refine w_ret ?_
  | with_reducible refine w_drop ?_
  | with_reducible refine w_next ?_
  | with_reducible refine w_ifs ?_
  | ((with_reducible refine' w_aug ?hv ?_); (case hv => rfl))
  | with_reducible refine w_for ?_
  | walk_at "e1")
local macro_rules | `(tactic| walk_at "e") => `(tactic| repeat walk_at "e1")
local macro_rules | `(tactic| walk_at "g") => `(tactic| repeat walk_at "s1")

namespace K05
open M5
section
variable {P : Program} {w : World} {K : PySem.W.Frag} {mg : Str → Option Value} {base : Heap} {cTE cRF : Addr}
/-- a new tuple of values -/
def GivesV (H : Hp) (Q : VK) (r : List RV) : Prop := ∀ (p : Addr) (H' : Hp), Same H H' → H p = none → H' p = some (.tup (r.map vOf)) → Q (.ref p) H'
def spVSK (K : PySem.W.Frag) (C : Addr) : Sp := fun vs H Q E => ∃ (a : Addr) (d : List Int), vs = [.ref a] ∧ SqT K H a (d.map V.int) ∧ d.length ≤ 900 ∧ match vsk (d.length + 1) d with
  | none => Fails H E C
  | some r => GivesV H Q r
theorem ok_values_from_key (W : Wd K mg cTE cRF) (c_value_from_key : Cl P w K mg base 3 "value_from_key" (spVFK K cRF)) : Cl P w K mg base 4 "values_from_key" (spVSK K cRF) := by
  refine cl_mk W.d_values_from_key sc_values_from_key (fun _ _ _ _ _ _ us hl => match us, hl with | [_], _ => rfl) (fun vs H Q E h => ?_) (fun f cdv A outer s H vs Q E hr h => ?_)
  · obtain ⟨a, d, rfl, _⟩ := h; rfl
  obtain ⟨a, d, rfl, hS, hd, q⟩ := h
  obtain ⟨F, hF⟩ : ∃ F, vsk (d.length + 1) d = F := ⟨_, rfl⟩
  rw [hF] at q
  refine ⟨_, (pss_cons (ps_set (i := 1) sc_values_from_key.nd rfl (Or.inl rfl) (pe_lst pa_nil))
    (pss_cons (ps_set (i := 2) sc_values_from_key.nd rfl (Or.inl rfl) pe_int)
    (pss_cons (ps_while (passes_of rfl) (pt_cmpR op_lt (pv 2) (pe_callB call_len_seq rfl W.n_len PySem.boot_len (pa_cons (pv 0) pa_nil)) (nomark _))
    (pss_cons (ps_asg (pe_cl c_value_from_key hr (by decide) rfl passD (pa_cons (pv 0) (pa_cons (pv 2) pa_nil))) (pg_tup rfl (pgs_cons (pg_name (i := 3) sc_values_from_key.nd rfl (Or.inl rfl)) (pgs_cons (pg_name (i := 2) sc_values_from_key.nd rfl (Or.inl rfl)) pgs_nil))))
    (pss_one (ps_expr (pe_bm PySem.F.plainAttrs_list PySem.F.slot_list_append PySem.F.type_list_append mt_append (pv 1) (pa_cons (pv 3) pa_nil))))))
    (pss_one (ps_ret (pe_callTy call_tuple_of rfl W.n_tuple (by decide +kernel) (pa_cons (pv 1) pa_nil))))))), ?_⟩
  walk_at "g"
  intro L hL
  walk_at "g"
  refine w_while (fun m σ H' => ∃ (z : Nat) (done : List RV) (v : Option V), σ = [some (.ref a), some (.ref L), some (.int (z : Int)), v] ∧ Same H H' ∧ H' L = some (.lst (done.map vOf)) ∧ z ≤ d.length ∧ d.length - z < m ∧ done.length ≤ z ∧
    F = (vsk m (d.drop z)).map fun r => done ++ r) (d.length + 1) ⟨0, [], none, rfl, same_new hL _, upd_same, Nat.zero_le _, by omega, Nat.zero_le _, ?_⟩ ?_
  · rw [List.drop_zero, hF]
    cases F <;> simp
  rintro m σ H' ⟨z, done, v, rfl, sH, eL, hz, hm, hdz, ef⟩
  have hS' := sqT_same hS sH
  clear hF
  obtain ⟨m, rfl⟩ : ∃ m', m = m' + 1 := ⟨m - 1, by omega⟩
  walk_at "g"
  refine ⟨a, _, rfl, .inr hS', ?_⟩
  rw [List.length_map]
  walk_at "g"
  refine w_iteD (fun c1 => ?_) (fun c1 => ?_)
  · have hlt : z < d.length := by
      have c2 : (z : Int) < (d.length : Int) := c1
      omega
    have hne : d.drop z ≠ [] := by
      intro e
      have := congrArg List.length e
      rw [List.length_drop, List.length_nil] at this
      omega
    rw [vsk, if_neg hne] at ef
    cases ev : vfk (d.drop z) with
    | none =>
      rw [ev] at ef
      subst ef
      refine ⟨fun _ _ => False, fun _ _ n => n.elim, ?_⟩
      walk_at "g"
      refine ⟨a, d, z, rfl, hS', hd, ?_⟩
      rw [ev]
      exact fun H2 s2 => q H2 (sH.trans s2)
    | some t =>
      obtain ⟨v2, k⟩ := t
      rw [ev] at ef
      dsimp only at ef
      rw [List.drop_drop] at ef
      have kl := vfk_len ev
      rw [List.length_drop] at kl
      refine ⟨fun σ' H2 => ∃ v' : Option V, σ' = [some (.ref a), some (.ref L), some (.int ((z + k : Nat) : Int)), v'] ∧ Same H H2 ∧ H2 L = some (.lst ((done ++ [v2]).map vOf)), ?_, ?_⟩
      · rintro σ' H2 ⟨v', rfl, s2, e2⟩
        refine ⟨m, Nat.lt_succ_self _, z + k, done ++ [v2], v', rfl, s2, e2, by omega, by omega, by rw [List.length_append, List.length_singleton]; omega, ?_⟩
        rw [ef, Option.map_map]
        congr 1
        funext r
        show done ++ v2 :: r = done ++ [v2] ++ r
        rw [List.append_assoc]; rfl
      · walk_at "g"
        refine ⟨a, d, z, rfl, hS', hd, ?_⟩
        rw [ev]
        intro r H2 s2 fr er
        walk_at "g"
        have eL2 := s2 _ _ eL
        refine ⟨tyL eL2, ?_⟩
        walk_at "g"
        refine w_app eL2 (by rw [List.length_map]; exact Nat.lt_of_lt_of_le (by omega : done.length < 1000) (by decide)) ?_
        walk_at "g"
        exact ⟨_, rfl, same_upd (sH.trans s2) hL, by rw [upd_same, List.map_append]; rfl⟩
  · have hge : z = d.length := by
      have c2 : ¬ (z : Int) < (d.length : Int) := c1
      omega
    rw [vsk, if_pos (List.drop_eq_nil_of_le (by omega))] at ef
    subst ef
    have q2 : GivesV H Q (done ++ []) := q
    rw [List.append_nil] at q2
    walk_at "g"
    refine ⟨L, _, rfl, .inl ⟨SqL.of eL, fun p hp => ?_⟩⟩
    exact q2 p _ (sH.trans (same_new hp _)) (sH.free hp) upd_same
def spNF (K : PySem.W.Frag) (C : Addr) : Sp := fun vs H Q E => ∃ (a : Addr) (d : List Int) (p : Nat), vs = [.ref a, .int (p : Int)] ∧ SqT K H a (d.map V.int) ∧ d.length ≤ 900 ∧ match nf true (d.drop p) with
  | none => Fails H E C
  | some (m, k) => Pair H Q (.int (m : Int)) (p + k)
theorem ok_natural_from (W : Wd K mg cTE cRF) : Cl P w K mg base 1 "natural_from" (spNF K cRF) := by
  refine cl_mk W.d_natural_from sc_natural_from (fun _ _ _ _ _ _ us hl => match us, hl with | [_, _], _ => rfl) (fun vs H Q E h => ?_) (fun f cdv A outer s H vs Q E hr h => ?_)
  · obtain ⟨a, d, p, rfl, _⟩ := h; rfl
  obtain ⟨a, d, p, rfl, hS, hd, q⟩ := h
  refine ⟨_, (pss_cons (ps_set (i := 2) sc_natural_from.nd rfl (Or.inl rfl) pe_int)
    (pss_cons (ps_set (i := 3) sc_natural_from.nd rfl (Or.inl rfl) pe_int)
    (pss_one (ps_while (passes_of rfl) (pt_val pe_bl)
    (pss_cons (ps_if (pt_cmpR op_ge (pv 1) (pe_callB call_len_seq rfl W.n_len PySem.boot_len (pa_cons (pv 0) pa_nil)) (nomark _))
    (pss_one (ps_raise rfl (takes_of rfl rfl rfl rfl) (pmk_own PySem.F.excBase_ValueError W.e_RecordFault.ox W.e_RecordFault.og W.e_RecordFault.ok (raises_own W.e_RecordFault.ob W.e_RecordFault.ot) rfl)))
    pss_nil)
    (pss_cons (ps_set (i := 4) sc_natural_from.nd rfl (Or.inl rfl) (pe_ix ix_tup (pv 0) (pv 1) (fun _ _ => rfl)))
    (pss_cons (ps_aug (i := 1) sc_natural_from.nd rfl (Or.inl rfl) pe_int ip_add)
    (pss_cons (ps_aug (i := 2) sc_natural_from.nd rfl (Or.inl rfl) (pe_op op_mul (pe_op op_mod (pv 4) pe_int) (pv 3)) ip_add)
    (pss_cons (ps_set (i := 3) sc_natural_from.nd rfl (Or.inl rfl) (pe_op op_mul (pv 3) pe_int))
    (pss_one (ps_if (pt_cmpR op_lt (pv 4) pe_int (nomark _))
    (pss_cons (ps_if (PW.pt (pw_and (pt_cmpR op_eq (pv 4) pe_int (nomark _)) (pw_and1 (pt_cmpR op_gt (pv 3) pe_int (nomark _)))))
    (pss_one (ps_raise rfl (takes_of rfl rfl rfl rfl) (pmk_own PySem.F.excBase_ValueError W.e_RecordFault.ox W.e_RecordFault.og W.e_RecordFault.ok (raises_own W.e_RecordFault.ob W.e_RecordFault.ot) rfl)))
    pss_nil)
    (pss_one (ps_ret (pe_tup (pa_cons (pv 2) (pa_cons (pv 1) pa_nil))))))
    pss_nil))))))))))), ?_⟩
  walk_at "g"
  refine w_while (fun m σ H' => ∃ (j N : Nat) (v : Option V), σ = [some (.ref a), some (.int ((p + j : Nat) : Int)), some (.int (N : Int)), some (.int ((128 ^ j : Nat) : Int)), v] ∧ H' = H ∧ m = d.length + 1 - (p + j) ∧ (j = 0 ∨ p + j ≤ d.length) ∧
    nf true (d.drop p) = (nf (decide (j = 0)) (d.drop (p + j))).map fun r => (N + 128 ^ j * r.1, r.2 + j)) (d.length + 1 - p) ⟨0, 0, none, rfl, rfl, rfl, .inl rfl, ?_⟩ ?_
  · rw [Nat.add_zero, show decide ((0 : Nat) = 0) = true from rfl]
    cases nf true (d.drop p) <;> simp
  rintro m σ H' ⟨j, N, v, rfl, rfl, rfl, hj, ef⟩
  have eN : ∀ b : Int, (N : Int) + b % 128 * ((128 ^ j : Nat) : Int) = ((N + (b % 128).toNat * 128 ^ j : Nat) : Int) := fun b => by
    have h0 : ((b % 128).toNat : Int) = b % 128 := by omega
    rw [Int.natCast_add, Int.natCast_mul, h0]
  have eW : ((128 ^ j : Nat) : Int) * 128 = ((128 ^ (j + 1) : Nat) : Int) := by
    rw [Nat.pow_succ, Int.natCast_mul]
    rfl
  refine w_test ?_
  walk_at "g"
  refine ⟨fun σ' H2 => ∃ b, d[p + j]? = some b ∧ ¬ b < 128 ∧ σ' = [some (.ref a), some (.int ((p + (j + 1) : Nat) : Int)), some (.int ((N + (b % 128).toNat * 128 ^ j : Nat) : Int)), some (.int ((128 ^ (j + 1) : Nat) : Int)), some (.int b)] ∧ H2 = H', ?_, ?_⟩
  · rintro σ' H2 ⟨b, hg, hb, rfl, rfl⟩
    have hlt := (List.getElem?_eq_some_iff.mp hg).1
    have ed : d.drop (p + j) = b :: d.drop (p + j + 1) := by
      rw [List.drop_eq_getElem_cons hlt]
      rw [(List.getElem?_eq_some_iff.mp hg).2]
    refine ⟨d.length + 1 - (p + (j + 1)), by omega, j + 1, _, some (.int b), rfl, rfl, rfl, .inr (by omega), ?_⟩
    rw [ef, ed, nf, if_neg hb, Option.map_map, show decide (j + 1 = 0) = false from decide_eq_false (by omega)]
    congr 1
    funext r
    show (N + 128 ^ j * ((b % 128).toNat + 128 * r.1), r.2 + 1 + j) = (N + (b % 128).toNat * 128 ^ j + 128 ^ (j + 1) * r.1, r.2 + (j + 1))
    congr 1
    · rw [Nat.pow_succ, Nat.mul_add, Nat.mul_comm (128 ^ j) (b % 128).toNat, Nat.mul_assoc, Nat.add_assoc]
    · omega
  · walk_at "g"
    refine ⟨a, _, rfl, .inr hS, ?_⟩
    rw [List.length_map]
    walk_at "g"
    refine w_iteD (fun c1 => ?_) (fun c1 => ?_)
    · have hge : d.length ≤ p + j := by
        have c2 : (d.length : Int) ≤ ((p + j : Nat) : Int) := c1
        omega
      rw [ef, List.drop_eq_nil_of_le hge, nf] at q
      exact q H' (Same.refl H')
    have hlt : p + j < d.length := by
      have c2 : ¬ (d.length : Int) ≤ ((p + j : Nat) : Int) := c1
      omega
    have hg := List.getElem?_eq_getElem hlt
    have ed : d.drop (p + j) = d[p + j] :: d.drop (p + j + 1) := List.drop_eq_getElem_cons hlt
    generalize d[p + j] = b at hg ed
    rw [ef, ed, nf] at q
    walk_at "g"
    refine w_ixT hS hg ?_
    walk_at "g"
    refine w_mul (Or.inl ⟨by omega, by omega⟩) ?_
    walk_at "g"
    rw [eN, eW]
    have fin : Pair H' Q (.int ((N + 128 ^ j * (b % 128).toNat : Nat) : Int)) (p + (1 + j)) → ∀ r, H' r = none → Q (.ref r) (upd H' r (.tup [.int ((N + (b % 128).toNat * 128 ^ j : Nat) : Int), .int (((p + j : Nat) : Int) + 1)])) := fun g r hr' => by
      rw [Nat.mul_comm (128 ^ j), show p + (1 + j) = p + j + 1 by omega] at g
      exact g r _ (same_new hr' _) hr' upd_same
    refine w_iteD (fun c2 => ?_) (fun c2 => ?_)
    · rw [if_pos c2] at q
      walk_at "g"
      refine w_iteD (fun c3 => ?_) (fun c3 => ?_)
      · have hb0 : b = 0 := c3
        walk_at "g"
        refine w_iteD (fun c4 => ?_) (fun c4 => ?_)
        · have hj0 : j ≠ 0 := by
            rintro rfl
            have c5 : (128 : Int) < ((128 ^ (0 + 1) : Nat) : Int) := c4
            exact absurd c5 (by decide)
          rw [if_pos ⟨hb0, decide_eq_false hj0⟩] at q
          exact q H' (Same.refl H')
        · have hj0 : j = 0 := by
            by_cases hj0 : j = 0
            · exact hj0
            · exfalso
              apply c4
              show (128 : Int) < ((128 ^ (j + 1) : Nat) : Int)
              have h1 : 128 ^ 2 ≤ 128 ^ (j + 1) := Nat.pow_le_pow_right (by decide) (by omega)
              have h2 : 128 < 128 ^ (j + 1) := Nat.lt_of_lt_of_le (by decide) h1
              omega
          rw [if_neg (by rw [hj0]; simp)] at q
          walk_at "g"
          exact fin q
      · have hb0 : ¬ b = 0 := c3
        rw [if_neg (fun h => hb0 h.1)] at q
        walk_at "g"
        exact fin q
    · walk_at "g"
      exact ⟨b, hg, c2, rfl, rfl⟩
end
end K05
end

section
-- part K05F
set_option Elab.async false
set_option linter.all false
set_option maxRecDepth 100000
set_option maxHeartbeats 800000
open PySem PySem.Spec PyProof.Rows L2 Fw
local macro_rules | `(tactic| walk_at "e1") => `(tactic| first
  | ((with_reducible refine' w_var ?hv ?_); (case hv => rfl))
  | with_reducible refine w_c ?_
  | with_reducible refine w_op ?_
  | with_reducible refine w_un ?_
  | with_reducible refine w_cons ?_
  | with_reducible refine w_nil ?_
  | with_reducible refine w_cl ?_
  | with_reducible refine w_cb ?_
  | with_reducible refine w_gname ?_
  | with_reducible refine w_gsub ?_
  | with_reducible refine w_test ?_
  | with_reducible refine w_B ?_
  | with_reducible refine w_bl ?_
  | with_reducible refine w_and ?_
  | with_reducible refine w_or ?_
  | with_reducible refine w_not ?_
  | with_reducible refine w_if ?_
  | with_reducible refine w_I0 ?_
  | with_reducible refine w_ipI ?_
  | with_reducible refine w_eqS ?_
  | with_reducible refine w_neS ?_
  | with_reducible refine w_eqI ?_
  | ((with_reducible refine w_eq ?hs ?_); (case hs => rfl))
  | ((with_reducible refine w_ne ?hs ?_); (case hs => rfl))
  | with_reducible refine w_fld ?_
  | with_reducible refine w_bm ?_
  | with_reducible refine w_bm0 ?_
  | with_reducible refine w_sl ?_
  | with_reducible refine w_part ?_
  | with_reducible refine w_partI ?_
  | with_reducible refine w_nopart ?_
  | ((with_reducible refine' w_ixL ?hh ?ha ?_); (case hh => first | assumption | exact upd_same); (case ha => rfl))
  | ((with_reducible refine' w_setLu ?ha ?_); (case ha => rfl))
  | ((with_reducible refine' w_setL ?hh ?ha ?_); (case hh => first | assumption | exact upd_same); (case ha => rfl))
  | with_reducible refine w_iteT ?_
  | with_reducible refine w_iteF ?_
  | with_reducible refine w_lst ?_
  | with_reducible refine w_tup ?_
  | ((with_reducible refine w_new ?hz ?_); (case hz => rfl))
  | with_reducible refine w_lc ?_
  | with_reducible refine w_iL ?_
  | with_reducible refine w_iT ?_
  | with_reducible refine w_iR1 ?_
  | with_reducible refine w_iR2 ?_
  | with_reducible refine w_yes ?_
  | with_reducible refine w_iStr ?_
  | with_reducible exact tyS
  | with_reducible refine And.intro tyS ?_
  | ((with_reducible refine w_find3 ?_); (first | rw [find3_one] | rw [starts3] | skip))
  | ((with_reducible refine w_2s ?_); (try rw [find_one]))
  | ((with_reducible refine w_inS ?_); rw [S_list])
  | ((with_reducible refine w_lenS ?hz ?_); (case hz => first | assumption | omega | decide); rw [SX.S_len])
  | ((with_reducible refine w_addS ?hz ?_); (case hz => first | assumption | omega | decide); rw [vS_cat])
  | with_reducible refine w_mk ?_
  | with_reducible refine w_me ?_
  | with_reducible refine w_sfld ?_
  | ((with_reducible refine' w_gtup ?hh ?hn ?_); (case hh => first | assumption | exact upd_same); (case hn => rfl))
  | with_reducible refine w_gcons ?_
  | with_reducible refine w_gnil ?_
  | with_reducible refine w_repl ?_
  | with_reducible refine w_star ?_
  | with_reducible refine w_revL ?_
  | with_reducible refine w_isiS ?_
  | with_reducible refine w_isiI ?_
  | with_reducible refine w_isiN ?_
  | with_reducible refine w_chain ?_
  | with_reducible refine w_x1i ?_
  | with_reducible refine w_x1b ?_
  | with_reducible refine w_x1s ?_
  | with_reducible refine w_int1i ?_
  | with_reducible refine w_int1b ?_
  | ((with_reducible refine w_mod ?hc ?_); (case hc => omega))
  | ((with_reducible refine w_fdivW ?hc ?hd ?_); (case hc => omega); (case hd => omega))
  | ((with_reducible refine w_mul ?hc ?_); (case hc => first | exact Or.inr ⟨by decide, by decide⟩ | exact Or.inl ⟨by decide, by decide⟩))
  | ((with_reducible refine w_pow ?hc ?_); (case hc => exact ⟨by decide, by decide, by decide⟩)))
local macro_rules | `(tactic| walk_at "s1") => `(tactic| first
  | with_reducible refine w_seq ?_
  | with_reducible refine w_asg ?_
  | with_reducible refine w_ret ?_
  | with_reducible refine w_drop ?_
  | with_reducible refine w_next ?_
  | with_reducible refine w_ifs ?_
  | ((with_reducible refine' w_aug ?hv ?_); (case hv => rfl))
  | with_reducible refine w_for ?_
  | walk_at "e1")
local macro_rules | `(tactic| walk_at "e") => `(tactic| repeat walk_at "e1")
local macro_rules | `(tactic| walk_at "g") => `(tactic| repeat walk_at "s1")

namespace K05
open M5
section
variable {P : Program} {w : World} {K : PySem.W.Frag} {mg : Str → Option Value} {base : Heap} {cTE cRF : Addr}
def spNat : Sp := fun vs H Q _ => ∃ n : Nat, vs = [.int (n : Int)] ∧ n < 128 ^ 200 ∧ GivesT H Q (nat7 n)
theorem ok_natural (W : Wx K mg cTE cRF) : Cl P w K mg base 1 "natural" spNat := by
  refine cl_mk W.d_natural sc_natural (fun _ _ _ _ _ _ us hl => match us, hl with | [_], _ => rfl) (fun vs H Q E h => ?_) (fun f cdv A outer s H vs Q E hr h => ?_)
  · obtain ⟨n, rfl, _⟩ := h; rfl
  obtain ⟨n, rfl, hn, q⟩ := h
  have hl := nat7_len 199 n hn
  refine ⟨_, (pss_cons (ps_set (i := 1) sc_natural.nd rfl (Or.inl rfl) (pe_lst pa_nil))
    (pss_cons (ps_while (passes_of rfl) (pt_cmpR op_gt (pv 0) pe_int (nomark _))
    (pss_cons (ps_expr (pe_bm PySem.F.plainAttrs_list PySem.F.slot_list_append PySem.F.type_list_append mt_append (pv 1) (pa_cons (pe_op op_add (pe_op op_mod (pv 0) pe_int) pe_int) pa_nil)))
    (pss_one (ps_set (i := 0) sc_natural.nd rfl (Or.inl rfl) (pe_op op_fdivW (pv 0) pe_int)))))
    (pss_cons (ps_expr (pe_bm PySem.F.plainAttrs_list PySem.F.slot_list_append PySem.F.type_list_append mt_append (pv 1) (pa_cons (pv 0) pa_nil)))
    (pss_one (ps_ret (pe_callTy call_tuple_of rfl W.n_tuple (by decide +kernel) (pa_cons (pv 1) pa_nil))))))), ?_⟩
  walk_at "g"
  intro L hL
  walk_at "g"
  refine w_while (fun m σ H' => ∃ (xs : List Int), σ = [some (.int (m : Int)), some (.ref L)] ∧ Same H H' ∧ H' L = some (.lst (xs.map V.int)) ∧ nat7 n = xs ++ nat7 m) n ⟨[], rfl, same_new hL _, upd_same, rfl⟩ ?_
  rintro m σ H' ⟨xs, rfl, sH, eL, e⟩
  have hx : xs.length ≤ 200 := by
    have := congrArg List.length e
    rw [List.length_append] at this
    omega
  walk_at "g"
  refine w_iteD (fun c1 => ?_) (fun c1 => ?_)
  · have c2 : ¬ m < 128 := by
      have c3 : (127 : Int) < (m : Int) := c1
      omega
    refine ⟨fun σ' H2 => ∃ xs' : List Int, σ' = [some (.int ((m / 128 : Nat) : Int)), some (.ref L)] ∧ Same H H2 ∧ H2 L = some (.lst (xs'.map V.int)) ∧ nat7 n = xs' ++ nat7 (m / 128), fun σ' H2 ⟨xs', h1, h2, h3, h4⟩ => ⟨m / 128, by omega, xs', h1, h2, h3, h4⟩, ?_⟩
    walk_at "g"
    refine ⟨tyL eL, ?_⟩
    walk_at "g"
    refine w_app eL (by rw [List.length_map]; exact Nat.lt_of_le_of_lt hx (by decide)) ?_
    walk_at "g"
    refine ⟨xs ++ [((m % 128 + 128 : Nat) : Int)], rfl, same_upd sH hL, by rw [upd_same, List.map_append]; rfl, ?_⟩
    rw [e, nat7_ge c2, List.append_assoc]
    rfl
  · have c2 : m < 128 := by
      have c3 : ¬ (127 : Int) < (m : Int) := c1
      omega
    walk_at "g"
    refine ⟨tyL eL, ?_⟩
    walk_at "g"
    refine w_app eL (by rw [List.length_map]; exact Nat.lt_of_le_of_lt hx (by decide)) ?_
    walk_at "g"
    refine ⟨L, _, rfl, .inl ⟨SqL.of upd_same, fun p hp => ?_⟩⟩
    refine q p _ ((same_upd sH hL).trans (same_new hp _)) ((same_upd sH hL).free hp) ?_
    rw [upd_same, e, nat7_lt c2, List.map_append]
    rfl
def ckStep (fs : Int × Int) (b : Int) : Int × Int := ((fs.1 + b) % 65521, (fs.2 + (fs.1 + b) % 65521) % 65521)
def ck (d : List Int) : Int × Int := d.foldl ckStep (1, 0)
theorem ck_take {d : List Int} {i : Nat} {b : Int} (h : d[i]? = some b) : ck (d.take (i + 1)) = ckStep (ck (d.take i)) b := by
  rw [List.take_add_one, h]
  simp [ck]
theorem ck_gen : ∀ (d : List Int) (a b : Int), d.foldl ckStep (a % 65521, b % 65521) = ((a + d.sum) % 65521, (b + d.length * a + accI 0 d) % 65521)
  | [], a, b => by simp [accI]
  | x :: r, a, b => by
    have e : ckStep (a % 65521, b % 65521) x = ((a + x) % 65521, (b + (a + x)) % 65521) := by
      unfold ckStep
      congr 1 <;> omega
    rw [List.foldl_cons, e, ck_gen r (a + x) (b + (a + x)), List.sum_cons]
    have e2 : accI 0 (x :: r) = x + (r.length * x + accI 0 r) := by
      show 0 + x + accI (0 + x) r = _
      rw [accI_add (0 + x) r, Int.zero_add]
    rw [e2, List.length_cons, Int.natCast_add, Int.add_mul, Int.mul_add, Int.natCast_one, Int.one_mul]
    congr 1 <;> congr 1 <;> omega
theorem ck_sums (d : List Int) : ck d = ((1 + d.sum) % 65521, ((d.length : Int) + accI 0 d) % 65521) := by
  have := ck_gen d 1 0
  rw [Int.mul_one, Int.zero_add] at this
  exact this
def spCk (K : PySem.W.Frag) : Sp := fun vs H Q _ => ∃ (a : Addr) (d : List Int), vs = [.ref a] ∧ SqT K H a (d.map V.int) ∧ GivesT H Q (fixedL (65536 * (ck d).2 + (ck d).1) 4)
theorem ok_checksum (W : Wx K mg cTE cRF) (c_fixed : Cl P w K mg base 1 "fixed" spFixed) : Cl P w K mg base 2 "checksum" (spCk K) := by
  refine cl_mk W.d_checksum sc_checksum (fun _ _ _ _ _ _ us hl => match us, hl with | [_], _ => rfl) (fun vs H Q E h => ?_) (fun f cdv A outer s H vs Q E hr h => ?_)
  · obtain ⟨a, d, rfl, _⟩ := h; rfl
  obtain ⟨a, d, rfl, hS, q⟩ := h
  refine ⟨_, (pss_cons (ps_set (i := 1) sc_checksum.nd rfl (Or.inl rfl) (pe_op op_mod (pe_op op_add pe_int (pe_callB (cr_sumA rfl) rfl W.n_sum PyProof.Rows.boot_sum (pa_cons (pv 0) pa_nil))) (C8.pe_gc rfl W.c_MODULUS)))
    (pss_cons (ps_set (i := 2) sc_checksum.nd rfl (Or.inl rfl) (pe_op op_mod (pe_op op_add (pe_callB call_len_seq rfl W.n_len PySem.boot_len (pa_cons (pv 0) pa_nil)) (pe_sumAcc rfl rfl W.n_sum rfl W.g_accumulate (pa_cons (pv 0) pa_nil))) (C8.pe_gc rfl W.c_MODULUS)))
    (pss_one (ps_ret (pe_cl c_fixed hr (by decide) rfl passL (pa_cons (pe_op op_add (pe_op op_mul pe_int (pv 2)) (pv 1)) (pa_cons pe_int pa_nil))))))), ?_⟩
  walk_at "g"
  refine ⟨a, d, rfl, .inr hS, ?_⟩
  walk_at "g"
  refine ⟨a, _, rfl, .inr hS, ?_⟩
  rw [List.length_map]
  walk_at "g"
  refine w_sumAcc ?_
  walk_at "g"
  refine ⟨a, d, rfl, hS, ?_⟩
  walk_at "g"
  rw [ck_sums] at q
  exact ⟨_, 4, rfl, by decide, q⟩
def spUp (K : PySem.W.Frag) : Sp := fun vs H Q _ => ∃ (a : Addr) (d : List Int), vs = [.ref a] ∧ SqT K H a (d.map V.int) ∧ d.length ≤ 900000 ∧ match upper d with
  | none => Q .non H
  | some u => GivesT H Q u
theorem upLen_take (d : List Int) (k : Nat) (h : k < d.length) (hb : d[k]? = some 255) : upLen (d.take (k + 1)) = upLen (d.take k) := by
  rw [List.take_add_one, hb]
  show upLen (d.take k ++ [255]) = _
  rw [upLen_snoc, if_pos rfl]
theorem upLen_stop (d : List Int) (k : Nat) {b : Int} (h : k < d.length) (hb : d[k]? = some b) (hne : b ≠ 255) : upLen (d.take (k + 1)) = k + 1 := by
  rw [List.take_add_one, hb]
  show upLen (d.take k ++ [b]) = _
  rw [upLen_snoc, if_neg hne, List.length_take, Nat.min_eq_left (by omega)]
theorem ok_upper_key (W : Wx K mg cTE cRF) : Cl P w K mg base 1 "upper_key" (spUp K) := by
  refine cl_mk W.d_upper_key sc_upper_key (fun _ _ _ _ _ _ us hl => match us, hl with | [_], _ => rfl) (fun vs H Q E h => ?_) (fun f cdv A outer s H vs Q E hr h => ?_)
  · obtain ⟨a, d, rfl, _⟩ := h; rfl
  obtain ⟨a, d, rfl, hS, hd, q⟩ := h
  refine ⟨_, (pss_cons (ps_set (i := 1) sc_upper_key.nd rfl (Or.inl rfl) (pe_callB call_len_seq rfl W.n_len PySem.boot_len (pa_cons (pv 0) pa_nil)))
    (pss_cons (ps_while (passes_of rfl) (PW.pt (pw_and (pt_cmpR op_gt (pv 1) pe_int (nomark _)) (pw_and1 (pt_cmpR op_eq (pe_ix ix_tup (pv 0) (pe_op op_sub (pv 1) pe_int) (fun _ _ => rfl)) pe_int (nomark _)))))
    (pss_one (ps_aug (i := 1) sc_upper_key.nd rfl (Or.inl rfl) pe_int ip_sub)))
    (pss_cons (ps_if (pt_cmpR op_eq (pv 1) pe_int (nomark _))
    (pss_one (ps_ret pe_non))
    pss_nil)
    (pss_one (ps_ret (pe_tup (StX.pa_star (pe_slice sl_tupA (pv 0) po_none (po_some (pe_op op_sub (pv 1) pe_int))) (pa_cons (pe_op op_add (pe_ix ix_tup (pv 0) (pe_op op_sub (pv 1) pe_int) (fun _ _ => rfl)) pe_int) pa_nil)))))))), ?_⟩
  walk_at "g"
  refine ⟨a, _, rfl, .inr hS, ?_⟩
  rw [List.length_map]
  walk_at "g"
  refine w_while (fun m σ H' => σ = [some (.ref a), some (.int (m : Int))] ∧ H' = H ∧ m ≤ d.length ∧ upLen d = upLen (d.take m)) d.length ⟨rfl, rfl, Nat.le_refl _, by rw [List.take_length]⟩ ?_
  rintro m σ H' ⟨rfl, rfl, hm, e⟩
  walk_at "g"
  cases m with
  | zero =>
    refine w_iteD (fun c1 => absurd c1 (by decide)) (fun _ => ?_)
    rw [List.take_zero] at e
    rw [upper, if_pos (by rw [e]; rfl)] at q
    walk_at "g"
    refine w_iteD (fun _ => ?_) (fun c1 => absurd (by rfl) c1)
    walk_at "g"
    exact q
  | succ k =>
    have hk : k < d.length := hm
    have hg := List.getElem?_eq_getElem hk
    generalize d[k] = b at hg
    have ei : ((k + 1 : Nat) : Int) - 1 = (k : Int) := by omega
    refine w_iteD (fun _ => ?_) (fun c1 => absurd (show (0 : Int) < ((k + 1 : Nat) : Int) by omega) c1)
    walk_at "g"
    rw [ei]
    refine w_ixT hS hg ?_
    walk_at "g"
    refine w_iteD (fun c1 => ?_) (fun c1 => ?_)
    · have hb : b = 255 := c1
      subst hb
      refine ⟨fun σ' H2 => σ' = [some (.ref a), some (.int (k : Int))] ∧ H2 = H', ?_, ?_⟩
      · rintro σ' H2 ⟨rfl, rfl⟩
        exact ⟨k, Nat.lt_succ_self _, rfl, rfl, by omega, by rw [e, upLen_take d k hk hg]⟩
      · walk_at "g"
        rw [ei]
        exact ⟨rfl, rfl⟩
    · have hb : b ≠ 255 := c1
      rw [upLen_stop d k hk hg hb] at e
      rw [upper, if_neg (by omega), e] at q
      have e2 : d.getD k 0 = b := by simp [List.getD, hg]
      have q2 : GivesT H' Q (d.take k ++ [b + 1]) := by
        rw [← e2]
        exact q
      walk_at "g"
      refine w_iteD (fun c2 => absurd c2 (by omega)) (fun _ => ?_)
      walk_at "g"
      rw [ei]
      have hs0 : HT.sIx (d.map V.int).length 0 none = 0 := HT.sIx_none _ _
      have hs : HT.sIx (d.map V.int).length (d.map V.int).length (some (k : Int)) = k := by rw [HT.sIx_nat, List.length_map, Nat.min_eq_left (by omega)]
      refine ⟨a, _, rfl, hS, fun z => ?_, fun _ p hp => ?_⟩
      · rw [hs, List.length_map] at z
        omega
      have ec : cutV (d.map V.int) none (some (k : Int)) = (d.take k).map V.int := by
        unfold cutV
        rw [hs0, hs, List.drop_zero, ← List.map_take]
        rfl
      rw [ec]
      walk_at "g"
      refine ⟨p, _, rfl, .inl (SqT.of upd_same), ?_⟩
      walk_at "g"
      rw [ei]
      refine w_ixT (sqT_same hS (same_new hp _)) hg ?_
      walk_at "g"
      refine ⟨?_, fun r hr' => ?_⟩
      · simp only [List.length_append, List.length_map, List.length_take, List.length_cons, List.length_nil]
        exact Nat.le_trans (by omega : _ ≤ 900001) (by decide)
      · refine q2 r _ ((same_new hp _).trans (same_new hr' _)) ((same_new hp _).free hr') ?_
        rw [upd_same, List.map_append]
        rfl
end
end K05
end

section
-- part K05G
set_option Elab.async false
set_option linter.all false
set_option maxRecDepth 100000
set_option maxHeartbeats 800000
open PySem PySem.Spec PyProof.Rows L2 Fw
local macro_rules | `(tactic| walk_at "e1") => `(tactic| first
  | ((with_reducible refine' w_var ?hv ?_); (case hv => rfl))
  | with_reducible refine w_c ?_
  | with_reducible refine w_op ?_
  | with_reducible refine w_un ?_
  | with_reducible refine w_cons ?_
  | with_reducible refine w_nil ?_
  | with_reducible refine w_cl ?_
  | with_reducible refine w_cb ?_
  | with_reducible refine w_gname ?_
  | with_reducible refine w_gsub ?_
  | with_reducible refine w_test ?_
  | with_reducible refine w_B ?_
  | with_reducible refine w_bl ?_
  | with_reducible refine w_and ?_
  | with_reducible refine w_or ?_
  | with_reducible refine w_not ?_
  | with_reducible refine w_if ?_
  | with_reducible refine w_I0 ?_
  | with_reducible refine w_ipI ?_
  | with_reducible refine w_eqS ?_
  | with_reducible refine w_neS ?_
  | with_reducible refine w_eqI ?_
  | ((with_reducible refine w_eq ?hs ?_); (case hs => rfl))
  | ((with_reducible refine w_ne ?hs ?_); (case hs => rfl))
  | with_reducible refine w_fld ?_
  | with_reducible refine w_bm ?_
  | with_reducible refine w_bm0 ?_
  | with_reducible refine w_sl ?_
  | with_reducible refine w_part ?_
  | with_reducible refine w_partI ?_
  | with_reducible refine w_nopart ?_
  | ((with_reducible refine' w_ixL ?hh ?ha ?_); (case hh => first | assumption | exact upd_same); (case ha => rfl))
  | ((with_reducible refine' w_setLu ?ha ?_); (case ha => rfl))
  | ((with_reducible refine' w_setL ?hh ?ha ?_); (case hh => first | assumption | exact upd_same); (case ha => rfl))
  | with_reducible refine w_iteT ?_
  | with_reducible refine w_iteF ?_
  | with_reducible refine w_lst ?_
  | with_reducible refine w_tup ?_
  | ((with_reducible refine w_new ?hz ?_); (case hz => rfl))
  | with_reducible refine w_lc ?_
  | with_reducible refine w_iL ?_
  | with_reducible refine w_iT ?_
  | with_reducible refine w_iR1 ?_
  | with_reducible refine w_iR2 ?_
  | with_reducible refine w_yes ?_
  | with_reducible refine w_iStr ?_
  | with_reducible exact tyS
  | with_reducible refine And.intro tyS ?_
  | ((with_reducible refine w_find3 ?_); (first | rw [find3_one] | rw [starts3] | skip))
  | ((with_reducible refine w_2s ?_); (try rw [find_one]))
  | ((with_reducible refine w_inS ?_); rw [S_list])
  | ((with_reducible refine w_lenS ?hz ?_); (case hz => first | assumption | omega | decide); rw [SX.S_len])
  | ((with_reducible refine w_addS ?hz ?_); (case hz => first | assumption | omega | decide); rw [vS_cat])
  | with_reducible refine w_mk ?_
  | with_reducible refine w_me ?_
  | with_reducible refine w_sfld ?_
  | ((with_reducible refine' w_gtup ?hh ?hn ?_); (case hh => first | assumption | exact upd_same); (case hn => rfl))
  | with_reducible refine w_gcons ?_
  | with_reducible refine w_gnil ?_
  | with_reducible refine w_repl ?_
  | with_reducible refine w_star ?_
  | with_reducible refine w_revL ?_
  | with_reducible refine w_isiS ?_
  | with_reducible refine w_isiI ?_
  | with_reducible refine w_isiN ?_
  | with_reducible refine w_chain ?_
  | with_reducible refine w_x1i ?_
  | with_reducible refine w_x1b ?_
  | with_reducible refine w_x1s ?_
  | with_reducible refine w_int1i ?_
  | with_reducible refine w_int1b ?_
  | ((with_reducible refine w_mod ?hc ?_); (case hc => omega))
  | ((with_reducible refine w_fdivW ?hc ?hd ?_); (case hc => omega); (case hd => omega))
  | ((with_reducible refine w_mul ?hc ?_); (case hc => first | exact Or.inr ⟨by decide, by decide⟩ | exact Or.inl ⟨by decide, by decide⟩))
  | ((with_reducible refine w_pow ?hc ?_); (case hc => exact ⟨by decide, by decide, by decide⟩)))
local macro_rules | `(tactic| walk_at "s1") => `(tactic| first
  | with_reducible refine w_seq ?_
  | with_reducible refine w_asg ?_
  | with_reducible refine w_ret ?_
  | with_reducible refine w_drop ?_
  | with_reducible refine w_next ?_
  | with_reducible refine w_ifs ?_
  | ((with_reducible refine' w_aug ?hv ?_); (case hv => rfl))
  | with_reducible refine w_for ?_
  | walk_at "e1")
local macro_rules | `(tactic| walk_at "e") => `(tactic| repeat walk_at "e1")
local macro_rules | `(tactic| walk_at "g") => `(tactic| repeat walk_at "s1")

namespace K05
open M5
section
variable {P : Program} {w : World} {K : PySem.W.Frag} {mg : Str → Option Value} {base : Heap} {cTE cRF : Addr}
def spRec (K : PySem.W.Frag) : Sp := fun vs H Q _ => ∃ (a : Addr) (r : List RV), vs = [.ref a] ∧ SqT K H a (r.map vOf) ∧ (∀ v ∈ r, okL v) ∧ r.length ≤ 1000 ∧ (recR r).length ≤ 100000 ∧ GivesT H Q (recR r)
theorem recR_le (r : List RV) (i : Nat) : (nat7 r.length ++ (r.take i).flatMap recV).length ≤ (recR r).length := by
  have e : recR r = nat7 r.length ++ (r.take i).flatMap recV ++ (r.drop i).flatMap recV := by
    rw [recR, List.append_assoc, ← List.flatMap_append, List.take_append_drop]
  rw [e, List.length_append (as := nat7 r.length ++ (r.take i).flatMap recV)]
  omega
theorem rec_take {r : List RV} {i : Nat} {v : RV} (h : r[i]? = some v) : (r.take (i + 1)).flatMap recV = (r.take i).flatMap recV ++ recV v := by
  rw [List.take_add_one, h]
  simp
theorem ok_record_of (W : Wd K mg cTE cRF) (c_sign_number : Cl P w K mg base 1 "sign_number" (spSign cTE)) (c_natural : Cl P w K mg base 1 "natural" spNat) : Cl P w K mg base 2 "record_of" (spRec K) := by
  refine cl_mk W.d_record_of sc_record_of (fun _ _ _ _ _ _ us hl => match us, hl with | [_], _ => rfl) (fun vs H Q E h => ?_) (fun f cdv A outer s H vs Q E hr h => ?_)
  · obtain ⟨a, r, rfl, _⟩ := h; rfl
  obtain ⟨a, r, rfl, hS, ok, hr1, hz, q⟩ := h
  refine ⟨_, (pss_cons (ps_set (i := 1) sc_record_of.nd rfl (Or.inl rfl) (pe_callTy call_list_of rfl W.n_list (by decide +kernel) (pa_cons (pe_cl c_natural hr (by decide) rfl passL (pa_cons (pe_callB call_len_seq rfl W.n_len PySem.boot_len (pa_cons (pv 0) pa_nil)) pa_nil)) pa_nil)))
    (pss_cons (ps_for (passes_of rfl) rfl (pi_tup (pv 0)) (pg_name (i := 2) sc_record_of.nd rfl (Or.inl rfl))
    (pss_one (ps_if (pt_cmpR op_isN (pv 2) pe_non (nomark _))
    (pss_one (ps_expr (pe_bm PySem.F.plainAttrs_list PySem.F.slot_list_append PySem.F.type_list_append mt_append (pv 1) (pa_cons (C8.pe_gc rfl W.c_NULL_MARK) pa_nil))))
    (pss_one (ps_if (pt_val (pe_callB L2.call_isi rfl W.n_isinstance PyProof.Rows.boot_isinstance (pa_cons (pv 2) (pa_cons (pe_bltn (v := .ty "str") rfl W.n_str (by decide +kernel) rfl) pa_nil))))
    (pss_cons (ps_expr (pe_bm PySem.F.plainAttrs_list PySem.F.slot_list_append PySem.F.type_list_append mt_append (pv 1) (pa_cons (C8.pe_gc rfl W.c_TEXT_MARK) pa_nil)))
    (pss_cons (ps_expr (pe_bm PySem.F.plainAttrs_list PySem.F.slot_list_extend PySem.F.type_list_extend mt_extT (pv 1) (pa_cons (pe_cl c_natural hr (by decide) rfl passL (pa_cons (pe_callB call_len_str rfl W.n_len PySem.boot_len (pa_cons (pv 2) pa_nil)) pa_nil)) pa_nil)))
    (pss_one (ps_expr (pe_bm PySem.F.plainAttrs_list PySem.F.slot_list_extend PySem.F.type_list_extend mt_extend (pv 1) (pa_cons (pe_lc (own := [("sign", 3)]) rfl sc_record_of.nd (pi_str (pv 2)) (blkOk_by (own := [("sign", 3)]) (N := ["row", "data", "value", "sign"]) (sc := defScope s_record_of) (by decide +kernel)) (fun _ _ _ _ _ => (pg_name (i := 3) sc_record_of.nd rfl (by first | exact Or.inl rfl | exact Or.inr rfl))) (fun _ _ _ _ _ => pts_nil) (fun _ _ _ _ _ => (pe_cl c_sign_number hr (by decide) rfl passL (pa_cons (pv 3) pa_nil)))) pa_nil))))))
    (pss_cons (ps_expr (pe_bm PySem.F.plainAttrs_list PySem.F.slot_list_append PySem.F.type_list_append mt_append (pv 1) (pa_cons (C8.pe_gc rfl W.c_INT_MARK) pa_nil)))
    (pss_one (ps_expr (pe_bm PySem.F.plainAttrs_list PySem.F.slot_list_extend PySem.F.type_list_extend mt_extT (pv 1) (pa_cons (pe_cl c_natural hr (by decide) rfl passL (pa_cons (pe_ifExp (pt_cmpR op_ge (pv 2) pe_int (nomark _)) (pe_op op_mul pe_int (pv 2)) (pe_op op_sub (pe_op op_mul (pe_un un_neg pe_int) (pv 2)) pe_int)) pa_nil)) pa_nil))))))))))
    (pss_one (ps_ret (pe_callTy call_tuple_of rfl W.n_tuple (by decide +kernel) (pa_cons (pv 1) pa_nil)))))), ?_⟩
  walk_at "g"
  refine ⟨a, _, rfl, .inr hS, ?_⟩
  rw [List.length_map]
  walk_at "g"
  refine ⟨r.length, rfl, Nat.lt_of_le_of_lt hr1 (by decide), fun t H1 s1 ft et => ?_⟩
  walk_at "g"
  refine ⟨t, _, rfl, .inr (SqT.of et), fun L hL => ?_⟩
  walk_at "g"
  have fL : H L = none := s1.free hL
  refine w_forT (sqT_same hS (s1.trans (same_new hL _))) (fun i σ H' => Same H H' ∧ H' L = some (.lst ((nat7 r.length ++ (r.take i).flatMap recV).map V.int)) ∧ ∃ v u : Option V, σ = [some (.ref a), some (.ref L), v, u]) ⟨s1.trans (same_new hL _), ?_, none, none, rfl⟩ (fun i σ H' _ h => sqT_same hS h.1) ?_ ?_
  · rw [upd_same, List.take_zero, List.flatMap_nil, List.append_nil]
  · rintro i x σ H' hi ⟨sH, eL, v, u, rfl⟩
    obtain ⟨v, hv, rfl⟩ := vals_get hi
    obtain ⟨okv, okl⟩ := ok v (List.mem_of_getElem? hv)
    have le := recR_le r (i + 1)
    have et2 := rec_take hv
    rw [et2, ← List.append_assoc, List.length_append] at le
    rw [et2, ← List.append_assoc]
    generalize nat7 r.length ++ (r.take i).flatMap recV = pre at eL le
    have hpre : (pre.map V.int).length < sizeLine := by rw [List.length_map]; exact Nat.lt_of_lt_of_le (by omega : pre.length < 100001) (by decide)
    cases v with
    | non =>
      unfold vOf
      walk_at "g"
      refine ⟨rfl, ?_⟩
      rw [decide_eq_true rfl]
      walk_at "g"
      refine ⟨tyL eL, ?_⟩
      walk_at "g"
      refine w_app eL hpre ?_
      walk_at "g"
      exact ⟨same_upd sH fL, by rw [upd_same, List.map_append]; rfl, _, _, rfl⟩
    | num n =>
      rw [show vOf (RV.num n) = V.int n from rfl]
      have hn : -HI ≤ n ∧ n ≤ HI := okv
      walk_at "g"
      refine ⟨rfl, ?_⟩
      rw [decide_eq_false (fun e => by cases e)]
      walk_at "g"
      refine ⟨tyL eL, ?_⟩
      walk_at "g"
      refine w_app eL hpre ?_
      walk_at "g"
      refine ⟨tyL upd_same, ?_⟩
      walk_at "g"
      have hHI : HI = 9223372036854775807 := rfl
      have hzz : zz n < 128 ^ 200 := Nat.lt_of_lt_of_le (by unfold zz; split <;> omega : zz n < 2 * 9223372036854775807 + 1) (by decide)
      have rest : ∀ x : Int, x = ((zz n : Nat) : Int) → spNat [V.int x] (upd H' L (.lst (pre.map V.int ++ [.int 2]))) (fun x H1 => rExtT K (.ref L) [x] H1 fun _ H2 => Same H H2 ∧ H2 L = some (.lst ((pre ++ recV (.num n)).map V.int)) ∧
          ∃ v' u' : Option V, [some (.ref a), some (.ref L), some (.int n), u] = [some (.ref a), some (.ref L), v', u']) E0 := by
        rintro x rfl
        refine ⟨zz n, rfl, hzz, fun t2 H2 s2 f2 e2 => ?_⟩
        have eL2 := s2 _ _ upd_same
        have el : (recV (.num n)).length = 1 + (nat7 (zz n)).length := by show (2 :: nat7 (zz n)).length = _; rw [List.length_cons]; omega
        rw [el] at le
        refine w_extT eL2 (SqT.of e2) ?_ ?_
        · rw [List.length_append, List.length_map, List.length_map, List.length_singleton]
          exact Nat.le_trans (by omega : _ ≤ 100000) (by decide)
        · refine ⟨same_upd ((same_upd sH fL).trans s2) fL, ?_, _, _, rfl⟩
          rw [upd_same]
          show some (HO.lst (pre.map V.int ++ [V.int 2] ++ (nat7 (zz n)).map V.int)) = some (HO.lst ((pre ++ 2 :: nat7 (zz n)).map V.int))
          rw [List.map_append, List.append_assoc]
          rfl
      refine w_iteD (fun c1 => ?_) (fun c1 => ?_)
      · walk_at "g"
        exact rest _ (by unfold zz; rw [if_pos c1]; omega)
      · walk_at "g"
        refine ⟨2, rfl, ?_⟩
        walk_at "g"
        exact rest _ (by unfold zz; rw [if_neg c1]; omega)
    | txt l =>
      rw [show vOf (RV.txt l) = V.str (S l) from rfl]
      have ok2 : ∀ c ∈ l, c ∈ alphabet := okv
      have okl2 : l.length ≤ 10000 := okl
      have lz : l.length ≤ sizeLine := Nat.le_trans okl2 (by decide)
      have el : (recV (.txt l)).length = 1 + (nat7 l.length).length + l.length := by
        show (3 :: (nat7 l.length ++ sgR l)).length = _
        rw [List.length_cons, List.length_append]
        simp only [sgR, List.length_map]
        omega
      rw [el] at le
      walk_at "g"
      refine ⟨rfl, ?_⟩
      rw [decide_eq_false (fun e => by cases e)]
      walk_at "g"
      refine ⟨tyL eL, ?_⟩
      walk_at "g"
      refine w_app eL hpre ?_
      walk_at "g"
      refine ⟨tyL upd_same, ?_⟩
      walk_at "g"
      refine ⟨l.length, rfl, Nat.lt_of_le_of_lt okl2 (by decide), fun t2 H2 s2 f2 e2 => ?_⟩
      have eL2 := s2 _ _ upd_same
      walk_at "g"
      refine w_extT eL2 (SqT.of e2) ?_ ?_
      · rw [List.length_append, List.length_map, List.length_map, List.length_singleton]
        exact Nat.le_trans (by omega : _ ≤ 100000) (by decide)
      have s3 : Same H (upd H2 L (.lst ((pre.map V.int ++ [V.int 3]) ++ (nat7 l.length).map V.int))) := same_upd ((same_upd sH fL).trans s2) fL
      walk_at "g"
      refine ⟨tyL upd_same, ?_⟩
      walk_at "g"
      generalize hX : upd H2 L (.lst ((pre.map V.int ++ [V.int 3]) ++ (nat7 l.length).map V.int)) = H3 at *
      have eL3 : H3 L = some (.lst ((pre.map V.int ++ [V.int 3]) ++ (nat7 l.length).map V.int)) := by rw [← hX, upd_same]
      clear hX
      refine w_lcS (fun D hD => ⟨fun i H2 => Same H3 H2 ∧ H2 D = some (.lst ((sgR (l.take i)).map V.int)), ⟨same_new hD _, upd_same⟩, ?_, ?_⟩)
      · rintro i c H4 hi ⟨s4, eD⟩
        walk_at "g"
        refine ⟨rfl, ?_⟩
        walk_at "g"
        refine ⟨c, rfl, fun hc => ?_, fun hc => absurd (ok2 c (List.mem_of_getElem? hi)) hc⟩
        have hlt := (List.getElem?_eq_some_iff.mp hi).1
        refine ⟨_, eD, ?_, same_upd s4 hD, ?_⟩
        · simp only [sgR, List.length_map, List.length_take]
          exact Nat.lt_of_lt_of_le (by omega : min i l.length < 10000) (by decide)
        · rw [upd_same, List.take_add_one, hi]
          simp [sgR]
      · rintro H4 ⟨s4, eD⟩
        rw [List.take_length] at eD
        have eL4 := s4 _ _ eL3
        walk_at "g"
        refine ⟨L, D, _, _, rfl, rfl, eL4, eD, ?_, same_upd (s3.trans s4) fL, ?_, _, _, rfl⟩
        · simp only [List.length_append, List.length_map, List.length_singleton, sgR]
          exact Nat.le_trans (by omega : _ ≤ 100000) (by decide)
        · rw [upd_same]
          show some (HO.lst (pre.map V.int ++ [V.int 3] ++ (nat7 l.length).map V.int ++ (sgR l).map V.int)) = some (HO.lst ((pre ++ 3 :: (nat7 l.length ++ sgR l)).map V.int))
          rw [List.map_append, List.map_cons, List.map_append]
          simp
  · rintro σ H' ⟨sH, eL, v, u, rfl⟩
    rw [List.length_map, List.take_length] at eL
    walk_at "g"
    refine ⟨L, _, rfl, .inl ⟨SqL.of eL, fun p hp => ?_⟩⟩
    exact q p _ (sH.trans (same_new hp _)) (sH.free hp) upd_same
end
end K05
end

section
-- part K05H
set_option Elab.async false
set_option linter.all false
set_option maxRecDepth 100000
set_option maxHeartbeats 800000
open PySem PySem.Spec PyProof.Rows L2 Fw
local macro_rules | `(tactic| walk_at "e1") => `(tactic| first
  | ((with_reducible refine' w_var ?hv ?_); (case hv => rfl))
  | with_reducible refine w_c ?_
  | with_reducible refine w_op ?_
  | with_reducible refine w_un ?_
  | with_reducible refine w_cons ?_
  | with_reducible refine w_nil ?_
  | with_reducible refine w_cl ?_
  | with_reducible refine w_cb ?_
  | with_reducible refine w_gname ?_
  | with_reducible refine w_gsub ?_
  | with_reducible refine w_test ?_
  | with_reducible refine w_B ?_
  | with_reducible refine w_bl ?_
  | with_reducible refine w_and ?_
  | with_reducible refine w_or ?_
  | with_reducible refine w_not ?_
  | with_reducible refine w_if ?_
  | with_reducible refine w_I0 ?_
  | with_reducible refine w_ipI ?_
  | with_reducible refine w_eqS ?_
  | with_reducible refine w_neS ?_
  | with_reducible refine w_eqI ?_
  | ((with_reducible refine w_eq ?hs ?_); (case hs => rfl))
  | ((with_reducible refine w_ne ?hs ?_); (case hs => rfl))
  | with_reducible refine w_fld ?_
  | with_reducible refine w_bm ?_
  | with_reducible refine w_bm0 ?_
  | with_reducible refine w_sl ?_
  | with_reducible refine w_part ?_
  | with_reducible refine w_partI ?_
  | with_reducible refine w_nopart ?_
  | ((with_reducible refine' w_ixL ?hh ?ha ?_); (case hh => first | assumption | exact upd_same); (case ha => rfl))
  | ((with_reducible refine' w_setLu ?ha ?_); (case ha => rfl))
  | ((with_reducible refine' w_setL ?hh ?ha ?_); (case hh => first | assumption | exact upd_same); (case ha => rfl))
  | with_reducible refine w_iteT ?_
  | with_reducible refine w_iteF ?_
  | with_reducible refine w_lst ?_
  | with_reducible refine w_tup ?_
  | ((with_reducible refine w_new ?hz ?_); (case hz => rfl))
  | with_reducible refine w_lc ?_
  | with_reducible refine w_iL ?_
  | with_reducible refine w_iT ?_
  | with_reducible refine w_iR1 ?_
  | with_reducible refine w_iR2 ?_
  | with_reducible refine w_yes ?_
  | with_reducible refine w_iStr ?_
  | with_reducible exact tyS
  | with_reducible refine And.intro tyS ?_
  | ((with_reducible refine w_find3 ?_); (first | rw [find3_one] | rw [starts3] | skip))
  | ((with_reducible refine w_2s ?_); (try rw [find_one]))
  | ((with_reducible refine w_inS ?_); rw [S_list])
  | ((with_reducible refine w_lenS ?hz ?_); (case hz => first | assumption | omega | decide); rw [SX.S_len])
  | ((with_reducible refine w_addS ?hz ?_); (case hz => first | assumption | omega | decide); rw [vS_cat])
  | with_reducible refine w_mk ?_
  | with_reducible refine w_me ?_
  | with_reducible refine w_sfld ?_
  | ((with_reducible refine' w_gtup ?hh ?hn ?_); (case hh => first | assumption | exact upd_same); (case hn => rfl))
  | with_reducible refine w_gcons ?_
  | with_reducible refine w_gnil ?_
  | with_reducible refine w_repl ?_
  | with_reducible refine w_star ?_
  | with_reducible refine w_revL ?_
  | with_reducible refine w_isiS ?_
  | with_reducible refine w_isiI ?_
  | with_reducible refine w_isiN ?_
  | with_reducible refine w_chain ?_
  | with_reducible refine w_x1i ?_
  | with_reducible refine w_x1b ?_
  | with_reducible refine w_x1s ?_
  | with_reducible refine w_int1i ?_
  | with_reducible refine w_int1b ?_
  | ((with_reducible refine w_mod ?hc ?_); (case hc => omega))
  | ((with_reducible refine w_fdivW ?hc ?hd ?_); (case hc => omega); (case hd => omega))
  | ((with_reducible refine w_mul ?hc ?_); (case hc => first | exact Or.inr ⟨by decide, by decide⟩ | exact Or.inl ⟨by decide, by decide⟩))
  | ((with_reducible refine w_pow ?hc ?_); (case hc => exact ⟨by decide, by decide, by decide⟩)))
local macro_rules | `(tactic| walk_at "s1") => `(tactic| first
  | with_reducible refine w_seq ?_
  | with_reducible refine w_asg ?_
  | with_reducible refine w_ret ?_
  | with_reducible refine w_drop ?_
  | with_reducible refine w_next ?_
  | with_reducible refine w_ifs ?_
  | ((with_reducible refine' w_aug ?hv ?_); (case hv => rfl))
  | with_reducible refine w_for ?_
  | walk_at "e1")
local macro_rules | `(tactic| walk_at "e") => `(tactic| repeat walk_at "e1")
local macro_rules | `(tactic| walk_at "g") => `(tactic| repeat walk_at "s1")

namespace K05
open M5
theorem sgs_snoc : ∀ (d : List Int) (b : Int), sgs (d ++ [b]) = match sgs d, chr b with
    | some l, some c => some (l ++ [c])
    | _, _ => none
  | [], b => by
    have e : sgs [b] = match chr b with
      | none => none
      | some c => (some ([] : List Nat)).map (c :: ·) := by
        conv => lhs; rw [sgs]
        rfl
    rw [show ([] : List Int) ++ [b] = [b] from rfl, e]
    cases chr b <;> rfl
  | x :: d, b => by
    rw [List.cons_append, sgs, sgs, sgs_snoc d b]
    cases chr x with
    | none => cases chr b <;> rfl
    | some y =>
      cases sgs d with
      | none => cases chr b <;> rfl
      | some l => cases chr b <;> rfl
theorem sgs_pre : ∀ (d e : List Int), sgs d = none → sgs (d ++ e) = none
  | [], e, h => by cases h
  | x :: d, e, h => by
    rw [sgs] at h
    rw [List.cons_append, sgs]
    cases hx : chr x with
    | none => rfl
    | some y =>
      rw [hx] at h
      dsimp only at h ⊢
      cases hd : sgs d with
      | none => rw [sgs_pre d e hd]; rfl
      | some l => rw [hd] at h; cases h
section
variable {P : Program} {w : World} {K : PySem.W.Frag} {mg : Str → Option Value} {base : Heap} {cTE cRF : Addr}
def spVFR (K : PySem.W.Frag) (C : Addr) : Sp := fun vs H Q E => ∃ (a : Addr) (d : List Int) (p : Nat), vs = [.ref a, .int (p : Int)] ∧ SqT K H a (d.map V.int) ∧ d.length ≤ 900 ∧ match vfr (d.drop p) with
  | none => Fails H E C
  | some (v, k) => Pair H Q (vOf v) (p + k)
theorem ok_value_from_record (W : Wd K mg cTE cRF) (c_natural_from : Cl P w K mg base 1 "natural_from" (spNF K cRF)) (c_sign_at : Cl P w K mg base 1 "sign_at" (spSignAt cRF)) : Cl P w K mg base 2 "value_from_record" (spVFR K cRF) := by
  refine cl_mk W.d_value_from_record sc_value_from_record (fun _ _ _ _ _ _ us hl => match us, hl with | [_, _], _ => rfl) (fun vs H Q E h => ?_) (fun f cdv A outer s H vs Q E hr h => ?_)
  · obtain ⟨a, d, p, rfl, _⟩ := h; rfl
  obtain ⟨a, d, p, rfl, hS, hd, q⟩ := h
  have hHI : HI = 9223372036854775807 := rfl
  refine ⟨_, (pss_cons (ps_if (pt_cmpR op_ge (pv 1) (pe_callB call_len_seq rfl W.n_len PySem.boot_len (pa_cons (pv 0) pa_nil)) (nomark _))
    (pss_one (ps_raise rfl (takes_of rfl rfl rfl rfl) (pmk_own PySem.F.excBase_ValueError W.e_RecordFault.ox W.e_RecordFault.og W.e_RecordFault.ok (raises_own W.e_RecordFault.ob W.e_RecordFault.ot) rfl)))
    pss_nil)
    (pss_cons (ps_set (i := 2) sc_value_from_record.nd rfl (Or.inl rfl) (pe_ix ix_tup (pv 0) (pv 1) (fun _ _ => rfl)))
    (pss_cons (ps_if (pt_cmpR op_eq (pv 2) (C8.pe_gc rfl W.c_NULL_MARK) (nomark _))
    (pss_one (ps_ret (pe_tup (pa_cons pe_non (pa_cons (pe_op op_add (pv 1) pe_int) pa_nil)))))
    pss_nil)
    (pss_cons (ps_asg (pe_cl c_natural_from hr (by decide) rfl passD (pa_cons (pv 0) (pa_cons (pe_op op_add (pv 1) pe_int) pa_nil))) (pg_tup rfl (pgs_cons (pg_name (i := 3) sc_value_from_record.nd rfl (Or.inl rfl)) (pgs_cons (pg_name (i := 1) sc_value_from_record.nd rfl (Or.inl rfl)) pgs_nil))))
    (pss_cons (ps_if (pt_cmpR op_eq (pv 2) (C8.pe_gc rfl W.c_INT_MARK) (nomark _))
    (pss_cons (ps_set (i := 4) sc_value_from_record.nd rfl (Or.inl rfl) (pe_ifExp (pt_cmpR op_eq (pe_op op_mod (pv 3) pe_int) pe_int (nomark _)) (pe_op op_fdivW (pv 3) pe_int) (pe_op op_sub pe_int (pe_op op_fdivW (pe_op op_add (pv 3) pe_int) pe_int))))
    (pss_cons (ps_if (pt_not (pt_chain op_le op_le (pe_op op_sub pe_int (C8.pe_gc rfl W.c_HIGHEST)) (pv 4) (C8.pe_gc rfl W.c_HIGHEST)))
    (pss_one (ps_raise rfl (takes_of rfl rfl rfl rfl) (pmk_own PySem.F.excBase_ValueError W.e_RecordFault.ox W.e_RecordFault.og W.e_RecordFault.ok (raises_own W.e_RecordFault.ob W.e_RecordFault.ot) rfl)))
    pss_nil)
    (pss_one (ps_ret (pe_tup (pa_cons (pv 4) (pa_cons (pv 1) pa_nil)))))))
    pss_nil)
    (pss_cons (ps_if (PW.pt (pw_or (pt_cmpR op_ne (pv 2) (C8.pe_gc rfl W.c_TEXT_MARK) (nomark _)) (pw_or1 (pt_cmpR op_gt (pe_op op_add (pv 1) (pv 3)) (pe_callB call_len_seq rfl W.n_len PySem.boot_len (pa_cons (pv 0) pa_nil)) (nomark _)))))
    (pss_one (ps_raise rfl (takes_of rfl rfl rfl rfl) (pmk_own PySem.F.excBase_ValueError W.e_RecordFault.ox W.e_RecordFault.og W.e_RecordFault.ok (raises_own W.e_RecordFault.ob W.e_RecordFault.ot) rfl)))
    pss_nil)
    (pss_cons (ps_setLcR (i := 5) (own := [("one", 6)]) rfl rfl (takes_of rfl rfl rfl rfl) rfl sc_value_from_record.nd rfl rfl (sw_true rfl rfl rfl (by decide +kernel)) (pi_tup (pe_slice sl_tupA (pv 0) (po_some (pv 1)) (po_some (pe_op op_add (pv 1) (pv 3))))) (blkOk_by (own := [("one", 6)]) (N := ["data", "place", "mark", "number", "value", "signs", "one"]) (sc := defScope s_value_from_record) (by decide +kernel)) (fun _ _ _ _ _ => (pg_name (i := 6) sc_value_from_record.nd rfl (by first | exact Or.inl rfl | exact Or.inr rfl))) (fun _ _ _ _ _ => pts_nil) (fun _ _ _ _ _ => (pe_cl c_sign_at hr (by decide) rfl (passes_block rfl) (pa_cons (pv 6) pa_nil))))
    (pss_one (ps_ret (pe_tup (pa_cons (pe_bm PySem.F.plainAttrs_str PySem.F.slot_str_join PySem.F.type_str_join mt_join pe_str (pa_cons (pv 5) pa_nil)) (pa_cons (pe_op op_add (pv 1) (pv 3)) pa_nil)))))))))))), ?_⟩
  walk_at "g"
  refine ⟨a, _, rfl, .inr hS, ?_⟩
  rw [List.length_map]
  walk_at "g"
  refine w_iteD (fun c1 => ?_) (fun c1 => ?_)
  · have hge : d.length ≤ p := by
      have c2 : (d.length : Int) ≤ (p : Int) := c1
      omega
    rw [List.drop_eq_nil_of_le hge, vfr] at q
    exact q H (Same.refl H)
  have hlt : p < d.length := by
    have c2 : ¬ (d.length : Int) ≤ (p : Int) := c1
    omega
  have hg := List.getElem?_eq_getElem hlt
  have ed : d.drop p = d[p] :: d.drop (p + 1) := List.drop_eq_getElem_cons hlt
  generalize d[p] = b at hg ed
  rw [ed, vfr] at q
  walk_at "g"
  refine w_ixT hS hg ?_
  walk_at "g"
  refine w_iteD (fun c2 => ?_) (fun c2 => ?_)
  · have hb : b = 1 := c2
    rw [if_pos hb] at q
    walk_at "g"
    exact fun r hr' => q r _ (same_new hr' _) hr' upd_same
  have hb1 : b ≠ 1 := c2
  rw [if_neg hb1] at q
  walk_at "g"
  refine ⟨a, d, p + 1, rfl, hS, hd, ?_⟩
  cases en : nf true (d.drop (p + 1)) with
  | none => rw [en] at q; exact q
  | some t =>
    obtain ⟨m, k⟩ := t
    rw [en] at q
    dsimp only at q ⊢
    have nl := nf_len en
    rw [List.length_drop] at nl
    rw [List.drop_drop] at q
    intro r H1 s1 fr er
    have hS1 := sqT_same hS s1
    walk_at "g"
    refine w_iteD (fun c3 => ?_) (fun c3 => ?_)
    · have hb : b = 2 := c3
      rw [if_pos hb] at q
      walk_at "g"
      refine w_iteD (fun c4 => ?_) (fun c4 => ?_)
      · have c5 : m % 2 = 0 := by
          have : (m : Int) % 2 = 0 := c4
          omega
        have eu : uz m = (m : Int) / 2 := by unfold uz; rw [if_pos c5]; omega
        walk_at "g"
        rw [← eu]
        have q' : (match (if -HI ≤ uz m ∧ uz m ≤ HI then some (RV.num (uz m), k + 1) else none) with
          | none => Fails H E cRF
          | some (v, k) => Pair H Q (vOf v) (p + k)) := q
        refine w_iteD (fun c6 => ?_) (fun c6 => ?_)
        · walk_at "g"
          refine w_iteN (fun c7 => ?_) (fun c7 => ?_)
          · rw [if_neg (fun h => c7 h.2)] at q'
            exact q' H1 s1
          · rw [if_pos ⟨by omega, c7⟩] at q'
            have q2 : Pair H Q (.int (uz m)) (p + (k + 1)) := q'
            rw [show p + (k + 1) = p + 1 + k by omega] at q2
            walk_at "g"
            exact fun t ht => q2 t _ (s1.trans (same_new ht _)) (s1.free ht) upd_same
        · rw [if_neg (fun h => c6 (by omega))] at q'
          walk_at "g"
          rw [Bool.not_false]
          walk_at "g"
          exact q' H1 s1
      · have c5 : ¬ m % 2 = 0 := by
          have : ¬ (m : Int) % 2 = 0 := c4
          omega
        have eu : uz m = 0 - ((m : Int) + 1) / 2 := by unfold uz; rw [if_neg c5]; omega
        walk_at "g"
        rw [← eu]
        have q' : (match (if -HI ≤ uz m ∧ uz m ≤ HI then some (RV.num (uz m), k + 1) else none) with
          | none => Fails H E cRF
          | some (v, k) => Pair H Q (vOf v) (p + k)) := q
        refine w_iteD (fun c6 => ?_) (fun c6 => ?_)
        · walk_at "g"
          refine w_iteN (fun c7 => ?_) (fun c7 => ?_)
          · rw [if_neg (fun h => c7 h.2)] at q'
            exact q' H1 s1
          · rw [if_pos ⟨by omega, c7⟩] at q'
            have q2 : Pair H Q (.int (uz m)) (p + (k + 1)) := q'
            rw [show p + (k + 1) = p + 1 + k by omega] at q2
            walk_at "g"
            exact fun t ht => q2 t _ (s1.trans (same_new ht _)) (s1.free ht) upd_same
        · rw [if_neg (fun h => c6 (by omega))] at q'
          walk_at "g"
          rw [Bool.not_false]
          walk_at "g"
          exact q' H1 s1
    have hb2 : b ≠ 2 := c3
    rw [if_neg hb2] at q
    have q' : (match (if b ≠ 3 ∨ (d.drop (p + 1 + k)).length < m then none else (sgs ((d.drop (p + 1 + k)).take m)).map fun l => (RV.txt l, k + 1 + m)) with
      | none => Fails H E cRF
      | some (v, k) => Pair H Q (vOf v) (p + k)) := q
    clear q
    walk_at "g"
    refine w_iteN (fun c4 => ?_) (fun c4 => ?_)
    · have hb3 : b ≠ 3 := fun e => c4 (by rw [e])
      rw [if_pos (.inl hb3)] at q'
      walk_at "g"
      exact q' H1 s1
    have hb3 : b = 3 := by injection c4
    walk_at "g"
    refine ⟨a, _, rfl, .inr hS1, ?_⟩
    rw [List.length_map]
    walk_at "g"
    refine w_iteD (fun c5 => ?_) (fun c5 => ?_)
    · have hl : (d.drop (p + 1 + k)).length < m := by
        have c6 : (d.length : Int) < ((p + 1 + k : Nat) : Int) + (m : Int) := c5
        rw [List.length_drop]
        omega
      rw [if_pos (.inr hl)] at q'
      exact q' H1 s1
    have hm : p + 1 + k + m ≤ d.length := by
      have c6 : ¬ (d.length : Int) < ((p + 1 + k : Nat) : Int) + (m : Int) := c5
      omega
    rw [if_neg (by rw [List.length_drop]; omega)] at q'
    walk_at "g"
    have e2 : ((p + 1 + k : Nat) : Int) + (m : Int) = ((p + 1 + k + m : Nat) : Int) := by omega
    rw [e2]
    refine w_slT hS1 (by omega) (by omega) hm fun p1 hp1 => ?_
    rw [show p + 1 + k + m - (p + 1 + k) = m by omega]
    have sA := same_new hp1 (.tup (((d.drop (p + 1 + k)).take m).map V.int))
    have eA : upd H1 p1 (.tup (((d.drop (p + 1 + k)).take m).map V.int)) p1 = some (.tup (((d.drop (p + 1 + k)).take m).map V.int)) := upd_same
    have hlen : ((d.drop (p + 1 + k)).take m).length = m := by rw [List.length_take, List.length_drop]; omega
    generalize (d.drop (p + 1 + k)).take m = xs at q' sA eA hlen
    generalize upd H1 p1 (.tup (xs.map V.int)) = H2 at sA eA
    have s2 := s1.trans sA
    walk_at "g"
    refine w_lcTn (SqT.of eA) fun D hD => ⟨fun i H3 => Same H2 H3 ∧ ∃ l : List Nat, l.length = i ∧ sgs (xs.take i) = some l ∧ H3 D = some (.lst (l.map fun c => V.str (S [c]))), ⟨same_new hD _, [], rfl, rfl, upd_same⟩, fun i H3 _ h => SqT.of (h.1 _ _ eA), ?_, ?_⟩
    · rintro i x H3 hi ⟨s3, l, hl, el, eD⟩
      obtain ⟨z, hz, rfl⟩ := ints_get hi
      have li := (List.getElem?_eq_some_iff.mp hz).1
      have et : xs.take (i + 1) = xs.take i ++ [z] := by
        rw [List.take_succ, hz]
        rfl
      walk_at "g"
      refine ⟨rfl, ?_⟩
      walk_at "g"
      refine ⟨z, rfl, ?_⟩
      have es := sgs_snoc (xs.take i) z
      rw [el, ← et] at es
      cases hc : chr z with
      | none =>
        rw [hc] at es
        have e0 : sgs xs = none := by
          have := sgs_pre (xs.take (i + 1)) (xs.drop (i + 1)) es
          rwa [List.take_append_drop] at this
        rw [e0] at q'
        exact q' H3 (s2.trans s3)
      | some c =>
        rw [hc] at es
        exact ⟨_, eD, by rw [List.length_map]; exact Nat.lt_of_lt_of_le (by omega : l.length < 1000) (by decide), same_upd s3 hD, l ++ [c], by rw [List.length_append, hl]; rfl, es, by rw [upd_same, List.map_append]; rfl⟩
    · rintro H3 ⟨s3, l, hl, el, eD⟩
      rw [List.length_map] at hl el
      rw [List.take_length] at el
      rw [el] at q'
      have q2 : Pair H Q (.str (S l)) (p + (k + 1 + m)) := q'
      rw [show p + (k + 1 + m) = p + 1 + k + m by omega] at q2
      walk_at "g"
      have jj := join1 (K := K) (l := l) (by omega) eD
      refine ⟨S [], D, l.map (fun c => S [c]), rfl, rfl, .inl jj.1, jj.2.1, ?_⟩
      rw [jj.2.2]
      walk_at "g"
      rw [e2]
      exact fun t ht => q2 t _ ((s2.trans s3).trans (same_new ht _)) ((s2.trans s3).free ht) upd_same
end
end K05
end

section
-- part K05I
set_option Elab.async false
set_option linter.all false
set_option maxRecDepth 100000
set_option maxHeartbeats 800000
open PySem PySem.Spec PyProof.Rows L2 Fw
local macro_rules | `(tactic| walk_at "e1") => `(tactic| first
  | ((with_reducible refine' w_var ?hv ?_); (case hv => rfl))
  | with_reducible refine w_c ?_
  | with_reducible refine w_op ?_
  | with_reducible refine w_un ?_
  | with_reducible refine w_cons ?_
  | with_reducible refine w_nil ?_
  | with_reducible refine w_cl ?_
  | with_reducible refine w_cb ?_
  | with_reducible refine w_gname ?_
  | with_reducible refine w_gsub ?_
  | with_reducible refine w_test ?_
  | with_reducible refine w_B ?_
  | with_reducible refine w_bl ?_
  | with_reducible refine w_and ?_
  | with_reducible refine w_or ?_
  | with_reducible refine w_not ?_
  | with_reducible refine w_if ?_
  | with_reducible refine w_I0 ?_
  | with_reducible refine w_ipI ?_
  | with_reducible refine w_eqS ?_
  | with_reducible refine w_neS ?_
  | with_reducible refine w_eqI ?_
  | ((with_reducible refine w_eq ?hs ?_); (case hs => rfl))
  | ((with_reducible refine w_ne ?hs ?_); (case hs => rfl))
  | with_reducible refine w_fld ?_
  | with_reducible refine w_bm ?_
  | with_reducible refine w_bm0 ?_
  | with_reducible refine w_sl ?_
  | with_reducible refine w_part ?_
  | with_reducible refine w_partI ?_
  | with_reducible refine w_nopart ?_
  | ((with_reducible refine' w_ixL ?hh ?ha ?_); (case hh => first | assumption | exact upd_same); (case ha => rfl))
  | ((with_reducible refine' w_setLu ?ha ?_); (case ha => rfl))
  | ((with_reducible refine' w_setL ?hh ?ha ?_); (case hh => first | assumption | exact upd_same); (case ha => rfl))
  | with_reducible refine w_iteT ?_
  | with_reducible refine w_iteF ?_
  | with_reducible refine w_lst ?_
  | with_reducible refine w_tup ?_
  | ((with_reducible refine w_new ?hz ?_); (case hz => rfl))
  | with_reducible refine w_lc ?_
  | with_reducible refine w_iL ?_
  | with_reducible refine w_iT ?_
  | with_reducible refine w_iR1 ?_
  | with_reducible refine w_iR2 ?_
  | with_reducible refine w_yes ?_
  | with_reducible refine w_iStr ?_
  | with_reducible exact tyS
  | with_reducible refine And.intro tyS ?_
  | ((with_reducible refine w_find3 ?_); (first | rw [find3_one] | rw [starts3] | skip))
  | ((with_reducible refine w_2s ?_); (try rw [find_one]))
  | ((with_reducible refine w_inS ?_); rw [S_list])
  | ((with_reducible refine w_lenS ?hz ?_); (case hz => first | assumption | omega | decide); rw [SX.S_len])
  | ((with_reducible refine w_addS ?hz ?_); (case hz => first | assumption | omega | decide); rw [vS_cat])
  | with_reducible refine w_mk ?_
  | with_reducible refine w_me ?_
  | with_reducible refine w_sfld ?_
  | ((with_reducible refine' w_gtup ?hh ?hn ?_); (case hh => first | assumption | exact upd_same); (case hn => rfl))
  | with_reducible refine w_gcons ?_
  | with_reducible refine w_gnil ?_
  | with_reducible refine w_repl ?_
  | with_reducible refine w_star ?_
  | with_reducible refine w_revL ?_
  | with_reducible refine w_isiS ?_
  | with_reducible refine w_isiI ?_
  | with_reducible refine w_isiN ?_
  | with_reducible refine w_chain ?_
  | with_reducible refine w_x1i ?_
  | with_reducible refine w_x1b ?_
  | with_reducible refine w_x1s ?_
  | with_reducible refine w_int1i ?_
  | with_reducible refine w_int1b ?_
  | ((with_reducible refine w_mod ?hc ?_); (case hc => omega))
  | ((with_reducible refine w_fdivW ?hc ?hd ?_); (case hc => omega); (case hd => omega))
  | ((with_reducible refine w_mul ?hc ?_); (case hc => first | exact Or.inr ⟨by decide, by decide⟩ | exact Or.inl ⟨by decide, by decide⟩))
  | ((with_reducible refine w_pow ?hc ?_); (case hc => exact ⟨by decide, by decide, by decide⟩)))
local macro_rules | `(tactic| walk_at "s1") => `(tactic| first
  | with_reducible refine w_seq ?_
  | with_reducible refine w_asg ?_
  | with_reducible refine w_ret ?_
  | with_reducible refine w_drop ?_
  | with_reducible refine w_next ?_
  | with_reducible refine w_ifs ?_
  | ((with_reducible refine' w_aug ?hv ?_); (case hv => rfl))
  | with_reducible refine w_for ?_
  | walk_at "e1")
local macro_rules | `(tactic| walk_at "e") => `(tactic| repeat walk_at "e1")
local macro_rules | `(tactic| walk_at "g") => `(tactic| repeat walk_at "s1")

namespace K05
open M5
section
variable {P : Program} {w : World} {K : PySem.W.Frag} {mg : Str → Option Value} {base : Heap} {cTE cRF : Addr}
def spRow (K : PySem.W.Frag) (C : Addr) : Sp := fun vs H Q E => ∃ (a : Addr) (d : List Int), vs = [.ref a] ∧ SqT K H a (d.map V.int) ∧ d.length ≤ 900 ∧ match rowOf d with
  | none => Fails H E C
  | some r => GivesV H Q r
theorem ok_row_from (W : Wd K mg cTE cRF) (c_natural_from : Cl P w K mg base 1 "natural_from" (spNF K cRF)) (c_value_from_record : Cl P w K mg base 2 "value_from_record" (spVFR K cRF)) : Cl P w K mg base 3 "row_from" (spRow K cRF) := by
  refine cl_mk W.d_row_from sc_row_from (fun _ _ _ _ _ _ us hl => match us, hl with | [_], _ => rfl) (fun vs H Q E h => ?_) (fun f cdv A outer s H vs Q E hr h => ?_)
  · obtain ⟨a, d, rfl, _⟩ := h; rfl
  obtain ⟨a, d, rfl, hS, hd, q⟩ := h
  refine ⟨_, (pss_cons (ps_asg (pe_cl c_natural_from hr (by decide) rfl passD (pa_cons (pv 0) (pa_cons pe_int pa_nil))) (pg_tup rfl (pgs_cons (pg_name (i := 1) sc_row_from.nd rfl (Or.inl rfl)) (pgs_cons (pg_name (i := 2) sc_row_from.nd rfl (Or.inl rfl)) pgs_nil))))
    (pss_cons (ps_set (i := 3) sc_row_from.nd rfl (Or.inl rfl) (pe_lst pa_nil))
    (pss_cons (ps_while (passes_of rfl) (pt_cmpR op_lt (pe_callB call_len_seq rfl W.n_len PySem.boot_len (pa_cons (pv 3) pa_nil)) (pv 1) (nomark _))
    (pss_cons (ps_asg (pe_cl c_value_from_record hr (by decide) rfl passD (pa_cons (pv 0) (pa_cons (pv 2) pa_nil))) (pg_tup rfl (pgs_cons (pg_name (i := 4) sc_row_from.nd rfl (Or.inl rfl)) (pgs_cons (pg_name (i := 2) sc_row_from.nd rfl (Or.inl rfl)) pgs_nil))))
    (pss_one (ps_expr (pe_bm PySem.F.plainAttrs_list PySem.F.slot_list_append PySem.F.type_list_append mt_append (pv 3) (pa_cons (pv 4) pa_nil))))))
    (pss_cons (ps_if (pt_cmpR op_ne (pv 2) (pe_callB call_len_seq rfl W.n_len PySem.boot_len (pa_cons (pv 0) pa_nil)) (nomark _))
    (pss_one (ps_raise rfl (takes_of rfl rfl rfl rfl) (pmk_own PySem.F.excBase_ValueError W.e_RecordFault.ox W.e_RecordFault.og W.e_RecordFault.ok (raises_own W.e_RecordFault.ob W.e_RecordFault.ot) rfl)))
    pss_nil)
    (pss_one (ps_ret (pe_callTy call_tuple_of rfl W.n_tuple (by decide +kernel) (pa_cons (pv 3) pa_nil)))))))), ?_⟩
  walk_at "g"
  refine ⟨a, d, 0, rfl, hS, hd, ?_⟩
  rw [List.drop_zero]
  rw [rowOf] at q
  cases en : nf true d with
  | none => rw [en] at q; exact q
  | some t =>
    obtain ⟨m, k⟩ := t
    rw [en] at q
    dsimp only at q ⊢
    have nl := nf_len en
    intro r H1 s1 fr er
    rw [Nat.zero_add] at er
    walk_at "g"
    intro L hL
    walk_at "g"
    have fL : H L = none := s1.free hL
    obtain ⟨F, hF⟩ : ∃ F, vsr m (d.drop k) = F := ⟨_, rfl⟩
    rw [hF] at q
    refine w_while (fun g σ H' => ∃ (z : Nat) (done : List RV) (v : Option V), σ = [some (.ref a), some (.int (m : Int)), some (.int (z : Int)), some (.ref L), v] ∧ Same H H' ∧ H' L = some (.lst (done.map vOf)) ∧ z ≤ d.length ∧ k ≤ z ∧ done.length ≤ z ∧ done.length + g = m ∧
      F = (vsr g (d.drop z)).map fun r => (done ++ r.1, z - k + r.2)) m ⟨k, [], none, rfl, s1.trans (same_new hL _), upd_same, nl.2, Nat.le_refl _, Nat.zero_le _, by simp, ?_⟩ ?_
    · rw [hF]
      cases F with
      | none => rfl
      | some x => simp
    clear hF
    rintro g σ H' ⟨z, done, v, rfl, sH, eL, hz, hkz, hdz, hg, ef⟩
    have hS' := sqT_same hS sH
    walk_at "g"
    refine ⟨L, _, rfl, .inl (SqL.of eL), ?_⟩
    rw [List.length_map]
    walk_at "g"
    refine w_iteD (fun c1 => ?_) (fun c1 => ?_)
    · obtain ⟨g, rfl⟩ : ∃ g', g = g' + 1 := ⟨g - 1, by
        have c2 : (done.length : Int) < (m : Int) := c1
        omega⟩
      rw [vsr] at ef
      cases ev : vfr (d.drop z) with
      | none =>
        rw [ev] at ef
        subst ef
        refine ⟨fun _ _ => False, fun _ _ n => n.elim, ?_⟩
        walk_at "g"
        refine ⟨a, d, z, rfl, hS', hd, ?_⟩
        rw [ev]
        exact fun H2 s2 => q H2 (sH.trans s2)
      | some t =>
        obtain ⟨v2, j⟩ := t
        rw [ev] at ef
        dsimp only at ef
        rw [List.drop_drop, Option.map_map] at ef
        have kl := vfr_len ev
        rw [List.length_drop] at kl
        refine ⟨fun σ' H2 => ∃ v' : Option V, σ' = [some (.ref a), some (.int (m : Int)), some (.int ((z + j : Nat) : Int)), some (.ref L), v'] ∧ Same H H2 ∧ H2 L = some (.lst ((done ++ [v2]).map vOf)), ?_, ?_⟩
        · rintro σ' H2 ⟨v', rfl, s2, e2⟩
          refine ⟨g, Nat.lt_succ_self _, z + j, done ++ [v2], v', rfl, s2, e2, by omega, by omega, by rw [List.length_append, List.length_singleton]; omega, by rw [List.length_append, List.length_singleton]; omega, ?_⟩
          rw [ef]
          congr 1
          funext r
          show (done ++ v2 :: r.1, z - k + (j + r.2)) = (done ++ [v2] ++ r.1, z + j - k + r.2)
          rw [List.append_assoc, show z - k + (j + r.2) = z + j - k + r.2 by omega]
          rfl
        · walk_at "g"
          refine ⟨a, d, z, rfl, hS', hd, ?_⟩
          rw [ev]
          intro r2 H2 s2 fr2 er2
          walk_at "g"
          have eL2 := s2 _ _ eL
          refine ⟨tyL eL2, ?_⟩
          walk_at "g"
          refine w_app eL2 (by rw [List.length_map]; exact Nat.lt_of_lt_of_le (by omega : done.length < 1000) (by decide)) ?_
          walk_at "g"
          exact ⟨_, rfl, same_upd (sH.trans s2) fL, by rw [upd_same, List.map_append]; rfl⟩
    · have hg0 : g = 0 := by
        have c2 : ¬ (done.length : Int) < (m : Int) := c1
        omega
      subst hg0
      rw [vsr] at ef
      have ef2 : F = some (done ++ [], z - k + 0) := ef
      rw [List.append_nil, Nat.add_zero] at ef2
      subst ef2
      dsimp only at q
      walk_at "g"
      refine ⟨a, _, rfl, .inr hS', ?_⟩
      rw [List.length_map]
      walk_at "g"
      refine w_iteN (fun c3 => ?_) (fun c3 => ?_)
      · rw [if_neg (fun e => c3 (by rw [show z = d.length by omega]))] at q
        exact q H' sH
      · have hz2 : z = d.length := by
          injection c3 with c4
          omega
        rw [if_pos (by omega)] at q
        walk_at "g"
        refine ⟨L, _, rfl, .inl ⟨SqL.of eL, fun p hp => ?_⟩⟩
        exact q p _ (sH.trans (same_new hp _)) (sH.free hp) upd_same
end
end K05
end

section
-- part K05J
set_option Elab.async false
set_option linter.all false
set_option maxRecDepth 100000
set_option maxHeartbeats 800000
open PySem PySem.Spec PyProof.Rows L2 Fw
local macro_rules | `(tactic| walk_at "e1") => `(tactic| first
  | ((with_reducible refine' w_var ?hv ?_); (case hv => rfl))
  | with_reducible refine w_c ?_
  | with_reducible refine w_op ?_
  | with_reducible refine w_un ?_
  | with_reducible refine w_cons ?_
  | with_reducible refine w_nil ?_
  | with_reducible refine w_cl ?_
  | with_reducible refine w_cb ?_
  | with_reducible refine w_gname ?_
  | with_reducible refine w_gsub ?_
  | with_reducible refine w_test ?_
  | with_reducible refine w_B ?_
  | with_reducible refine w_bl ?_
  | with_reducible refine w_and ?_
  | with_reducible refine w_or ?_
  | with_reducible refine w_not ?_
  | with_reducible refine w_if ?_
  | with_reducible refine w_I0 ?_
  | with_reducible refine w_ipI ?_
  | with_reducible refine w_eqS ?_
  | with_reducible refine w_neS ?_
  | with_reducible refine w_eqI ?_
  | ((with_reducible refine w_eq ?hs ?_); (case hs => rfl))
  | ((with_reducible refine w_ne ?hs ?_); (case hs => rfl))
  | with_reducible refine w_fld ?_
  | with_reducible refine w_bm ?_
  | with_reducible refine w_bm0 ?_
  | with_reducible refine w_sl ?_
  | with_reducible refine w_part ?_
  | with_reducible refine w_partI ?_
  | with_reducible refine w_nopart ?_
  | ((with_reducible refine' w_ixL ?hh ?ha ?_); (case hh => first | assumption | exact upd_same); (case ha => rfl))
  | ((with_reducible refine' w_setLu ?ha ?_); (case ha => rfl))
  | ((with_reducible refine' w_setL ?hh ?ha ?_); (case hh => first | assumption | exact upd_same); (case ha => rfl))
  | with_reducible refine w_iteT ?_
  | with_reducible refine w_iteF ?_
  | with_reducible refine w_lst ?_
  | with_reducible refine w_tup ?_
  | ((with_reducible refine w_new ?hz ?_); (case hz => rfl))
  | with_reducible refine w_lc ?_
  | with_reducible refine w_iL ?_
  | with_reducible refine w_iT ?_
  | with_reducible refine w_iR1 ?_
  | with_reducible refine w_iR2 ?_
  | with_reducible refine w_yes ?_
  | with_reducible refine w_iStr ?_
  | with_reducible exact tyS
  | with_reducible refine And.intro tyS ?_
  | ((with_reducible refine w_find3 ?_); (first | rw [find3_one] | rw [starts3] | skip))
  | ((with_reducible refine w_2s ?_); (try rw [find_one]))
  | ((with_reducible refine w_inS ?_); rw [S_list])
  | ((with_reducible refine w_lenS ?hz ?_); (case hz => first | assumption | omega | decide); rw [SX.S_len])
  | ((with_reducible refine w_addS ?hz ?_); (case hz => first | assumption | omega | decide); rw [vS_cat])
  | with_reducible refine w_mk ?_
  | with_reducible refine w_me ?_
  | with_reducible refine w_sfld ?_
  | ((with_reducible refine' w_gtup ?hh ?hn ?_); (case hh => first | assumption | exact upd_same); (case hn => rfl))
  | with_reducible refine w_gcons ?_
  | with_reducible refine w_gnil ?_
  | with_reducible refine w_repl ?_
  | with_reducible refine w_star ?_
  | with_reducible refine w_revL ?_
  | with_reducible refine w_isiS ?_
  | with_reducible refine w_isiI ?_
  | with_reducible refine w_isiN ?_
  | with_reducible refine w_chain ?_
  | with_reducible refine w_x1i ?_
  | with_reducible refine w_x1b ?_
  | with_reducible refine w_x1s ?_
  | with_reducible refine w_int1i ?_
  | with_reducible refine w_int1b ?_
  | ((with_reducible refine w_mod ?hc ?_); (case hc => omega))
  | ((with_reducible refine w_fdivW ?hc ?hd ?_); (case hc => omega); (case hd => omega))
  | ((with_reducible refine w_mul ?hc ?_); (case hc => first | exact Or.inr ⟨by decide, by decide⟩ | exact Or.inl ⟨by decide, by decide⟩))
  | ((with_reducible refine w_pow ?hc ?_); (case hc => exact ⟨by decide, by decide, by decide⟩)))
local macro_rules | `(tactic| walk_at "s1") => `(tactic| first
  | with_reducible refine w_seq ?_
  | with_reducible refine w_asg ?_
  | with_reducible refine w_ret ?_
  | with_reducible refine w_drop ?_
  | with_reducible refine w_next ?_
  | with_reducible refine w_ifs ?_
  | ((with_reducible refine' w_aug ?hv ?_); (case hv => rfl))
  | with_reducible refine w_for ?_
  | walk_at "e1")
local macro_rules | `(tactic| walk_at "e") => `(tactic| repeat walk_at "e1")
local macro_rules | `(tactic| walk_at "g") => `(tactic| repeat walk_at "s1")

namespace K05
open M5
-- _law_value: 0:dice 1:sort 2:signs 3:k
abbrev s__law_value : Stmt := top 37
theorem sc__law_value : FnScope ["dice", "sort", "signs", "k"] ["dice"] (defScope s__law_value) := ⟨rfl, rfl, rfl, by decide +kernel, rfl, by decide +kernel, by decide +kernel⟩
-- _law_sum: 0:numbers 1:first 2:second 3:number 4:whole
abbrev s__law_sum : Stmt := top 40
theorem sc__law_sum : FnScope ["numbers", "first", "second", "number", "whole"] ["numbers"] (defScope s__law_sum) := ⟨rfl, rfl, rfl, by decide +kernel, rfl, by decide +kernel, by decide +kernel⟩
-- _law_rank: 0:value
abbrev s__law_rank : Stmt := top 38
theorem sc__law_rank : FnScope ["value"] ["value"] (defScope s__law_rank) := ⟨rfl, rfl, rfl, by decide +kernel, rfl, by decide +kernel, by decide +kernel⟩
-- _law_ranks: 0:row 1:value
abbrev s__law_ranks : Stmt := top 39
theorem sc__law_ranks : FnScope ["row", "value"] ["row"] (defScope s__law_ranks) := ⟨rfl, rfl, rfl, by decide +kernel, rfl, by decide +kernel, by decide +kernel⟩
structure We (K : PySem.W.Frag) (mg : Str → Option Value) (cTE cRF : Addr) : Prop extends Wd K mg cTE cRF where
  d__law_value : FnP K mg "_law_value" s__law_value
  d__law_sum : FnP K mg "_law_sum" s__law_sum
  d__law_rank : FnP K mg "_law_rank" s__law_rank
  d__law_ranks : FnP K mg "_law_ranks" s__law_ranks
section
variable {P : Program} {w : World} {K : PySem.W.Frag} {mg : Str → Option Value} {base : Heap} {cTE cRF : Addr}
theorem sum_eq (f s : Int) (hf : 0 ≤ f ∧ f < 65521) (hs : 0 ≤ s ∧ s < 65521) : fixedL (65536 * s + f) 4 = [(s * 65536 + f) / 16777216 % 256, (s * 65536 + f) / 65536 % 256, (s * 65536 + f) / 256 % 256, (s * 65536 + f) % 256] := by
  simp only [fixedL, List.nil_append, List.cons_append]
  congr 1
  · omega
  congr 1
  · omega
  congr 1
  · omega
  congr 1
  omega
theorem ck_b (d : List Int) : (0 ≤ (ck d).1 ∧ (ck d).1 < 65521) ∧ 0 ≤ (ck d).2 ∧ (ck d).2 < 65521 := by
  rw [← List.reverse_reverse d]
  generalize d.reverse = e
  induction e with
  | nil => exact ⟨⟨by decide, by decide⟩, by decide, by decide⟩
  | cons b e ih =>
    rw [List.reverse_cons]
    have : ck (e.reverse ++ [b]) = ckStep (ck e.reverse) b := by simp [ck]
    rw [this]
    simp only [ckStep]
    omega
def spSum (K : PySem.W.Frag) : Sp := fun vs H Q _ => ∃ (a : Addr) (d : List Int), vs = [.ref a] ∧ SqT K H a (d.map V.int) ∧ GivesT H Q (fixedL (65536 * (ck d).2 + (ck d).1) 4)
theorem ok__law_sum (W : We K mg cTE cRF) : Cl P w K mg base 1 "_law_sum" (spSum K) := by
  refine cl_mk W.d__law_sum sc__law_sum (fun _ _ _ _ _ _ us hl => match us, hl with | [_], _ => rfl) (fun vs H Q E h => ?_) (fun f cdv A outer s H vs Q E hr h => ?_)
  · obtain ⟨a, d, rfl, _⟩ := h; rfl
  obtain ⟨a, d, rfl, hS, q⟩ := h
  refine ⟨_, (pss_cons (ps_asg (pe_tup (pa_cons pe_int (pa_cons pe_int pa_nil))) (pg_tup rfl (pgs_cons (pg_name (i := 1) sc__law_sum.nd rfl (Or.inl rfl)) (pgs_cons (pg_name (i := 2) sc__law_sum.nd rfl (Or.inl rfl)) pgs_nil))))
    (pss_cons (ps_for (passes_of rfl) rfl (pi_tup (pv 0)) (pg_name (i := 3) sc__law_sum.nd rfl (Or.inl rfl))
    (pss_cons (ps_set (i := 1) sc__law_sum.nd rfl (Or.inl rfl) (pe_op op_mod (pe_callTy call_int1 rfl W.n_int (by decide +kernel) (pa_cons (pe_op op_add (pv 1) (pv 3)) pa_nil)) pe_int))
    (pss_one (ps_set (i := 2) sc__law_sum.nd rfl (Or.inl rfl) (pe_op op_mod (pe_callTy call_int1 rfl W.n_int (by decide +kernel) (pa_cons (pe_op op_add (pv 2) (pv 1)) pa_nil)) pe_int)))))
    (pss_cons (ps_set (i := 4) sc__law_sum.nd rfl (Or.inl rfl) (pe_op op_add (pe_op op_mul (pv 2) pe_int) (pv 1)))
    (pss_one (ps_ret (pe_callTy call_tuple_of rfl W.n_tuple (by decide +kernel) (pa_cons (pe_lst (pa_cons (pe_op op_mod (pe_op op_fdivW (pv 4) (pe_op op_pow pe_int pe_int)) pe_int) (pa_cons (pe_op op_mod (pe_op op_fdivW (pv 4) (pe_op op_pow pe_int pe_int)) pe_int) (pa_cons (pe_op op_mod (pe_op op_fdivW (pv 4) pe_int) pe_int) (pa_cons (pe_op op_mod (pv 4) pe_int) pa_nil))))) pa_nil))))))), ?_⟩
  walk_at "g"
  intro t0 ht0
  walk_at "g"
  refine w_forT (sqT_same hS (same_new ht0 _)) (fun i σ H' => H' = upd H t0 (.tup [.int 1, .int 0]) ∧ ∃ v u : Option V, σ = [some (.ref a), some (.int (ck (d.take i)).1), some (.int (ck (d.take i)).2), v, u]) ⟨rfl, none, none, rfl⟩ (fun i σ H' _ h => by rw [h.1]; exact sqT_same hS (same_new ht0 _)) ?_ ?_
  · rintro i x σ H' hi ⟨rfl, v, u, rfl⟩
    obtain ⟨b, hb, rfl⟩ := ints_get hi
    walk_at "g"
    exact ⟨rfl, _, u, by rw [ck_take hb]; rfl⟩
  · rintro σ H' ⟨rfl, v, u, rfl⟩
    rw [List.length_map, List.take_length]
    walk_at "g"
    rw [show (256 : Int) ^ Int.toNat 3 = 16777216 by decide]
    refine w_fdivW (by decide) (by decide) ?_
    walk_at "g"
    rw [show (256 : Int) ^ Int.toNat 2 = 65536 by decide]
    refine w_fdivW (by decide) (by decide) ?_
    walk_at "g"
    intro L hL
    walk_at "g"
    refine ⟨L, _, rfl, .inl ⟨SqL.of upd_same, fun p hp => ?_⟩⟩
    have b := ck_b d
    have s1 := (same_new ht0 (.tup [.int 1, .int 0])).trans (same_new hL (.lst [.int (((ck d).2 * 65536 + (ck d).1) / 16777216 % 256), .int (((ck d).2 * 65536 + (ck d).1) / 65536 % 256), .int (((ck d).2 * 65536 + (ck d).1) / 256 % 256), .int (((ck d).2 * 65536 + (ck d).1) % 256)]))
    refine q p _ (s1.trans (same_new hp _)) (s1.free hp) ?_
    rw [upd_same, sum_eq _ _ b.1 b.2]
    rfl
end
end K05
end

section
-- part K05L
set_option Elab.async false
set_option linter.all false
set_option maxRecDepth 100000
set_option maxHeartbeats 800000
open PySem PySem.Spec PyProof.Rows L2 Fw
local macro_rules | `(tactic| walk_at "e1") => `(tactic| first
  | ((with_reducible refine' w_var ?hv ?_); (case hv => rfl))
  | with_reducible refine w_c ?_
  | with_reducible refine w_op ?_
  | with_reducible refine w_un ?_
  | with_reducible refine w_cons ?_
  | with_reducible refine w_nil ?_
  | with_reducible refine w_cl ?_
  | with_reducible refine w_cb ?_
  | with_reducible refine w_gname ?_
  | with_reducible refine w_gsub ?_
  | with_reducible refine w_test ?_
  | with_reducible refine w_B ?_
  | with_reducible refine w_bl ?_
  | with_reducible refine w_and ?_
  | with_reducible refine w_or ?_
  | with_reducible refine w_not ?_
  | with_reducible refine w_if ?_
  | with_reducible refine w_I0 ?_
  | with_reducible refine w_ipI ?_
  | with_reducible refine w_eqS ?_
  | with_reducible refine w_neS ?_
  | with_reducible refine w_eqI ?_
  | ((with_reducible refine w_eq ?hs ?_); (case hs => rfl))
  | ((with_reducible refine w_ne ?hs ?_); (case hs => rfl))
  | with_reducible refine w_fld ?_
  | with_reducible refine w_bm ?_
  | with_reducible refine w_bm0 ?_
  | with_reducible refine w_sl ?_
  | with_reducible refine w_part ?_
  | with_reducible refine w_partI ?_
  | with_reducible refine w_nopart ?_
  | ((with_reducible refine' w_ixL ?hh ?ha ?_); (case hh => first | assumption | exact upd_same); (case ha => rfl))
  | ((with_reducible refine' w_setLu ?ha ?_); (case ha => rfl))
  | ((with_reducible refine' w_setL ?hh ?ha ?_); (case hh => first | assumption | exact upd_same); (case ha => rfl))
  | with_reducible refine w_iteT ?_
  | with_reducible refine w_iteF ?_
  | with_reducible refine w_lst ?_
  | with_reducible refine w_tup ?_
  | ((with_reducible refine w_new ?hz ?_); (case hz => rfl))
  | with_reducible refine w_lc ?_
  | with_reducible refine w_iL ?_
  | with_reducible refine w_iT ?_
  | with_reducible refine w_iR1 ?_
  | with_reducible refine w_iR2 ?_
  | with_reducible refine w_yes ?_
  | with_reducible refine w_iStr ?_
  | with_reducible exact tyS
  | with_reducible refine And.intro tyS ?_
  | ((with_reducible refine w_find3 ?_); (first | rw [find3_one] | rw [starts3] | skip))
  | ((with_reducible refine w_2s ?_); (try rw [find_one]))
  | ((with_reducible refine w_inS ?_); rw [S_list])
  | ((with_reducible refine w_lenS ?hz ?_); (case hz => first | assumption | omega | decide); rw [SX.S_len])
  | ((with_reducible refine w_addS ?hz ?_); (case hz => first | assumption | omega | decide); rw [vS_cat])
  | with_reducible refine w_mk ?_
  | with_reducible refine w_me ?_
  | with_reducible refine w_sfld ?_
  | ((with_reducible refine' w_gtup ?hh ?hn ?_); (case hh => first | assumption | exact upd_same); (case hn => rfl))
  | with_reducible refine w_gcons ?_
  | with_reducible refine w_gnil ?_
  | with_reducible refine w_repl ?_
  | with_reducible refine w_star ?_
  | with_reducible refine w_revL ?_
  | with_reducible refine w_isiS ?_
  | with_reducible refine w_isiI ?_
  | with_reducible refine w_isiN ?_
  | with_reducible refine w_chain ?_
  | with_reducible refine w_x1i ?_
  | with_reducible refine w_x1b ?_
  | with_reducible refine w_x1s ?_
  | with_reducible refine w_int1i ?_
  | with_reducible refine w_int1b ?_
  | ((with_reducible refine w_mod ?hc ?_); (case hc => omega))
  | ((with_reducible refine w_fdivW ?hc ?hd ?_); (case hc => omega); (case hd => omega))
  | ((with_reducible refine w_mul ?hc ?_); (case hc => first | exact Or.inr ⟨by decide, by decide⟩ | exact Or.inl ⟨by decide, by decide⟩))
  | ((with_reducible refine w_pow ?hc ?_); (case hc => exact ⟨by decide, by decide, by decide⟩)))
local macro_rules | `(tactic| walk_at "s1") => `(tactic| first
  | with_reducible refine w_seq ?_
  | with_reducible refine w_asg ?_
  | with_reducible refine w_ret ?_
  | with_reducible refine w_drop ?_
  | with_reducible refine w_next ?_
  | with_reducible refine w_ifs ?_
  | ((with_reducible refine' w_aug ?hv ?_); (case hv => rfl))
  | with_reducible refine w_for ?_
  | walk_at "e1")
local macro_rules | `(tactic| walk_at "e") => `(tactic| repeat walk_at "e1")
local macro_rules | `(tactic| walk_at "g") => `(tactic| repeat walk_at "s1")

namespace K05
open M5
section
variable {K : PySem.W.Frag} {σ : L2.St} {H : Hp} {vs : List Nat}
/-- signs drawn from a text that a name holds -/
theorem w_draws2 {d : Addr} {H0 : Hp} {cs : List Nat} {k j : Nat} {m n : Int} {R : Addr → Hp → Prop} (hm : m ≤ cs.length) (hc : cs.length ≤ 1000) (h0 : 0 < m) (h1 : m ≤ 1000) (hn : 0 ≤ n ∧ n ≤ 1000) (kp : Kp d H0 H) (dd : Dice H d)
    (hj : ∀ v, ((wipe σ vs).set k (some v))[j]? = some (some (.str (S cs)))) (hσ : ∀ v, ((wipe σ vs).set k (some v))[0]? = some (some (.ref d))) (hw : ∀ v, wipe ((wipe σ vs).set k (some v)) vs = wipe σ vs)
    (h : ∀ (D : Addr) (H2 : Hp) (l : List Nat), Kp d H0 H2 → Kp d H H2 → Dice H2 d → H2 D = some (.lst (l.map fun c => V.str (S [c]))) → (∀ c ∈ l, c ∈ cs) → l.length = n.toNat → R D H2) :
    -(2 ^ 62) ≤ n ∧ n < 2 ^ 62 ∧ ∀ D, H D = none → ∃ W : Nat → Nat → Hp → Prop, (∃ m, W 0 m (upd H D (.lst []))) ∧ ∀ i m' H, W i m' H →
      ((Itr 0 n.toNat).stop i H ∧ R D H) ∨ ((Itr 0 n.toNat).go i H ∧ ∃ Nx : Hp → Prop, (∀ H', Nx H' → ∃ m'', m'' < m' ∧ W (i + 1) m'' H') ∧ ∀ z H', (Itr 0 n.toNat).yld i H z H' → gName k z (wipe σ vs) H' fun σ2 H2 => wipe σ2 vs = wipe σ vs ∧ tYes σ2 H2 fun b H3 =>
        if b = true then tOp rIxS (tVar j) (tCl K05.spRoll C8.E0 (tCons (tVar 0) (tCons (tC (.int m)) tNil))) σ2 H3 fun y H4 => ∃ acc, H4 D = some (.lst acc) ∧ acc.length < sizeLine ∧ Nx (upd H4 D (.lst (acc ++ [y]))) else Nx H3) := by
  refine w_lcRp ⟨hn.1, Int.lt_of_le_of_lt hn.2 (by decide)⟩ fun D hD => ?_
  obtain ⟨kp1, kp2, dd1, nD, fD, eD⟩ := newl (o := .lst []) kp dd hD rfl
  refine ⟨fun i H2 => ∃ l : List Nat, l.length = i ∧ (∀ c ∈ l, c ∈ cs) ∧ H2 D = some (.lst (l.map fun c => V.str (S [c]))) ∧ Kp d H0 H2 ∧ Kp d H H2 ∧ Dice H2 d, ⟨[], rfl, fun c hc => absurd hc List.not_mem_nil, eD, kp1, kp2, dd1⟩, ?_, ?_⟩
  · rintro i H2 hi ⟨l, rfl, hl, e2, k2, k3, d2⟩
    refine w_gname ⟨hw _, w_yes ?_⟩
    rw [if_pos rfl]
    refine w_op (w_var (hj _) (w_cl (w_cons (w_var (hσ _) (w_cons (w_c (w_nil (w_roll h0 (Int.lt_of_le_of_lt h1 (by decide)) k2 d2 fun r H3 r0 r1 k4 k5 d4 => ?_))))))))
    obtain ⟨q, rfl⟩ := Int.eq_ofNat_of_zero_le r0
    have hq : q < cs.length := by omega
    refine w_ixS (Nat.le_trans hc (by decide)) (List.getElem?_eq_getElem hq) ?_
    have e3 := k5 _ _ nD e2
    have fin : ∀ {Hs : Hp}, Kp d Hs H3 → Hs D = none → Kp d Hs (upd H3 D (.lst ((l.map fun c => V.str (S [c])) ++ [V.str (S [cs[q]])]))) := fun {Hs} a f b o nb e => by
      rw [upd_ne (ne_of_none e f)]
      exact a b o nb e
    refine ⟨_, e3, by rw [List.length_map]; exact Nat.lt_of_lt_of_le (by omega : l.length < 1001) (by decide), l ++ [cs[q]], by simp, ?_, by rw [upd_same, List.map_append]; rfl, fin k4 fD, fin (k3.trans k5) hD, ?_⟩
    · intro c hc
      rcases List.mem_append.mp hc with hc | hc
      · exact hl c hc
      · rw [List.mem_singleton.mp hc]; exact List.getElem_mem hq
    · obtain ⟨a, b, c, e⟩ := d4
      exact ⟨a, b, c, by rw [upd_ne nD.symm]; exact e⟩
  · rintro H2 ⟨l, hl, hc, e, k1, k2, d2⟩
    exact h D H2 l k1 k2 d2 e hc hl
end
theorem atI_map {α : Type} {f : α → V} {ls : List α} {r : Int} (h0 : 0 ≤ r) (h : r < ls.length) : ∃ x ∈ ls, atI (ls.map f) r = some (f x) := by
  obtain ⟨n, rfl⟩ := Int.eq_ofNat_of_zero_le h0
  have hn : n < ls.length := by omega
  exact ⟨ls[n], List.getElem_mem hn, atI_nat (by rw [List.getElem?_map, List.getElem?_eq_getElem hn]; rfl)⟩
section
variable {P : Program} {w : World} {K : PySem.W.Frag} {mg : Str → Option Value} {base : Heap} {cTE cRF : Addr}
def okS (v : RV) : Prop := okV v ∧ match v with | .txt l => l.length ≤ 10 | _ => True
def spValue : Sp := fun vs H Q _ => ∃ d : Addr, vs = [.ref d] ∧ Dice H d ∧ ∀ (v : RV) (H' : Hp), Kp d H H' → Dice H' d → okS v → Q (vOf v) H'
theorem ok__law_value (W : We K mg cTE cRF) (c__law_roll : Cl P w K mg base 1 "_law_roll" spRoll) : Cl P w K mg base 2 "_law_value" spValue := by
  refine cl_mk W.d__law_value sc__law_value (fun _ _ _ _ _ _ us hl => match us, hl with | [_], _ => rfl) (fun vs H Q E h => ?_) (fun f cdv A outer s H vs Q E hr h => ?_)
  · obtain ⟨d, rfl, _⟩ := h; rfl
  obtain ⟨d, rfl, dd, q⟩ := h
  refine ⟨_, (pss_cons (ps_set (i := 1) sc__law_value.nd rfl (Or.inl rfl) (pe_cl c__law_roll hr (by decide) rfl passL (pa_cons (pv 0) (pa_cons pe_int pa_nil))))
    (pss_cons (ps_if (pt_cmpR op_eq (pv 1) pe_int (nomark _))
    (pss_one (ps_ret pe_non))
    pss_nil)
    (pss_cons (ps_if (pt_cmpR op_lt (pv 1) pe_int (nomark _))
    (pss_cons (ps_set (i := 2) sc__law_value.nd rfl (by first | exact Or.inl rfl | exact Or.inr rfl) pe_str)
    (pss_one (ps_ret (pe_bm PySem.F.plainAttrs_str PySem.F.slot_str_join PySem.F.type_str_join mt_join pe_str (pa_cons (pe_lc (own := [("k", 3)]) rfl sc__law_value.nd (pi_range1 rfl W.n_range (pa_cons (pe_cl c__law_roll hr (by decide) rfl passL (pa_cons (pv 0) (pa_cons pe_int pa_nil))) pa_nil)) (blkOk_by (own := [("k", 3)]) (N := ["dice", "sort", "signs", "k"]) (sc := defScope s__law_value) (by decide +kernel)) (fun _ _ _ _ _ => (pg_name (i := 3) sc__law_value.nd rfl (Or.inl rfl))) (fun _ _ _ _ _ => pts_nil) (fun _ _ _ _ _ => (pe_ix ix_str (pv 2) (pe_cl c__law_roll hr (by decide) rfl passL (pa_cons (pv 0) (pa_cons pe_int pa_nil))) (fun _ _ => rfl)))) pa_nil)))))
    pss_nil)
    (pss_one (ps_ret (pe_ix ix_list (pe_lst (pa_cons (pe_op op_sub (pe_cl c__law_roll hr (by decide) rfl passL (pa_cons (pv 0) (pa_cons pe_int pa_nil))) pe_int) (pa_cons (pe_op op_sub pe_int (pe_cl c__law_roll hr (by decide) rfl passL (pa_cons (pv 0) (pa_cons pe_int pa_nil)))) (pa_cons (pe_op op_add (pe_op op_sub pe_int pe_int) (pe_cl c__law_roll hr (by decide) rfl passL (pa_cons (pv 0) (pa_cons pe_int pa_nil)))) (pa_cons (pe_cl c__law_roll hr (by decide) rfl passL (pa_cons (pv 0) (pa_cons (pe_op op_pow pe_int pe_int) pa_nil))) pa_nil))))) (pe_cl c__law_roll hr (by decide) rfl passL (pa_cons (pv 0) (pa_cons pe_int pa_nil))) (fun _ _ => rfl))))))), ?_⟩
  have kp := Kp.refl d H
  walk_at "g"
  refine w_roll (by decide) (by decide) kp dd fun r H1 r0 r1 kp _ dd => ?_
  walk_at "g"
  refine w_iteD (fun c1 => ?_) (fun c1 => ?_)
  · walk_at "g"
    exact q .non H1 kp dd ⟨trivial, trivial⟩
  walk_at "g"
  refine w_iteD (fun c2 => ?_) (fun c2 => ?_)
  · walk_at "g"
    refine w_roll (by decide) (by decide) kp dd fun i H2 i0 i1 kp _ dd => ?_
    walk_at "g"
    refine' w_draws2 (cs := [10, 32, 33, 126, 97, 122, 48, 57, 39, 95, 42, 64, 91, 123]) ?hm ?hc ?h0 ?h1 ⟨i0, by omega⟩ kp dd ?hj ?hs ?hw fun D H3 l kp _ dd eD hl hn => ?_
    case hm => decide
    case hc => decide
    case h0 => decide
    case h1 => decide
    case hj => exact fun _ => rfl
    case hs => exact fun _ => rfl
    case hw => exact fun _ => rfl
    walk_at "g"
    have jj := join1 (K := K) (l := l) (by omega) eD
    refine ⟨S [], D, l.map (fun c => S [c]), rfl, rfl, .inl jj.1, jj.2.1, ?_⟩
    rw [jj.2.2]
    have h13 : ∀ c ∈ [10, 32, 33, 126, 97, 122, 48, 57, 39, 95, 42, 64, 91, 123], c ∈ alphabet := by decide
    exact q (.txt l) H3 kp dd ⟨fun c hc => h13 c (hl c hc), by show l.length ≤ 10; omega⟩
  walk_at "g"
  refine w_roll (by decide) (by decide) kp dd fun i H2 i0 i1 kp _ dd => ?_
  walk_at "g"
  refine w_roll (by decide) (by decide) kp dd fun j H3 j0 j1 kp _ dd => ?_
  walk_at "g"
  refine w_roll (by decide) (by decide) kp dd fun k H4 k0 k1 kp _ dd => ?_
  walk_at "g"
  rw [show (10 : Int) ^ Int.toNat 10 = 10000000000 by decide]
  refine w_roll (by decide) (by decide) kp dd fun t H5 t0 t1 kp _ dd => ?_
  walk_at "g"
  intro p hp
  generalize hX : upd H5 p _ = H6
  obtain ⟨kp, _, dd, np, _, ep⟩ := newl kp dd hp hX
  clear hX
  walk_at "g"
  refine w_roll (by decide) (by decide) kp dd fun u H7 u0 u1 kp kp' dd => ?_
  obtain ⟨n, hn, en⟩ := atI_map (f := fun n => V.int n) (ls := [i - 150, 9223372036854775807 - j, 0 - 9223372036854775807 + k, t]) u0 u1
  refine w_ixL (kp' _ _ np ep) en ?_
  refine q (.num n) H7 kp dd ⟨?_, trivial⟩
  show -HI ≤ n ∧ n ≤ HI
  have hHI : HI = 9223372036854775807 := rfl
  simp only [List.mem_cons, List.not_mem_nil, or_false] at hn
  rcases hn with rfl | rfl | rfl | rfl <;> omega
end
end K05
end

section
-- part K05P
set_option Elab.async false
set_option linter.all false
set_option maxRecDepth 100000
set_option maxHeartbeats 800000
open PySem PySem.Spec PyProof.Rows L2 Fw
local macro_rules | `(tactic| walk_at "e1") => `(tactic| first
  | ((with_reducible refine' w_var ?hv ?_); (case hv => rfl))
  | with_reducible refine w_c ?_
  | with_reducible refine w_op ?_
  | with_reducible refine w_un ?_
  | with_reducible refine w_cons ?_
  | with_reducible refine w_nil ?_
  | with_reducible refine w_cl ?_
  | with_reducible refine w_cb ?_
  | with_reducible refine w_gname ?_
  | with_reducible refine w_gsub ?_
  | with_reducible refine w_test ?_
  | with_reducible refine w_B ?_
  | with_reducible refine w_bl ?_
  | with_reducible refine w_and ?_
  | with_reducible refine w_or ?_
  | with_reducible refine w_not ?_
  | with_reducible refine w_if ?_
  | with_reducible refine w_I0 ?_
  | with_reducible refine w_ipI ?_
  | with_reducible refine w_eqS ?_
  | with_reducible refine w_neS ?_
  | with_reducible refine w_eqI ?_
  | ((with_reducible refine w_eq ?hs ?_); (case hs => rfl))
  | ((with_reducible refine w_ne ?hs ?_); (case hs => rfl))
  | with_reducible refine w_fld ?_
  | with_reducible refine w_bm ?_
  | with_reducible refine w_bm0 ?_
  | with_reducible refine w_sl ?_
  | with_reducible refine w_part ?_
  | with_reducible refine w_partI ?_
  | with_reducible refine w_nopart ?_
  | ((with_reducible refine' w_ixL ?hh ?ha ?_); (case hh => first | assumption | exact upd_same); (case ha => rfl))
  | ((with_reducible refine' w_setLu ?ha ?_); (case ha => rfl))
  | ((with_reducible refine' w_setL ?hh ?ha ?_); (case hh => first | assumption | exact upd_same); (case ha => rfl))
  | with_reducible refine w_iteT ?_
  | with_reducible refine w_iteF ?_
  | with_reducible refine w_lst ?_
  | with_reducible refine w_tup ?_
  | ((with_reducible refine w_new ?hz ?_); (case hz => rfl))
  | with_reducible refine w_lc ?_
  | with_reducible refine w_iL ?_
  | with_reducible refine w_iT ?_
  | with_reducible refine w_iR1 ?_
  | with_reducible refine w_iR2 ?_
  | with_reducible refine w_yes ?_
  | with_reducible refine w_iStr ?_
  | with_reducible exact tyS
  | with_reducible refine And.intro tyS ?_
  | ((with_reducible refine w_find3 ?_); (first | rw [find3_one] | rw [starts3] | skip))
  | ((with_reducible refine w_2s ?_); (try rw [find_one]))
  | ((with_reducible refine w_inS ?_); rw [S_list])
  | ((with_reducible refine w_lenS ?hz ?_); (case hz => first | assumption | omega | decide); rw [SX.S_len])
  | ((with_reducible refine w_addS ?hz ?_); (case hz => first | assumption | omega | decide); rw [vS_cat])
  | with_reducible refine w_mk ?_
  | with_reducible refine w_me ?_
  | with_reducible refine w_sfld ?_
  | ((with_reducible refine' w_gtup ?hh ?hn ?_); (case hh => first | assumption | exact upd_same); (case hn => rfl))
  | with_reducible refine w_gcons ?_
  | with_reducible refine w_gnil ?_
  | with_reducible refine w_repl ?_
  | with_reducible refine w_star ?_
  | with_reducible refine w_revL ?_
  | with_reducible refine w_isiS ?_
  | with_reducible refine w_isiI ?_
  | with_reducible refine w_isiN ?_
  | with_reducible refine w_chain ?_
  | with_reducible refine w_x1i ?_
  | with_reducible refine w_x1b ?_
  | with_reducible refine w_x1s ?_
  | with_reducible refine w_int1i ?_
  | with_reducible refine w_int1b ?_
  | ((with_reducible refine w_mod ?hc ?_); (case hc => omega))
  | ((with_reducible refine w_fdivW ?hc ?hd ?_); (case hc => omega); (case hd => omega))
  | ((with_reducible refine w_mul ?hc ?_); (case hc => first | exact Or.inr ⟨by decide, by decide⟩ | exact Or.inl ⟨by decide, by decide⟩))
  | ((with_reducible refine w_pow ?hc ?_); (case hc => exact ⟨by decide, by decide, by decide⟩)))
local macro_rules | `(tactic| walk_at "s1") => `(tactic| first
  | with_reducible refine w_seq ?_
  | with_reducible refine w_asg ?_
  | with_reducible refine w_ret ?_
  | with_reducible refine w_drop ?_
  | with_reducible refine w_next ?_
  | with_reducible refine w_ifs ?_
  | ((with_reducible refine' w_aug ?hv ?_); (case hv => rfl))
  | with_reducible refine w_for ?_
  | walk_at "e1")
local macro_rules | `(tactic| walk_at "e") => `(tactic| repeat walk_at "e1")
local macro_rules | `(tactic| walk_at "g") => `(tactic| repeat walk_at "s1")

namespace K05
open M5
section
variable {P : Program} {w : World} {K : PySem.W.Frag} {mg : Str → Option Value} {base : Heap} {cTE cRF : Addr}
def rkV : RV → List V
  | .non => [.int 0, .int 0]
  | .txt l => [.int 2, .str (S l)]
  | .num n => [.int 1, .int n]
def spRank : Sp := fun vs H Q _ => ∃ v : RV, vs = [vOf v] ∧ ∀ p, H p = none → Q (.ref p) (upd H p (.tup (rkV v)))
theorem ok__law_rank (W : We K mg cTE cRF) : Cl P w K mg base 1 "_law_rank" spRank := by
  refine cl_mk W.d__law_rank sc__law_rank (fun _ _ _ _ _ _ us hl => match us, hl with | [_], _ => rfl) (fun vs H Q E h => ?_) (fun f cdv A outer s H vs Q E hr h => ?_)
  · obtain ⟨v, rfl, _⟩ := h; rfl
  obtain ⟨v, rfl, q⟩ := h
  refine ⟨_, (pss_one (ps_ret (pe_ifExp (pt_cmpR op_isN (pv 0) pe_non (nomark _)) (pe_tup (pa_cons pe_int (pa_cons pe_int pa_nil))) (pe_ifExp (pt_val (pe_callB L2.call_isi rfl W.n_isinstance PyProof.Rows.boot_isinstance (pa_cons (pv 0) (pa_cons (pe_bltn (v := .ty "str") rfl W.n_str (by decide +kernel) rfl) pa_nil)))) (pe_tup (pa_cons pe_int (pa_cons (pv 0) pa_nil))) (pe_tup (pa_cons pe_int (pa_cons (pv 0) pa_nil))))))), ?_⟩
  cases v with
  | non =>
    rw [show vOf .non = V.non from rfl]
    walk_at "g"
    refine ⟨rfl, ?_⟩
    rw [decide_eq_true rfl]
    walk_at "g"
    exact q
  | txt l =>
    rw [show vOf (.txt l) = V.str (S l) from rfl]
    walk_at "g"
    refine ⟨rfl, ?_⟩
    rw [decide_eq_false (fun e => by cases e)]
    walk_at "g"
    exact q
  | num n =>
    rw [show vOf (.num n) = V.int n from rfl]
    walk_at "g"
    refine ⟨rfl, ?_⟩
    rw [decide_eq_false (fun e => by cases e)]
    walk_at "g"
    exact q
def Rks (H : Hp) : List Addr → List RV → Prop := Paired fun z v => H z = some (.tup (rkV v))
theorem Rks.up {H H' : Hp} : ∀ {xs : List Addr} {ts : List RV}, Rks H xs ts → (∀ x ∈ xs, ∀ ys, H x = some (.tup ys) → H' x = some (.tup ys)) → Rks H' xs ts
  | _, _, .nil, _ => .nil
  | _, _, .cons h r, e => .cons (e _ List.mem_cons_self _ h) (Rks.up r fun x hx => e x (List.mem_cons_of_mem _ hx))
def spRanks (K : PySem.W.Frag) : Sp := fun vs H Q _ => ∃ (a : Addr) (r : List RV), vs = [.ref a] ∧ SqT K H a (r.map vOf) ∧ r.length ≤ 1000 ∧ ∀ (p : Addr) (H' : Hp) (zs : List Addr), Same H H' → H p = none → H' p = some (.lst (zs.map V.ref)) → Rks H' zs r → Q (.ref p) H'
theorem ok__law_ranks (W : We K mg cTE cRF) (c__law_rank : Cl P w K mg base 1 "_law_rank" spRank) : Cl P w K mg base 2 "_law_ranks" (spRanks K) := by
  refine cl_mk W.d__law_ranks sc__law_ranks (fun _ _ _ _ _ _ us hl => match us, hl with | [_], _ => rfl) (fun vs H Q E h => ?_) (fun f cdv A outer s H vs Q E hr h => ?_)
  · obtain ⟨a, r, rfl, _⟩ := h; rfl
  obtain ⟨a, r, rfl, hS, h1, q⟩ := h
  refine ⟨_, (pss_one (ps_ret (pe_lc (own := [("value", 1)]) rfl sc__law_ranks.nd (pi_tup (pv 0)) (blkOk_by (own := [("value", 1)]) (N := ["row", "value"]) (sc := defScope s__law_ranks) (by decide +kernel)) (fun _ _ _ _ _ => (pg_name (i := 1) sc__law_ranks.nd rfl (by first | exact Or.inl rfl | exact Or.inr rfl))) (fun _ _ _ _ _ => pts_nil) (fun _ _ _ _ _ => (pe_cl c__law_rank hr (by decide) rfl passL (pa_cons (pv 1) pa_nil)))))), ?_⟩
  walk_at "g"
  refine w_lcTn hS (fun D hD => ⟨fun i H2 => ∃ zs : List Addr, zs.length = i ∧ Same H H2 ∧ H2 D = some (.lst (zs.map V.ref)) ∧ Rks H2 zs (r.take i), ⟨[], rfl, same_new hD _, upd_same, .nil⟩, fun i H2 _ ⟨zs, _, s, _⟩ => sqT_same hS s, ?_, ?_⟩)
  · rintro i x H2 hi ⟨zs, rfl, s2, eD, dA⟩
    obtain ⟨v, hv, rfl⟩ := vals_get hi
    walk_at "g"
    refine ⟨rfl, ?_⟩
    walk_at "g"
    refine ⟨v, rfl, fun z hz => ?_⟩
    have nz : D ≠ z := ne_of_none eD hz
    have hlt := (List.getElem?_eq_some_iff.mp hv).1
    refine ⟨zs.map V.ref, by rw [upd_ne nz]; exact eD, by rw [List.length_map]; exact Nat.lt_of_lt_of_le (by omega : zs.length < 1001) (by decide), zs ++ [z], by simp, same_upd (s2.trans (same_new hz _)) hD, by rw [upd_same, List.map_append]; rfl, ?_⟩
    rw [List.take_add_one, hv]
    have keep : ∀ b o, H2 b = some (.tup o) → (upd (upd H2 z (.tup (rkV v))) D (.lst (zs.map V.ref ++ [.ref z]))) b = some (.tup o) := fun b o e => by
      rw [upd_ne (fun n => by rw [n, eD] at e; cases e), upd_ne (ne_of_none e hz)]
      exact e
    refine Paired.snoc (dA.up fun b _ o e => keep b o e) ?_
    rw [upd_ne nz.symm, upd_same]
  · rintro H2 ⟨zs, el, s2, eD, dA⟩
    rw [List.length_map] at dA
    rw [List.take_length] at dA
    exact q D H2 zs s2 hD eD dA
end
end K05
end

section
-- part K05S
set_option Elab.async false
set_option linter.all false
set_option maxRecDepth 100000
set_option maxHeartbeats 800000
/-! K05S: t < u for lists of ranks: a pair's second places are compared only where the first ones are the same -/
namespace K05
open PySem PySem.Spec PyProof.Rows L2 Fw M5
section
open AutoSeq1 (wpAny_loadPart')
open MeetsSeq MeetsSeq2 MeetsSeq3 SeqRoads2 SeqAt
/-- pairs: how far the walk has come -/
inductive Way (p q : Value × Value) (e0 e1 : Bool) : List (Value × Value) → Prop
  | two : Way p q e0 e1 [p, q]
  | one : e0 = true → Way p q e0 e1 [q]
  | nil : e0 = true → e1 = true → Way p q e0 e1 []
theorem pair_lt (l b : Addr) (a0 a1 b0 b1 : Value) (n n2 : Nat) (dd dd2 : Option Addr) (sl sl2 : Array (Option Value)) (e0 e1 r0 r1 : Bool) :
    Meets (Builtin.«tuple.__lt__» ⟨[.ref l, .ref b], []⟩)
      (fun A R s => s.heap.get? l = some { cls := .type "tuple", dict := dd, data := .seq #[a0, a1] n, slots := sl } ∧ s.heap.get? b = some { cls := .type "tuple", dict := dd2, data := .seq #[b0, b1] n2, slots := sl2 } ∧
        EqAt A.in1 s a0 b0 e0 ∧ (e0 = false → RcLt A.in1 s a0 b0 r0) ∧ (e0 = true → EqAt A.in1 s a1 b1 e1) ∧ (e0 = true → e1 = false → RcLt A.in1 s a1 b1 r1) ∧
        R (.ok (.ret (.bool (if e0 = true then (if e1 = true then false else r1) else r0)))) s) :=
  .of_wp fun prog w A R s h => by
    obtain ⟨hp, g, d, tk, os⟩ := s
    obtain ⟨hl, hb, hE0, hR0, hE1, hR1, h⟩ := h
    have f2 := AutoSeq1.sub_tuple_tuple
    wp_walk using wpAny_loadPart' hl, wpAny_loadPart' hb, wpAny_forIn_list _ (fun rest st s' => st.1 = none ∧ s' = ⟨hp, g, d, tk, os⟩ ∧ Way (a0, b0) (a1, b1) e0 e1 rest) _
    case turn =>
      rintro ⟨y, x⟩ rest st s' ⟨hs, rfl, hz⟩
      generalize hq : (y, x) :: rest = z at hz
      cases hz with
      | two =>
        cases hq
        refine wpAny_bind (hE0 prog w _ _ ?_)
        cases e0 with
        | true =>
          wp_walk
          exact ⟨rfl, rfl, .one rfl⟩
        | false =>
          have less : ∀ E Q, Q (.bool r0) ⟨hp, g, d, tk, os⟩ → wpAny (model prog w) A.in1 (richCompare .Lt a0 b0) Q E ⟨hp, g, d, tk, os⟩ := hR0 rfl prog w
          generalize richCompare .Lt a0 b0 = cmp at less ⊢
          wp_walk
          refine less _ _ ?_
          wp_walk
          exact ⟨_, rfl, h⟩
      | one e0t =>
        subst e0t
        cases hq
        refine wpAny_bind (hE1 rfl prog w _ _ ?_)
        cases e1 with
        | true =>
          wp_walk
          exact ⟨rfl, rfl, .nil rfl rfl⟩
        | false =>
          have less : ∀ E Q, Q (.bool r1) ⟨hp, g, d, tk, os⟩ → wpAny (model prog w) A.in1 (richCompare .Lt a1 b1) Q E ⟨hp, g, d, tk, os⟩ := hR1 rfl rfl prog w
          generalize richCompare .Lt a1 b1 = cmp at less ⊢
          wp_walk
          refine less _ _ ?_
          wp_walk
          exact ⟨_, rfl, h⟩
      | nil => cases hq
    case fin =>
      rintro ⟨s1, s2⟩ s' ⟨hs, rfl, hz⟩
      simp only at hs
      subst hs
      generalize hq : ([] : List (Value × Value)) = z at hz
      cases hz with
      | two => cases hq
      | one => cases hq
      | nil h1 h2 =>
        subst h1 h2
        wp_walk
        exact ⟨_, rfl, by simpa [Builtin.Tuple.tupleCompareSizes] using h⟩
    case h => exact ⟨rfl, rfl, .two⟩
variable {A : Around} {s : Shared}
theorem rcLt_pair {l b : Addr} {a0 a1 b0 b1 : Value} {e0 e1 r0 r1 : Bool} (hl : s.heap.IsTuple l #[a0, a1]) (hb : s.heap.IsTuple b #[b0, b1]) (hu : A.units < cLine)
    (hE0 : EqAt A.in1 s a0 b0 e0) (hR0 : e0 = false → RcLt A.in1 s a0 b0 r0) (hE1 : e0 = true → EqAt A.in1 s a1 b1 e1) (hR1 : e0 = true → e1 = false → RcLt A.in1 s a1 b1 r1) :
    RcLt A s (.ref l) (.ref b) (if e0 = true then (if e1 = true then false else r1) else r0) := fun prog w E Q h => by
  obtain ⟨⟨cls, dd, data, sl⟩, ho, hc, n, hd⟩ := id hl
  obtain ⟨⟨cls2, dd2, data2, sl2⟩, ho2, hc2, n2, hd2⟩ := id hb
  simp only at hc hd hc2 hd2
  subst hc hd hc2 hd2
  exact richCompare_meets_room (op := .Lt) ⟨_, ho, rfl⟩ ⟨_, ho2, rfl⟩ F.slot_tuple_lt F.entry_tuple_lt (F.args_tuple_lt_2 _ _) (pair_lt l b a0 a1 b0 b1 n n2 dd dd2 sl sl2 e0 e1 r0 r1)
    ⟨ho, ho2, hE0, hR0, hE1, hR1, ⟨(fun x => nomatch x), h⟩⟩ hu
end
end K05
end

section
-- part K05T
set_option Elab.async false
set_option linter.all false
set_option maxRecDepth 100000
set_option maxHeartbeats 800000
/-! K05T: ranks compared, rows and keys as data -/
namespace K05
open PySem PySem.Spec PyProof.Rows L2 Fw M5
section
open SeqAt
theorem S_inj2 {l m : List Nat} (h : S l = S m) : l = m := by rw [← S_list l, h, S_list]
theorem S_beq (l m : List Nat) : (S l == S m) = decide (l = m) := by
  rw [Bool.eq_iff_iff, beq_iff_eq, decide_eq_true_iff]
  exact ⟨S_inj2, fun e => by rw [e]⟩
/-- a rank's two places -/
def rk1 : RV → Int
  | .non => 0
  | .txt _ => 2
  | .num _ => 1
def rk2 : RV → V
  | .non => .int 0
  | .txt l => .str (S l)
  | .num n => .int n
theorem rkV_eq (v : RV) : rkV v = [.int (rk1 v), rk2 v] := by cases v <;> rfl
theorem rkV_inj : ∀ {v w : RV}, rkV v = rkV w → v = w
  | .non, .non, _ => rfl
  | .txt l, .txt m, h => by
    simp only [rkV, List.cons.injEq, V.str.injEq] at h
    rw [S_inj2 h.2.1]
  | .num n, .num m, h => by
    simp only [rkV, List.cons.injEq, V.int.injEq] at h
    rw [h.2.1]
  | .non, .txt _, h => by simp [rkV] at h
  | .non, .num _, h => by simp [rkV] at h
  | .txt _, .non, h => by simp [rkV] at h
  | .txt _, .num _, h => by simp [rkV] at h
  | .num _, .non, h => by simp [rkV] at h
  | .num _, .txt _, h => by simp [rkV] at h
variable {A : Around} {s : Shared}
theorem second_eq : ∀ {v w : RV} {x y : Value}, rk1 v = rk1 w → RelV (rk2 v) x → RelV (rk2 w) y → EqAt A s x y (decide (v = w))
  | .non, .non, _, _, _, hx, hy => by
    obtain ⟨t, rfl⟩ := hx
    obtain ⟨u, rfl⟩ := hy
    exact EqAt.int_int 0 t 0 u
  | .txt l, .txt m, _, _, _, hx, hy => by
    obtain ⟨t, rfl⟩ := hx
    obtain ⟨u, rfl⟩ := hy
    have := EqAt.str_str (A := A) (s := s) (S l) t (S m) u
    have e : (S l == S m) = decide (RV.txt l = RV.txt m) := by rw [S_beq, decide_eq_decide]; exact ⟨fun e => by rw [e], fun e => RV.txt.inj e⟩
    rw [← e]
    exact this
  | .num n, .num m, _, _, _, hx, hy => by
    obtain ⟨t, rfl⟩ := hx
    obtain ⟨u, rfl⟩ := hy
    have := EqAt.int_int (A := A) (s := s) n t m u
    have e : (n == m) = decide (RV.num n = RV.num m) := by rw [Bool.beq_eq_decide_eq, decide_eq_decide]; exact ⟨fun e => by rw [e], fun e => RV.num.inj e⟩
    rw [← e]
    exact this
  | .non, .txt _, _, _, h, _, _ => absurd (show (0 : Int) = 2 from h) (by decide)
  | .non, .num _, _, _, h, _, _ => absurd (show (0 : Int) = 1 from h) (by decide)
  | .txt _, .non, _, _, h, _, _ => absurd (show (2 : Int) = 0 from h) (by decide)
  | .txt _, .num _, _, _, h, _, _ => absurd (show (2 : Int) = 1 from h) (by decide)
  | .num _, .non, _, _, h, _, _ => absurd (show (1 : Int) = 0 from h) (by decide)
  | .num _, .txt _, _, _, h, _, _ => absurd (show (1 : Int) = 2 from h) (by decide)
theorem rk2_kind (v : RV) : (∃ n, rk2 v = .int n) ∨ ∃ x, rk2 v = .str x := by cases v with
  | non => exact .inl ⟨0, rfl⟩
  | txt l => exact .inr ⟨S l, rfl⟩
  | num n => exact .inl ⟨n, rfl⟩
theorem second_any {v w : RV} {x y : Value} (hx : RelV (rk2 v) x) (hy : RelV (rk2 w) y) : ∃ k, EqAt A s x y k := by
  rcases rk2_kind v with ⟨n, e⟩ | ⟨n, e⟩ <;> rcases rk2_kind w with ⟨m, e2⟩ | ⟨m, e2⟩ <;> rw [e] at hx <;> rw [e2] at hy <;> obtain ⟨t, rfl⟩ := hx <;> obtain ⟨u, rfl⟩ := hy
  · exact ⟨_, EqAt.int_int n t m u⟩
  · exact ⟨_, EqAt.int_str n t m u⟩
  · exact ⟨_, EqAt.str_int n t m u⟩
  · exact ⟨_, EqAt.str_str n t m u⟩
theorem second_lt : ∀ {v w : RV} {x y : Value}, rk1 v = rk1 w → RelV (rk2 v) x → RelV (rk2 w) y → RcLt A s x y (vlt v w)
  | .non, .non, _, _, _, hx, hy => by
    obtain ⟨t, rfl⟩ := hx
    obtain ⟨u, rfl⟩ := hy
    intro prog wd E Q q
    exact P.lt_int (a := 0) (b := 0) q
  | .txt l, .txt m, _, _, _, hx, hy => by
    obtain ⟨t, rfl⟩ := hx
    obtain ⟨u, rfl⟩ := hy
    intro prog wd E Q q
    refine P.lt_str (x := S l) (y := S m) ?_
    rw [S_list, S_list]
    exact q
  | .num n, .num m, _, _, _, hx, hy => by
    obtain ⟨t, rfl⟩ := hx
    obtain ⟨u, rfl⟩ := hy
    intro prog wd E Q q
    exact P.lt_int (a := n) (b := m) q
  | .non, .txt _, _, _, h, _, _ => absurd (show (0 : Int) = 2 from h) (by decide)
  | .non, .num _, _, _, h, _, _ => absurd (show (0 : Int) = 1 from h) (by decide)
  | .txt _, .non, _, _, h, _, _ => absurd (show (2 : Int) = 0 from h) (by decide)
  | .txt _, .num _, _, _, h, _, _ => absurd (show (2 : Int) = 1 from h) (by decide)
  | .num _, .non, _, _, h, _, _ => absurd (show (1 : Int) = 0 from h) (by decide)
  | .num _, .txt _, _, _, h, _, _ => absurd (show (1 : Int) = 2 from h) (by decide)
theorem vlt_first {v w : RV} (h : rk1 v ≠ rk1 w) : vlt v w = decide (rk1 v < rk1 w) := by
  cases v <;> cases w <;> first | exact absurd rfl h | rfl
theorem vlt_self (v : RV) : vlt v v = false := by
  cases v with
  | non => rfl
  | txt l => exact decide_eq_false (List.lt_irrefl l)
  | num n => exact decide_eq_false (Int.lt_irrefl n)
theorem rank_lt {v w : RV} {z z' : Addr} {its its2 : List Value} (hz : IsTup s.heap z its.toArray) (hz' : IsTup s.heap z' its2.toArray) (r : Vals (rkV v) its) (r' : Vals (rkV w) its2) (hu : A.units < cLine) : RcLt A s (.ref z) (.ref z') (vlt v w) := by
  rw [rkV_eq] at r r'
  obtain ⟨a0, us, rfl, ra0, us2⟩ : ∃ a us, its = a :: us ∧ RelV (.int (rk1 v)) a ∧ Vals [rk2 v] us := by cases r with | cons a b => exact ⟨_, _, rfl, a, b⟩
  obtain ⟨a1, rfl, ra1⟩ := us2.one
  obtain ⟨b0, ws, rfl, rb0, ws2⟩ : ∃ a us, its2 = a :: us ∧ RelV (.int (rk1 w)) a ∧ Vals [rk2 w] us := by cases r' with | cons a b => exact ⟨_, _, rfl, a, b⟩
  obtain ⟨b1, rfl, rb1⟩ := ws2.one
  obtain ⟨t, rfl⟩ := ra0
  obtain ⟨u, rfl⟩ := rb0
  have key := rcLt_pair (A := A) (s := s) (e0 := rk1 v == rk1 w) (r0 := decide (rk1 v < rk1 w)) (e1 := decide (v = w)) (r1 := vlt v w) hz hz' hu (EqAt.int_int _ t _ u) (fun _ prog wd E Q q => P.lt_int q)
    (fun e => second_eq (eq_of_beq e) ra1 rb1) (fun e _ => second_lt (eq_of_beq e) ra1 rb1)
  have e : (if (rk1 v == rk1 w) = true then (if decide (v = w) = true then false else vlt v w) else decide (rk1 v < rk1 w)) = vlt v w := by
    by_cases c : rk1 v = rk1 w
    · rw [if_pos (beq_iff_eq.mpr c)]
      by_cases c2 : v = w
      · subst c2
        rw [if_pos (decide_eq_true rfl), vlt_self]
      · rw [if_neg (fun h => c2 (of_decide_eq_true h))]
    · rw [if_neg (fun h => c (eq_of_beq h)), vlt_first c]
  rw [e] at key
  exact key
theorem rank_eq {v w : RV} {z z' : Addr} {its its2 : List Value} (hz : IsTup s.heap z its.toArray) (hz' : IsTup s.heap z' its2.toArray) (r : Vals (rkV v) its) (r' : Vals (rkV w) its2) (hu : A.units < cLine) (same : z = z' → v = w) : EqAt A s (.ref z) (.ref z') (decide (v = w)) := by
  by_cases c : z = z'
  · have := same c
    subst c this
    rw [decide_eq_true rfl]
    exact EqAt.same _
  rw [rkV_eq] at r r'
  obtain ⟨a0, us, rfl, ra0, us2⟩ : ∃ a us, its = a :: us ∧ RelV (.int (rk1 v)) a ∧ Vals [rk2 v] us := by cases r with | cons a b => exact ⟨_, _, rfl, a, b⟩
  obtain ⟨a1, rfl, ra1⟩ := us2.one
  obtain ⟨b0, ws, rfl, rb0, ws2⟩ : ∃ a us, its2 = a :: us ∧ RelV (.int (rk1 w)) a ∧ Vals [rk2 w] us := by cases r' with | cons a b => exact ⟨_, _, rfl, a, b⟩
  obtain ⟨b1, rfl, rb1⟩ := ws2.one
  obtain ⟨t, rfl⟩ := ra0
  obtain ⟨u, rfl⟩ := rb0
  refine EqAt.of_refs c ?_
  by_cases c0 : rk1 v = rk1 w
  · have := RcAt.tuples (A := A) (s := s) (e := fun j => if j = 0 then true else decide (v = w)) hz hz' hu (fun j j1 j2 => by
      match j, j1 with
      | 0, _ =>
        have := EqAt.int_int (A := A.in1) (s := s) (rk1 v) t (rk1 w) u
        rw [show (rk1 v == rk1 w) = true from beq_iff_eq.mpr c0] at this
        exact this
      | 1, _ => exact second_eq c0 ra1 rb1)
    simpa [List.range_succ] using this
  · have e : decide (v = w) = false := decide_eq_false fun h => c0 (by rw [h])
    rw [e]
    obtain ⟨k, hk⟩ := second_any (A := A.in1) (s := s) ra1 rb1
    have := RcAt.tuples (A := A) (s := s) (e := fun j => if j = 0 then false else k) hz hz' hu (fun j j1 j2 => by
      match j, j1 with
      | 0, _ =>
        have := EqAt.int_int (A := A.in1) (s := s) (rk1 v) t (rk1 w) u
        rw [show (rk1 v == rk1 w) = false from beq_eq_false_iff_ne.mpr c0] at this
        exact this
      | 1, _ => exact hk)
    simpa [List.range_succ] using this
end
/-! two rows' ranks -/
section
open SeqAt
theorem firstLt_map {e r : Nat → Bool} {fin : Bool} (f : Nat → Nat) : ∀ l : List Nat, firstLt e r fin (l.map f) = firstLt (fun j => e (f j)) (fun j => r (f j)) fin l
  | [] => rfl
  | j :: t => by
    show (if e (f j) = true then firstLt e r fin (t.map f) else r (f j)) = _
    rw [firstLt_map f t]
    rfl
theorem firstLt_rows : ∀ r t : List RV, r.length = t.length → firstLt (fun j => decide (r.getD j .non = t.getD j .non)) (fun j => vlt (r.getD j .non) (t.getD j .non)) false (List.range r.length) = rlt r t
  | [], [], _ => rfl
  | v :: r, w :: t, h => by
    have ih := firstLt_rows r t (by simpa using h)
    rw [List.length_cons, List.range_succ_eq_map]
    show (if decide (v = w) = true then firstLt _ _ false ((List.range r.length).map Nat.succ) else vlt v w) = _
    rw [firstLt_map, rlt]
    by_cases c : v = w
    · rw [if_pos (decide_eq_true c), if_pos c]
      exact ih
    · rw [if_neg (fun h => c (of_decide_eq_true h)), if_neg c]
variable {X : Cx}
def rLtRk : R2 := fun x y H Q => ∃ (a b : Addr) (zs ws : List Addr) (r t : List RV), x = .ref a ∧ y = .ref b ∧ H a = some (.lst (zs.map V.ref)) ∧ H b = some (.lst (ws.map V.ref)) ∧ Rks H zs r ∧ Rks H ws t ∧ r.length = t.length ∧ Q (.bl (rlt r t)) H
theorem rks_at {pins : List (Addr × Obj)} {σ : L2.St} {H : Hp} {s : Shared} (I : Inv X pins σ H s) : ∀ {zs : List Addr} {r : List RV} {its : List Value}, Rks H zs r → Vals (zs.map V.ref) its →
    ∀ j (h : j < its.length), ∃ z us, H z = some (.tup (rkV (r.getD j .non))) ∧ its[j] = .ref z ∧ IsTup s.heap z (us : List Value).toArray ∧ Vals (rkV (r.getD j .non)) us
  | _, _, _, .nil, rv, j, h => by cases rv; exact absurd h (Nat.not_lt_zero _)
  | _, _, _, .cons e rest, rv, j, h => by
    cases rv with
    | cons r1 r2 =>
      cases j with
      | zero =>
        cases r1
        obtain ⟨us, u1, u2, _⟩ := I.tuple (SqT.of e)
        exact ⟨_, us, e, rfl, u2, u1⟩
      | succ j => exact rks_at I rest r2 j (by simpa using h)
theorem op_ltRk (hu : X.A.units + 64 < cLine) : OpR X (compareOp .Lt) rLtRk := by
  intro pins s σ H x y v u Q I rx ry h
  obtain ⟨a, b, zs, ws, r, t, rfl, rfl, ha, hb, hr, ht, hl, q⟩ := h
  cases rx
  cases ry
  obtain ⟨its, ra, pa, _⟩ := I.list (SqL.of ha)
  obtain ⟨its2, rb, pb, _⟩ := I.list (SqL.of hb)
  have n1 : its.length = r.length := by rw [← ra.length, List.length_map]; exact hr.length
  have n2 : its2.length = t.length := by rw [← rb.length, List.length_map]; exact ht.length
  have key := RcLt.lists (A := X.A) (s := s) (e := fun j => decide (r.getD j .non = t.getD j .non)) (r := fun j => vlt (r.getD j .non) (t.getD j .non)) pa.isList pb.isList (by omega) (fun j j1 j2 => by
    obtain ⟨z, us, e0, e1, e2, e3⟩ := rks_at I hr ra j (by simpa using j1)
    obtain ⟨z', us', f0, f1, f2, f3⟩ := rks_at I ht rb j (by simpa using j2)
    have e1' : its.toArray[j] = .ref z := by simpa using e1
    have f1' : its2.toArray[j] = .ref z' := by simpa using f1
    rw [e1', f1']
    refine rank_eq e2 f2 e3 f3 (show X.A.units + 1 < cLine by omega) (fun e => ?_)
    subst e
    rw [e0] at f0
    have := Option.some.inj f0
    injection this with this
    exact rkV_inj this) (fun j j1 j2 _ => by
    obtain ⟨z, us, e0, e1, e2, e3⟩ := rks_at I hr ra j (by simpa using j1)
    obtain ⟨z', us', f0, f1, f2, f3⟩ := rks_at I ht rb j (by simpa using j2)
    have e1' : its.toArray[j] = .ref z := by simpa using e1
    have f1' : its2.toArray[j] = .ref z' := by simpa using f1
    rw [e1', f1']
    exact rank_lt e2 f2 e3 f3 (show X.A.units + 1 < cLine by omega))
  have e1 : min its.toArray.size its2.toArray.size = r.length := by simp; omega
  have e2 : decide (its.toArray.size < its2.toArray.size) = false := decide_eq_false (by simp; omega)
  rw [e1, e2, firstLt_rows r t hl] at key
  exact key X.prog X.w _ _ ⟨.bl (rlt r t), H, I, rfl, q⟩
end
end K05
end

section
-- part K05U
set_option Elab.async false
set_option linter.all false
set_option maxRecDepth 100000
set_option maxHeartbeats 800000
/-! K05U: a tuple times one is the tuple itself; rows as data -/
namespace K05
open PySem PySem.Spec PyProof.Rows L2 Fw M5
section
theorem tup_once (l : Addr) (items : Array Value) (n : Nat) (dd : Option Addr) (sl : Array (Option Value)) (u : Tok) :
    Meets (Builtin.«tuple.__mul__» ⟨[.ref l, .int 1 u], []⟩) (fun _ R s => s.heap.get? l = some { cls := .type "tuple", dict := dd, data := .seq items n, slots := sl } ∧ R (.ok (.ret (.ref l))) s) :=
  .of_wp fun prog w A R s h => by
    obtain ⟨hp, g, d, tk, os⟩ := s
    obtain ⟨hl, h⟩ := h
    have f1 := AutoSeq1.idx_int
    wp_walk using wpAny_loadPart' hl
    exact ⟨_, rfl, h⟩
variable {X : Cx}
/-- t * k, for k from 1 on: once is t itself -/
def rRepA (K : PySem.W.Frag) : R2 := fun x y H Q => ∃ l k xs, x = .ref l ∧ y = .int k ∧ SqT K H l xs ∧ xs ≠ [] ∧ 1 ≤ k ∧ k ≤ 1000 ∧ xs.length ≤ 1000 ∧ (k = 1 → Q (.ref l) H) ∧ (2 ≤ k → ∀ p, H p = none → Q (.ref p) (upd H p (.tup (List.replicate k.toNat xs).flatten)))
theorem op_repA : OpR X (binaryOp .Mult) (rRepA X.K) := by
  intro pins s σ H x y v u Q I rx ry h
  obtain ⟨l, k, xs, rfl, rfl, hT, hne, h1, h2, hz, q1, q2⟩ := h
  by_cases c : 2 ≤ k
  · exact op_repT pins s σ H _ _ v u Q I rx ry ⟨l, k, xs, rfl, rfl, hT, hne, c, h2, hz, q2 c⟩
  obtain rfl : k = 1 := by omega
  cases rx
  obtain ⟨t, rfl⟩ := ry
  obtain ⟨its, r, ⟨⟨cls, dd, data, sl⟩, ho, hc, n, hd⟩, hs⟩ := I.tuple hT
  simp only at hc hd
  subst hc hd
  refine wpAny_binaryOp_repeat_ref (T := "tuple") (U := "int") (by decide) ⟨_, ho, rfl⟩ (fun s' => typeIs_int s' 1 t) noFill_tuple_mul F.fills_int_mul F.slot_int_rmul repeat_tuple F.slot_int_index.lookup
    (call_meets F.slot_int_rmul (typeIs_int s 1 t) F.entry_int_rmul (F.args_int_rmul_2 _ _) (int_rmul_tuple 1 t l its.toArray n dd sl)
      ⟨ho, rfl, ⟨_, ho, rfl⟩, call_meets F.slot_tuple_mul ⟨_, ho, rfl⟩ F.entry_tuple_mul (F.args_tuple_mul_2 _ _) (tup_once l its.toArray n dd sl t) ⟨ho, ?_⟩⟩)
  exact ⟨.ref l, H, I, rfl, q1 rfl⟩
end
/-! rows as data -/
def dOf : RV → PyData
  | .non => .none
  | .txt l => .str (S l)
  | .num n => .int n
section
variable {K : PySem.W.Frag} {H : Hp} {Q : VK}
theorem dOf_dp (v : RV) : Dp K H (vOf v) (dOf v) := by
  cases v with
  | non => exact .non
  | txt l => exact .str _
  | num n => exact .int n
theorem dOf_all : ∀ r : List RV, DpAll K H (r.map vOf) (r.map dOf)
  | [] => .nil
  | v :: r => .cons (dOf_dp v) (dOf_all r)
def okD (v : RV) : Prop := match v with | .txt l => ∀ c ∈ l, c < 128 | _ => True
theorem okD_of {v : RV} (h : okV v) : okD v := by
  have ha : ∀ c ∈ alphabet, c < 128 := by decide
  cases v with
  | txt l => exact fun c hc => ha c (h c hc)
  | _ => trivial
theorem S_ok {l : List Nat} (h : ∀ c ∈ l, c < 128) : PyData.strOk (S l) = true := by
  unfold PyData.strOk
  rw [Array.all_eq_true_iff_forall_mem]
  intro c hc
  have : c ∈ (S l).cps.toList := hc.val
  rw [S_list] at this
  exact decide_eq_true (by have := h c this; omega)
theorem dOf_lay {v : RV} (h : okD v) : (dOf v).canLay0 = true := by
  cases v with
  | txt l => exact S_ok h
  | _ => rfl
theorem dOf_lays : ∀ {r : List RV}, (∀ v ∈ r, okD v) → PyData.canLayAll0 (r.map dOf) = true
  | [], _ => rfl
  | v :: r, h => by
    rw [List.map_cons, PyData.canLayAll0, dOf_lay (h v List.mem_cons_self), dOf_lays fun w hw => h w (List.mem_cons_of_mem _ hw)]
    rfl
theorem dOf_depth : ∀ r : List RV, PyData.depthAll (r.map dOf) ≤ 1
  | [] => by simp [PyData.depthAll]
  | v :: r => by
    have := dOf_depth r
    have e : (dOf v).depth ≤ 1 := by cases v <;> simp [dOf, PyData.depth]
    simp only [List.map_cons, PyData.depthAll]
    omega
theorem row_shaped {r : List RV} (h : ∀ v ∈ r, okD v) : SeqAt.shaped (.tuple (r.map dOf)) = true := by
  unfold SeqAt.shaped
  rw [Bool.and_eq_true]
  refine ⟨dOf_lays h, decide_eq_true ?_⟩
  have := dOf_depth r
  simp only [PyData.depth]
  omega
theorem dOf_eqv (v w : RV) : PyData.eqv (dOf v) (dOf w) = decide (v = w) := by
  cases v <;> cases w <;> simp [dOf, PyData.eqv, S_beq, Bool.beq_eq_decide_eq]
theorem rows_eqv : ∀ r t : List RV, PyData.eqvAll (r.map dOf) (t.map dOf) = decide (r = t)
  | [], [] => rfl
  | v :: r, [] => by simp [PyData.eqvAll]
  | [], w :: t => by simp [PyData.eqvAll]
  | v :: r, w :: t => by
    rw [List.map_cons, List.map_cons, PyData.eqvAll, dOf_eqv, rows_eqv r t]
    by_cases c : v = w <;> by_cases d : r = t <;> simp [c, d]
theorem row_dp {a : Addr} {r : List RV} (h : SqT K H a (r.map vOf)) : Dp K H (.ref a) (.tuple (r.map dOf)) := .tup h (dOf_all r)
theorem w_neRow {a b : Addr} {r t : List RV} (ha : SqT K H a (r.map vOf)) (hb : SqT K H b (t.map vOf)) (ka : ∀ v ∈ r, okD v) (kb : ∀ v ∈ t, okD v) (q : Q (.bl (!decide (r = t))) H) : rNeD K (.ref a) (.ref b) H Q :=
  ⟨_, _, row_dp ha, row_dp hb, row_shaped ka, row_shaped kb, by
    show Q (.bl (!PyData.eqvAll (r.map dOf) (t.map dOf))) H
    rw [rows_eqv]
    exact q⟩
theorem w_eqRow {a b : Addr} {r t : List RV} (ha : SqT K H a (r.map vOf)) (hb : SqT K H b (t.map vOf)) (ka : ∀ v ∈ r, okD v) (kb : ∀ v ∈ t, okD v) (q : Q (.bl (decide (r = t))) H) : rEqD K (.ref a) (.ref b) H Q :=
  ⟨_, _, row_dp ha, row_dp hb, row_shaped ka, row_shaped kb, by
    show Q (.bl (PyData.eqvAll (r.map dOf) (t.map dOf))) H
    rw [rows_eqv]
    exact q⟩
theorem w_neRT {a : Addr} {r : List RV} {x : Str} (ha : SqT K H a (r.map vOf)) (ka : ∀ v ∈ r, okD v) (kx : PyData.strOk x = true) (q : Q (.bl true) H) : rNeD K (.ref a) (.str x) H Q :=
  ⟨_, _, row_dp ha, .str x, row_shaped ka, by unfold SeqAt.shaped; rw [Bool.and_eq_true]; exact ⟨kx, by simp [PyData.depth]⟩, q⟩
theorem w_neTT {l m : List Nat} (kx : ∀ c ∈ l, c < 128) (ky : ∀ c ∈ m, c < 128) (q : Q (.bl (!decide (l = m))) H) : rNeD K (.str (S l)) (.str (S m)) H Q := by
  have sh : ∀ {l : List Nat}, (∀ c ∈ l, c < 128) → SeqAt.shaped (.str (S l)) = true := fun {l} h => by unfold SeqAt.shaped; rw [Bool.and_eq_true]; exact ⟨S_ok h, by simp [PyData.depth]⟩
  refine ⟨_, _, .str _, .str _, sh kx, sh ky, ?_⟩
  show Q (.bl (!(S l == S m))) H
  rw [S_beq]
  exact q
theorem map_num (ns : List Int) : (ns.map RV.num).map vOf = ns.map V.int := by rw [List.map_map]; rfl
theorem num_okD (ns : List Int) : ∀ v ∈ ns.map RV.num, okD v := fun v h => by
  obtain ⟨n, _, rfl⟩ := List.mem_map.mp h
  trivial
theorem num_inj {ns ms : List Int} : (ns.map RV.num = ms.map RV.num) ↔ ns = ms := by
  constructor
  · intro h
    have h2 := congrArg (List.map fun v => match v with | RV.num n => n | _ => 0) h
    simpa [List.map_map, Function.comp_def] using h2
  · rintro rfl; rfl
theorem w_neInts {a b : Addr} {ns ms : List Int} (ha : SqT K H a (ns.map V.int)) (hb : SqT K H b (ms.map V.int)) (q : Q (.bl (!decide (ns = ms))) H) : rNeD K (.ref a) (.ref b) H Q := by
  rw [← map_num] at ha hb
  refine w_neRow ha hb (num_okD ns) (num_okD ms) ?_
  rw [show decide (ns.map RV.num = ms.map RV.num) = decide (ns = ms) from decide_eq_decide.mpr num_inj]
  exact q
theorem w_eqInts {a b : Addr} {ns ms : List Int} (ha : SqT K H a (ns.map V.int)) (hb : SqT K H b (ms.map V.int)) (q : Q (.bl (decide (ns = ms))) H) : rEqD K (.ref a) (.ref b) H Q := by
  rw [← map_num] at ha hb
  refine w_eqRow ha hb (num_okD ns) (num_okD ms) ?_
  rw [show decide (ns.map RV.num = ms.map RV.num) = decide (ns = ms) from decide_eq_decide.mpr num_inj]
  exact q
end
end K05
end

section
-- part K05V
set_option Elab.async false
set_option linter.all false
set_option maxRecDepth 100000
set_option maxHeartbeats 800000
open PySem PySem.Spec PyProof.Rows L2 Fw
local macro_rules | `(tactic| walk_at "e1") => `(tactic| first
  | ((with_reducible refine' w_var ?hv ?_); (case hv => rfl))
  | with_reducible refine w_c ?_
  | with_reducible refine w_op ?_
  | with_reducible refine w_un ?_
  | with_reducible refine w_cons ?_
  | with_reducible refine w_nil ?_
  | with_reducible refine w_cl ?_
  | with_reducible refine w_cb ?_
  | with_reducible refine w_gname ?_
  | with_reducible refine w_gsub ?_
  | with_reducible refine w_test ?_
  | with_reducible refine w_B ?_
  | with_reducible refine w_bl ?_
  | with_reducible refine w_and ?_
  | with_reducible refine w_or ?_
  | with_reducible refine w_not ?_
  | with_reducible refine w_if ?_
  | with_reducible refine w_I0 ?_
  | with_reducible refine w_ipI ?_
  | with_reducible refine w_eqS ?_
  | with_reducible refine w_neS ?_
  | with_reducible refine w_eqI ?_
  | with_reducible refine w_neI ?_
  | with_reducible refine w_eqB ?_
  | with_reducible refine w_neB ?_
  | ((with_reducible refine w_eq ?hs ?_); (case hs => rfl))
  | ((with_reducible refine w_ne ?hs ?_); (case hs => rfl))
  | with_reducible refine w_fld ?_
  | with_reducible refine w_bm ?_
  | with_reducible refine w_bm0 ?_
  | with_reducible refine w_sl ?_
  | with_reducible refine w_part ?_
  | with_reducible refine w_partI ?_
  | with_reducible refine w_nopart ?_
  | ((with_reducible refine' w_ixL ?hh ?ha ?_); (case hh => first | assumption | exact upd_same); (case ha => rfl))
  | ((with_reducible refine' w_setLu ?ha ?_); (case ha => rfl))
  | ((with_reducible refine' w_setL ?hh ?ha ?_); (case hh => first | assumption | exact upd_same); (case ha => rfl))
  | with_reducible refine w_iteT ?_
  | with_reducible refine w_iteF ?_
  | with_reducible refine w_lst ?_
  | with_reducible refine w_tup ?_
  | ((with_reducible refine w_new ?hz ?_); (case hz => rfl))
  | with_reducible refine w_lc ?_
  | with_reducible refine w_iL ?_
  | with_reducible refine w_iT ?_
  | with_reducible refine w_iR1 ?_
  | with_reducible refine w_iR2 ?_
  | with_reducible refine w_yes ?_
  | with_reducible refine w_iStr ?_
  | with_reducible exact tyS
  | with_reducible refine And.intro tyS ?_
  | ((with_reducible refine w_find3 ?_); (first | rw [find3_one] | rw [starts3] | skip))
  | ((with_reducible refine w_2s ?_); (try rw [find_one]))
  | ((with_reducible refine w_inS ?_); rw [S_list])
  | ((with_reducible refine w_lenS ?hz ?_); (case hz => first | assumption | omega | decide); rw [SX.S_len])
  | ((with_reducible refine w_addS ?hz ?_); (case hz => first | assumption | omega | decide); rw [vS_cat])
  | with_reducible refine w_mk ?_
  | with_reducible refine w_me ?_
  | with_reducible refine w_sfld ?_
  | ((with_reducible refine' w_gtup ?hh ?hn ?_); (case hh => first | assumption | exact upd_same); (case hn => rfl))
  | with_reducible refine w_gcons ?_
  | with_reducible refine w_gnil ?_
  | with_reducible refine w_repl ?_
  | with_reducible refine w_star ?_
  | with_reducible refine w_revL ?_
  | with_reducible refine w_isiS ?_
  | with_reducible refine w_isiI ?_
  | with_reducible refine w_isiN ?_
  | with_reducible refine w_chain ?_
  | with_reducible refine w_iEnumT ?_
  | with_reducible refine w_iZip3 ?_
  | with_reducible refine w_iZip ?_
  | with_reducible refine w_lenR3 ?_
  | with_reducible refine w_x1i ?_
  | with_reducible refine w_x1b ?_
  | with_reducible refine w_x1s ?_
  | with_reducible refine w_int1i ?_
  | with_reducible refine w_int1b ?_
  | ((with_reducible refine w_mod ?hc ?_); (case hc => omega))
  | ((with_reducible refine w_fdivW ?hc ?hd ?_); (case hc => omega); (case hd => omega))
  | ((with_reducible refine w_mul ?hc ?_); (case hc => first | exact Or.inr ⟨by decide, by decide⟩ | exact Or.inl ⟨by decide, by decide⟩))
  | ((with_reducible refine w_pow ?hc ?_); (case hc => exact ⟨by decide, by decide, by decide⟩)))
local macro_rules | `(tactic| walk_at "s1") => `(tactic| first
  | with_reducible refine w_seq ?_
  | with_reducible refine w_asg ?_
  | with_reducible refine w_ret ?_
  | with_reducible refine w_par ?_
  | with_reducible refine w_drop ?_
  | with_reducible refine w_next ?_
  | with_reducible refine w_ifs ?_
  | ((with_reducible refine' w_aug ?hv ?_); (case hv => rfl))
  | with_reducible refine w_for ?_
  | walk_at "e1")
local macro_rules | `(tactic| walk_at "e") => `(tactic| repeat walk_at "e1")
local macro_rules | `(tactic| walk_at "g") => `(tactic| repeat walk_at "s1")

/-! K05V: what the law needs of rows and keys, and of a def that tells of two own errors -/
namespace K05
open M5 LamX
-- law: 0:script 1:dice 2:many 3:rows 4:k 5:turn 6:row 7:other 8:one 9:two 10:upper 11:drawn 12:cut 13:place 14:bent 15:data 16:told_now 17:number 18:width
abbrev s_law : Stmt := top 41
theorem sc_law : FnScope ["script", "dice", "many", "rows", "k", "turn", "row", "other", "one", "two", "upper", "drawn", "cut", "place", "bent", "data", "told_now", "number", "width"] ["script"] (defScope s_law) := ⟨rfl, rfl, rfl, by decide +kernel, rfl, by decide +kernel, by decide +kernel⟩
-- _law_told: 0:what
abbrev s__law_told : Stmt := top 36
theorem sc__law_told : FnScope ["what"] ["what"] (defScope s__law_told) := ⟨rfl, rfl, rfl, by decide +kernel, rfl, by decide +kernel, by decide +kernel⟩
/-! lengths -/
theorem okL_of {v : RV} (h : okS v) : okL v := by
  obtain ⟨h1, h2⟩ := h
  refine ⟨h1, ?_⟩
  cases v with
  | txt l => exact Nat.le_trans h2 (by decide)
  | _ => trivial
theorem keyV_len {v : RV} (h : okS v) : 1 ≤ (keyV v).length ∧ (keyV v).length ≤ 12 := by
  obtain ⟨h1, h2⟩ := h
  cases v with
  | non => decide
  | txt l =>
    have h2 : l.length ≤ 10 := h2
    have e : (keyV (.txt l)).length = l.length + 2 := by simp [keyV, sg]
    omega
  | num n =>
    have e : (keyV (.num n)).length = 9 := by simp [keyV, fixed_len]
    omega
theorem keyR_len : ∀ {r : List RV}, (∀ v ∈ r, okS v) → r.length ≤ (keyR r).length ∧ (keyR r).length ≤ 12 * r.length
  | [], _ => ⟨Nat.le_refl _, Nat.le_refl _⟩
  | v :: r, h => by
    have h1 := keyV_len (h v List.mem_cons_self)
    have h2 := keyR_len (r := r) fun w hw => h w (List.mem_cons_of_mem _ hw)
    have e : (keyR (v :: r)).length = (keyV v).length + (keyR r).length := List.length_append
    rw [e, List.length_cons]
    omega
theorem zz_lt {n : Int} (h : -HI ≤ n ∧ n ≤ HI) : zz n < 128 ^ 10 := by
  have hHI : HI = 9223372036854775807 := rfl
  have e : (128 : Nat) ^ 10 = 1180591620717411303424 := by decide
  rw [e, zz]
  split <;> omega
theorem recV_len {v : RV} (h : okS v) : (recV v).length ≤ 12 := by
  obtain ⟨h1, h2⟩ := h
  cases v with
  | non => decide
  | txt l =>
    have h2 : l.length ≤ 10 := h2
    have e : (recV (.txt l)).length = (nat7 l.length).length + l.length + 1 := by simp [recV, sgR]
    have e1 := nat7_len 0 l.length (by omega)
    omega
  | num n =>
    have e : (recV (.num n)).length = (nat7 (zz n)).length + 1 := by simp [recV]
    have e1 := nat7_len 9 (zz n) (zz_lt h1)
    omega
theorem recs_len : ∀ {r : List RV}, (∀ v ∈ r, okS v) → (r.flatMap recV).length ≤ 12 * r.length
  | [], _ => Nat.le_refl _
  | v :: r, h => by
    have h1 := recV_len (h v List.mem_cons_self)
    have h2 := recs_len (r := r) fun w hw => h w (List.mem_cons_of_mem _ hw)
    have e : ((v :: r).flatMap recV).length = (recV v).length + (r.flatMap recV).length := List.length_append
    rw [e, List.length_cons]
    omega
theorem recR_len {r : List RV} (h : ∀ v ∈ r, okS v) (hl : r.length ≤ 4) : (recR r).length ≤ 50 := by
  have e : (recR r).length = (nat7 r.length).length + (r.flatMap recV).length := List.length_append
  have e1 := nat7_len 0 r.length (by omega)
  have e2 := recs_len h
  omega
/-- a value of a record that is not long is not long -/
theorem flat_mem {f : RV → List Int} : ∀ {r : List RV} {v : RV}, v ∈ r → (f v).length ≤ (r.flatMap f).length
  | w :: r, v, h => by
    have e : ((w :: r).flatMap f).length = (f w).length + (r.flatMap f).length := List.length_append
    rcases List.mem_cons.mp h with rfl | h
    · omega
    · have := flat_mem (f := f) h
      omega
theorem okL_rec {r : List RV} (h : ∀ v ∈ r, okV v) (hl : (recR r).length ≤ 900) : ∀ v ∈ r, okL v := fun v hv => by
  refine ⟨h v hv, ?_⟩
  have h1 := flat_mem (f := recV) hv
  have e : (recR r).length = (nat7 r.length).length + (r.flatMap recV).length := List.length_append
  cases v with
  | txt l =>
    have e : (recV (.txt l)).length = (nat7 l.length).length + l.length + 1 := by simp [recV, sgR]
    show l.length ≤ 10000
    omega
  | _ => trivial
theorem okL_key {r : List RV} (h : ∀ v ∈ r, okV v) (hl : (keyR r).length ≤ 900) : ∀ v ∈ r, okL v := fun v hv => by
  refine ⟨h v hv, ?_⟩
  have h1 : (keyV v).length ≤ (keyR r).length := flat_mem (f := keyV) hv
  cases v with
  | txt l =>
    have e : (keyV (.txt l)).length = l.length + 2 := by simp [keyV, sg]
    show l.length ≤ 10000
    omega
  | _ => trivial
theorem keyR_pos {r : List RV} (h : ∀ v ∈ r, okS v) (hr : r ≠ []) : 0 < upLen (keyR r) := by
  cases r with
  | nil => exact absurd rfl hr
  | cons v r =>
    have hb : ∃ b c, keyV v = b :: c ∧ b ≠ 255 := by
      cases v with
      | non => exact ⟨1, [], rfl, by decide⟩
      | txt l => exact ⟨3, _, rfl, by decide⟩
      | num n => exact ⟨2, _, rfl, by decide⟩
    obtain ⟨b, c, e, n⟩ := hb
    refine upLen_pos (b := b) ?_ n
    show b ∈ keyV v ++ keyR r
    rw [e]
    exact List.mem_append_left _ List.mem_cons_self
theorem row_take {r t : List RV} (hl : r.length = t.length) (hr : ∀ v ∈ r, okV v) (ht : ∀ v ∈ t, okV v) (h : keyR r ≠ keyR t) : (keyR t).take (keyR r).length ≠ keyR r :=
  (row_div r t hl hr ht fun e => h (by rw [e])).nopre
/-! calls -/
section
variable {K : PySem.W.Frag} {H : Hp} {Q : VK} {E : XK} {a : Addr} {d : List Int} {r : List RV} {C : Addr}
theorem w_keyOf (e : SqT K H a (r.map vOf)) (ok : ∀ v ∈ r, okS v) (hl : r.length ≤ 4) (q : GivesT H Q (keyR r)) : spKeyOf K [.ref a] H Q E := by
  have h := keyR_len ok
  exact ⟨a, r, rfl, e, fun v hv => okL_of (ok v hv), by omega, q⟩
theorem w_keyOfL (e : SqT K H a (r.map vOf)) (ok : ∀ v ∈ r, okL v) (hl : (keyR r).length ≤ 900) (q : GivesT H Q (keyR r)) : spKeyOf K [.ref a] H Q E := ⟨a, r, rfl, e, ok, by omega, q⟩
theorem w_recOf (e : SqT K H a (r.map vOf)) (ok : ∀ v ∈ r, okS v) (hl : r.length ≤ 4) (q : GivesT H Q (recR r)) : spRec K [.ref a] H Q E := by
  have h := recR_len ok hl
  exact ⟨a, r, rfl, e, fun v hv => okL_of (ok v hv), by omega, by omega, q⟩
theorem w_recOfL (e : SqT K H a (r.map vOf)) (ok : ∀ v ∈ r, okL v) (h1 : r.length ≤ 900) (hl : (recR r).length ≤ 900) (q : GivesT H Q (recR r)) : spRec K [.ref a] H Q E := ⟨a, r, rfl, e, ok, by omega, by omega, q⟩
theorem w_valsKey (e : SqT K H a ((keyR r).map V.int)) (ok : ∀ v ∈ r, okS v) (hl : r.length ≤ 4) (q : GivesV H Q r) : spVSK K C [.ref a] H Q E := by
  have h := keyR_len ok
  refine ⟨a, keyR r, rfl, e, by omega, ?_⟩
  rw [vsk_key r _ (fun v hv => (ok v hv).1) (by omega)]
  exact q
theorem w_rowRec (e : SqT K H a ((recR r).map V.int)) (ok : ∀ v ∈ r, okS v) (hl : r.length ≤ 4) (q : GivesV H Q r) : spRow K C [.ref a] H Q E := by
  have h := recR_len ok hl
  refine ⟨a, recR r, rfl, e, by omega, ?_⟩
  rw [rowOf_rec fun v hv => (ok v hv).1]
  exact q
theorem w_valKey {v : RV} (e : SqT K H a ((keyR (v :: r)).map V.int)) (ok : ∀ w ∈ v :: r, okS w) (hl : (v :: r).length ≤ 4) (q : Pair H Q (vOf v) (keyV v).length) : spVFK K C [.ref a, .int 0] H Q E := by
  have h := keyR_len ok
  refine ⟨a, keyR (v :: r), 0, rfl, e, by omega, ?_⟩
  rw [List.drop_zero]
  show match vfk (keyV v ++ keyR r) with | none => _ | some (v, k) => _
  rw [vfk_key v _ (ok v List.mem_cons_self).1]
  show Pair H Q (vOf v) (0 + (keyV v).length)
  rw [Nat.zero_add]
  exact q
theorem w_rowAny (e : SqT K H a (d.map V.int)) (hl : d.length ≤ 900) (q0 : Fails H E C) (q : ∀ r, rowOf d = some r → GivesV H Q r) : spRow K C [.ref a] H Q E := by
  refine ⟨a, d, rfl, e, hl, ?_⟩
  cases h : rowOf d with
  | none => exact q0
  | some r => exact q r h
theorem w_keyAny (e : SqT K H a (d.map V.int)) (hl : d.length ≤ 900) (q0 : Fails H E C) (q : ∀ r, vsk (d.length + 1) d = some r → GivesV H Q r) : spVSK K C [.ref a] H Q E := by
  refine ⟨a, d, rfl, e, hl, ?_⟩
  cases h : vsk (d.length + 1) d with
  | none => exact q0
  | some r => exact q r h
/-- t[:n] of a tuple -/
theorem cut_take {xs : List V} {n : Nat} (h : n ≤ xs.length) : cutV xs none (some (n : Int)) = xs.take n := by
  unfold cutV
  have e1 : HT.sIx xs.length 0 none = 0 := rfl
  have e2 : HT.sIx xs.length xs.length (some (n : Int)) = n := by rw [HT.sIx, if_neg (by omega)]; simp; omega
  rw [e1, e2]
  simp
theorem cut_take2 {xs : List V} {n : Nat} : cutV xs none (some (n : Int)) = xs.take n := by
  by_cases h : n ≤ xs.length
  · exact cut_take h
  · unfold cutV
    have e1 : HT.sIx xs.length 0 none = 0 := rfl
    have e2 : HT.sIx xs.length xs.length (some (n : Int)) = xs.length := by rw [HT.sIx, if_neg (by omega)]; simp; omega
    rw [e1, e2, List.take_of_length_le (by omega : xs.length ≤ n)]
    simp
theorem w_slTo {xs : List V} {n : Nat} (e : SqT K H a xs) (q : ∀ p H', Same H H' → SqT K H' p (xs.take n) → Q (.ref p) H') : rSlA K (.ref a) none (some (n : Int)) H Q := by
  refine ⟨a, xs, rfl, e, fun hw => ?_, fun _ p hp => ?_⟩
  · refine q a H (fun _ _ h => h) ?_
    have e2 : HT.sIx xs.length xs.length (some (n : Int)) = min n xs.length := HT.sIx_nat ..
    rw [e2] at hw
    rw [List.take_of_length_le (by omega)]
    exact e
  · refine q p _ (same_new hp _) (SqT.of ?_)
    rw [upd_same, cut_take2]
theorem w_slInts {n : Nat} (e : SqT K H a (d.map V.int)) (q : ∀ p H', Same H H' → SqT K H' p ((d.take n).map V.int) → Q (.ref p) H') : rSlA K (.ref a) none (some (n : Int)) H Q :=
  w_slTo e fun p H' s e' => q p H' s (by rw [List.map_take]; exact e')
theorem w_neRowS {b : Addr} (ha : SqT K H a (r.map vOf)) (hb : SqT K H b (r.map vOf)) (ka : ∀ v ∈ r, okD v) (q : Q (.bl false) H) : rNeD K (.ref a) (.ref b) H Q := by
  refine w_neRow ha hb ka ka ?_
  rw [decide_eq_true rfl]
  exact q
theorem w_neIntsS {b : Addr} (ha : SqT K H a (d.map V.int)) (hb : SqT K H b (d.map V.int)) (q : Q (.bl false) H) : rNeD K (.ref a) (.ref b) H Q := by
  refine w_neInts ha hb ?_
  rw [decide_eq_true rfl]
  exact q
theorem keyR_one (v : RV) : keyR [v] = keyV v := List.append_nil _
end
section
variable {X : Cx}
theorem op_catAK (K : PySem.W.Frag) (h : X.K = K) : OpR X (binaryOp .Add) (rCatA K) := by subst h; exact op_catA
theorem op_repAK (K : PySem.W.Frag) (h : X.K = K) : OpR X (binaryOp .Mult) (rRepA K) := by subst h; exact op_repA
/-- told: try: return a() / except x: return ret / except x2: return ret2 -/
def TTold2 (K : PySem.W.Frag) (CS CS2 : Addr) (ret ret2 : Str) : (XK → Hp → VK → Prop) → Hp → VK → Prop := fun tl H Q =>
  tl (fun cls _ H' => ∃ b, PySem.W.exmOne K cls (.ref CS) = some b ∧ (b = true → Q (.str ret) H') ∧ (b = false → PySem.W.exmOne K cls (.ref CS2) = some true ∧ Q (.str ret2) H')) H Q
theorem told3_gives {Ng : List Str} {x a e e2 q ret ret2 : Str} {sg : Scope} {g CS CS2 : Addr} {cdg : Value} {j j2 : Nat} {p1 p2 p3 p4 p5 p6 p7 p8 q4 q5 q6 q7 : Pos} (hge : sg.names.lookup e = some .globalImplicit) (hme : X.mg e = some (.ref CS)) (hde : (e == ("__debug__" : Str)) = false)
    (hge2 : sg.names.lookup e2 = some .globalImplicit) (hme2 : X.mg e2 = some (.ref CS2)) (hde2 : (e2 == ("__debug__" : Str)) = false) (h0 : ∀ f : Addr, (L2.start Ng [V.ref f])[0]? = some (some (V.ref f))) :
    GivesTo X Ng x sg g cdg [.Try [.Return (some (.Call (.Name a p1) [] [] p2)) p3]
      [.ExceptHandler (some (.Name e p4)) none [.Return (some (.Constant (.str ret) j p5)) p6] p7, .ExceptHandler (some (.Name e2 q4)) none [.Return (some (.Constant (.str ret2) j2 q5)) q6] q7] [] [] p8] a q (TTold2 X.K CS CS2 ret ret2) := by
  intro f c' s H Q tl act hc h
  have hgl : Gl (cxOf C8.CX0 X.prog X.w X.K X.mg X.base Ng x sg g cdg X.A X.stack s H C8.E0).nox e := hge
  have hgl2 : Gl (cxOf C8.CX0 X.prog X.w X.K X.mg X.base Ng x sg g cdg X.A X.stack s H C8.E0).nox e2 := hge2
  refine ⟨_, pss_one (ps_try_many (X := (cxOf C8.CX0 X.prog X.w X.K X.mg X.base Ng x sg g cdg X.A X.stack s H C8.E0).nox)
      (tb := fun W D σ H => ∃ Ech : XK, (∀ cls d σ' H', Ech cls d H' → W cls d σ' H') ∧ σ[0]? = some (some (.ref f)) ∧ H c' = some (CodeO c' q) ∧ tl Ech H D.rt)
      rfl rfl LamX.takes0 (fun W pn xe tk _ => ?_)
      (.cons (c := .ref CS) ⟨hgl, hde, .inl hme⟩ (fun a oe cls d pn _ _ => pss_one (ps_ret pe_str)) (.cons (c := .ref CS2) ⟨hgl2, hde2, .inl hme2⟩ (fun a oe cls d pn _ _ => pss_one (ps_ret pe_str)) .nil))), ?_⟩
  · refine ⟨fun pins s' σ H' D I h' => ?_⟩
    obtain ⟨Ech, hW, h1, h2, h3⟩ := h'
    have hp := act W pn xe Ech p1 p2 tk hW
    have hq := pss_one (ps_ret (pos := p3) hp)
    exact hq.run pins s' σ H' D I ⟨h1, h2, h3⟩
  · exact ⟨fun cls _ H' => ∃ b, PySem.W.exmOne X.K cls (.ref CS) = some b ∧ (b = true → Q (.str ret) H') ∧ (b = false → PySem.W.exmOne X.K cls (.ref CS2) = some true ∧ Q (.str ret2) H'),
      fun cls d σ' H' ⟨b, e1, e2, e3⟩ => ⟨b, e1, fun hb a _ => e2 hb, fun hb => ⟨true, (e3 hb).1, fun _ a _ => (e3 hb).2, fun z => nomatch z⟩⟩, h0 f, hc, h⟩
theorem passLam {A : Around} {outer : List Env} {s : Shared} {H : Hp} {E : XK} {scope : Scope} {f c' : Addr} : Passes (L2.CX (lamCx X A outer s H E scope f c').prog (lamCx X A outer s H E scope f c').w) (lamCx X A outer s H E scope f c') E := passes_call (takes_of rfl rfl rfl rfl) fun _ _ _ _ h => h
theorem pe_lamT {cRF cTE c Pt : Addr} {k : Nat} {params : Arguments} {body : Expr} {scope : Scope} {t : XK → TE} {p lpos pos : Pos} (F : FnP X.K X.mg "_law_told" s__law_told) (eT : X.mg "RecordFault" = some (.ref cRF)) (eB : X.mg "TextError" = some (.ref cTE))
    (TB : TabB X.base X.mg c Pt) (hcode : X.env.code = .ref c) (qn : Str) (hq : X.env.qual = qn) (hr : Room (k + 2) X.A) (sc : Scope) (hsc : X.env.scope = sc) (L : lamSB sc scope = true) (hdef : defaultsOf params X.env = ([], []))
    (hbind : ∀ (q : Str) (cl : List (Str × Addr)) (pm cv ctv : Value), bindArgs (PySem.W.kla_fn "<lambda>" q params body scope cl pm cv ctv) ⟨[], []⟩ = pure []) (hg : Gl X "_law_told")
    (hbody : ∀ (A : Around) (outer : List Env) (s : Shared) (H : Hp) (E : XK) (f c' : Addr), Room k (A.deeper (lamEnv X scope s.heap.objs.size f c')) → PE (lamCx X A outer s H E scope f c') body (t E)) :
    PE X (.Call (.Name "_law_told" p) [.Lambda params body scope lpos] [] pos) (tLam [(Pt, qn ++ ("<lambda>" : Str))] (TTold2 X.K cRF cTE "RecordFault" "TextError") t) := by
  subst hq
  obtain ⟨f, fd, F, m⟩ := F
  have bb := F.bindsN (ps := ["what"]) fun _ _ _ _ _ _ us hl => match us, hl with | [_], _ => rfl
  obtain ⟨oc, od, dV, kV, doc, pm, an, cdv, ct, osl, rfl, lk, hcd, _, _⟩ := F.ex
  exact pe_lamcall hg m F.kp lk hcd bb sc__law_told rfl (Or.inl rfl) (told3_gives rfl eT rfl rfl eB rfl fun _ => rfl) TB hcode List.mem_cons_self (fun q hq _ => by rw [List.mem_singleton.mp hq]) hr (hsc ▸ lamS_by L) hdef hbind hbody
end
section
variable {K : PySem.W.Frag} {H : Hp} {Q : VK} {a b : Addr} {d e : List Int}
theorem w_neXX {x : Str} (kx : PyData.strOk x = true) (q : Q (.bl false) H) : rNeD K (.str x) (.str x) H Q := by
  have sh : SeqAt.shaped (.str x) = true := by unfold SeqAt.shaped; rw [Bool.and_eq_true]; exact ⟨kx, by simp [PyData.depth]⟩
  refine ⟨_, _, .str _, .str _, sh, sh, ?_⟩
  show Q (.bl (!(x == x))) H
  rw [beq_self_eq_true]
  exact q
theorem w_eqXX {x : Str} (kx : PyData.strOk x = true) (q : Q (.bl true) H) : rEqD K (.str x) (.str x) H Q := by
  have sh : SeqAt.shaped (.str x) = true := by unfold SeqAt.shaped; rw [Bool.and_eq_true]; exact ⟨kx, by simp [PyData.depth]⟩
  refine ⟨_, _, .str _, .str _, sh, sh, ?_⟩
  show Q (.bl (x == x)) H
  rw [beq_self_eq_true]
  exact q
theorem w_neIS {n : Int} (q : Q (.bl false) H) : rNe (.int n) (.int n) H Q := w_neI (by rw [decide_eq_true rfl]; exact q)
theorem w_catInts (ha : SqT K H a (d.map V.int)) (hb : SqT K H b (e.map V.int)) (hd : d ≠ []) (hl : d.length + e.length ≤ 1000) (q : ∀ p H', Same H H' → SqT K H' p ((d ++ e).map V.int) → Q (.ref p) H') : rCatA K (.ref a) (.ref b) H Q := by
  refine ⟨a, b, _, _, rfl, rfl, ha, hb, ?_, fun z => absurd (List.map_eq_nil_iff.mp z) hd, fun _ z => ?_, fun _ _ p hp => ?_⟩
  · rw [List.length_map, List.length_map]
    exact Nat.le_trans hl (by decide)
  · have := List.map_eq_nil_iff.mp z
    subst this
    rw [List.append_nil] at q
    exact q a H (fun _ _ h => h) ha
  · exact q p _ (same_new hp _) (SqT.of (by rw [upd_same, List.map_append]))
theorem rep_one {α : Type} (x : α) (n : Nat) : (List.replicate n [x]).flatten = List.replicate n x := by
  induction n with
  | zero => rfl
  | succ n ih => rw [List.replicate_succ, List.flatten_cons, ih, List.replicate_succ]; rfl
theorem w_repInts {z k : Int} (ha : SqT K H a [.int z]) (h1 : 1 ≤ k) (h2 : k ≤ 1000) (q : ∀ p H', Same H H' → SqT K H' p ((List.replicate k.toNat z).map V.int) → Q (.ref p) H') : rRepA K (.ref a) (.int k) H Q := by
  refine ⟨a, k, _, rfl, rfl, ha, List.cons_ne_nil _ _, h1, h2, (by show 1 ≤ 1000; decide), fun z => ?_, fun _ p hp => ?_⟩
  · subst z
    exact q a H (fun _ _ h => h) ha
  · refine q p _ (same_new hp _) (SqT.of ?_)
    rw [upd_same, rep_one, List.map_replicate]
theorem cut_drop {xs : List V} {n : Nat} : cutV xs (some (n : Int)) none = xs.drop n := by
  unfold cutV
  rw [HT.sIx_nat, HT.sIx_none]
  by_cases h : n ≤ xs.length
  · rw [Nat.min_eq_left h, List.take_of_length_le (by rw [List.length_drop]; omega)]
  · rw [Nat.min_eq_right (by omega), List.drop_eq_nil_of_le (Nat.le_refl _), List.drop_eq_nil_of_le (by omega)]
    exact List.take_nil
/-- what the told calls leave: a fault's name, or a row of which the data are the record (or key) -/
def Told (f : List RV → List Int) (d : List Int) (v : V) (H : Hp) : Prop := v = .str "RecordFault" ∨ ∃ p r, v = .ref p ∧ H p = some (.tup (r.map vOf)) ∧ (∀ w ∈ r, okV w) ∧ f r = d ∧ r.length ≤ d.length
abbrev EchT (K : PySem.W.Frag) (cRF cTE : Addr) (Q : VK) : XK := fun cls _ H' => ∃ b, PySem.W.exmOne K cls (.ref cRF) = some b ∧ (b = true → Q (.str "RecordFault") H') ∧ (b = false → PySem.W.exmOne K cls (.ref cTE) = some true ∧ Q (.str "TextError") H')
theorem w_lamT {cRF cTE : Addr} {tl : XK → Hp → VK → Prop} (h : tl (EchT K cRF cTE Q) H Q) : TTold2 K cRF cTE "RecordFault" "TextError" tl H Q := h
theorem w_toldRow {cRF cTE : Addr} (x : PySem.W.exmOne K (.ref cRF) (.ref cRF) = some true) (hd : SqT K H a (d.map V.int)) (hl : d.length ≤ 900) (hb : Byt d) (q : ∀ v H', Same H H' → Told recR d v H' → Q v H') : spRow K cRF [.ref a] H Q (EchT K cRF cTE Q) := by
  refine w_rowAny hd hl (fun H' s => ⟨true, x, fun _ => q _ _ s (.inl rfl), fun z => nomatch z⟩) fun r hr p H' s n e => ?_
  obtain ⟨h1, h2, h3⟩ := rowOf_back hb hr
  exact q _ _ s (.inr ⟨p, r, rfl, e, h1, h2, h3⟩)
theorem w_toldKey {cRF cTE : Addr} (x : PySem.W.exmOne K (.ref cRF) (.ref cRF) = some true) (hd : SqT K H a (d.map V.int)) (hl : d.length ≤ 900) (hb : Byt d) (q : ∀ v H', Same H H' → Told keyR d v H' → Q v H') : spVSK K cRF [.ref a] H Q (EchT K cRF cTE Q) := by
  refine w_keyAny hd hl (fun H' s => ⟨true, x, fun _ => q _ _ s (.inl rfl), fun z => nomatch z⟩) fun r hr p H' s n e => ?_
  obtain ⟨h1, h2, h3⟩ := vsk_back hb hr
  exact q _ _ s (.inr ⟨p, r, rfl, e, h1, h2, h3⟩)
theorem rf_ok : PyData.strOk ("RecordFault" : Str) = true := by decide +kernel
theorem te_ok : PyData.strOk ("TextError" : Str) = true := by decide +kernel
/-- if told_now != 'RecordFault' and f(told_now) != data: .. is passed by -/
theorem w_ifTold {σ : L2.St} {T : TS} {D : Ends} {sp : Sp} {E : XK} {f : List RV → List Int} {v : V} {i j : Nat} (hi : σ[i]? = some (some v)) (hj : σ[j]? = some (some (.ref a))) (hd : SqT K H a (d.map V.int)) (t : Told f d v H)
    (hsp : ∀ p r (R : VK), H p = some (.tup (r.map vOf)) → (∀ w ∈ r, okV w) → f r = d → r.length ≤ d.length → GivesT H R (f r) → sp [.ref p] H R E) (q : ∀ H', Same H H' → D.nx σ H') :
    tIfS (tAnd (tTest (tOp (rNeD K) (tVar i) (tC (.str "RecordFault")))) (tTest (tOp (rNeD K) (tCl sp E (tCons (tVar i) tNil)) (tVar j)))) T tNext D σ H := by
  walk_at "s1"
  walk_at "s1"
  walk_at "s1"
  walk_at "s1"
  refine w_var hi ?_
  walk_at "g"
  rcases t with rfl | ⟨p, r, rfl, e, ok, fr, hl⟩
  · refine w_neXX rf_ok ?_
    walk_at "g"
    exact q H fun _ _ h => h
  · refine w_neRT (SqT.of e) (fun w hw => okD_of (ok w hw)) rf_ok ?_
    walk_at "g"
    refine w_var hi ?_
    walk_at "g"
    refine hsp p r _ e ok fr hl fun p2 H' s n e2 => ?_
    walk_at "g"
    refine w_var hj ?_
    rw [fr] at e2
    refine w_neIntsS (SqT.of e2) (sqT_same hd s) ?_
    walk_at "g"
    exact q H' s
end
structure Wz (K : PySem.W.Frag) (mg : Str → Option Value) (cTE cRF : Addr) : Prop extends We K mg cTE cRF where
  x_RF : PySem.W.exmOne K (.ref cRF) (.ref cRF) = some true
  x_TR : PySem.W.exmOne K (.ref cTE) (.ref cRF) = some false
  x_TT : PySem.W.exmOne K (.ref cTE) (.ref cTE) = some true
  d__law_told : FnP K mg "_law_told" s__law_told
abbrev TQ (Pt : Addr) : List (Addr × Str) := [(Pt, (("law" : Str) ++ (".<locals>." : Str)) ++ ("<lambda>" : Str))]
def spLaw (K : PySem.W.Frag) (Pt : Addr) : Sp := fun vs H Q _ => ∃ (a : Addr) (ns : List Int), vs = [.ref a] ∧ SqL K H a (ns.map V.int) ∧ ns.length ≤ 63 ∧ Tabs (TQ Pt) H ∧ ∀ H', Q (.bl true) H'
theorem map_get {α : Type} {f : α → V} {l : List α} {i : Nat} {x : V} (h : (l.map f)[i]? = some x) : ∃ b, l[i]? = some b ∧ x = f b := by
  rw [List.getElem?_map] at h
  cases e : l[i]? with
  | none => rw [e] at h; cases h
  | some b => rw [e] at h; exact ⟨b, rfl, (Option.some.inj h).symm⟩
theorem tabs_kp {T : List (Addr × Str)} {H H' : Hp} {d : Addr} (t : Tabs T H) (k : Kp d H H') (hd : Dice H d) : Tabs T H' := fun p hp => by
  obtain ⟨ps, h1, h2, h3⟩ := t p hp
  obtain ⟨x, y, z, e⟩ := hd
  refine ⟨ps, k _ _ (fun n => by rw [n, e] at h1; cases h1) h1, h2, fun pos cv hc => ?_⟩
  obtain ⟨c, e1, e2⟩ := h3 pos cv hc
  refine ⟨c, e1, k _ _ (fun n => ?_) e2⟩
  rw [n, e] at e2
  unfold CodeO at e2
  cases e2
theorem tabs_same {T : List (Addr × Str)} {H H' : Hp} (t : Tabs T H) (k : Same H H') : Tabs T H' := fun p hp => by
  obtain ⟨ps, h1, h2, h3⟩ := t p hp
  refine ⟨ps, k _ _ h1, h2, fun pos cv hc => ?_⟩
  obtain ⟨c, e1, e2⟩ := h3 pos cv hc
  exact ⟨c, e1, k _ _ e2⟩
structure Good (Pt p : Addr) (ds : List Addr) (H : Hp) : Prop where
  lst : H p = some (.lst (ds.map V.ref))
  dice : ∀ d ∈ ds, Dice H d
  tab : Tabs (TQ Pt) H
theorem Good.kp {Pt p d : Addr} {ds : List Addr} {H H' : Hp} (g : Good Pt p ds H) (hd : d ∈ ds) (k : Kp d H H') (h : Dice H' d) : Good Pt p ds H' := by
  refine ⟨k _ _ (fun n => ?_) g.lst, fun e he => ?_, tabs_kp g.tab k (g.dice d hd)⟩
  · obtain ⟨x, y, z, e⟩ := g.dice d hd
    have l := g.lst
    rw [n, e] at l
    cases ds with
    | nil => cases hd
    | cons b r => cases l
  · by_cases n : e = d
    · rw [n]; exact h
    · obtain ⟨x, y, z, q⟩ := g.dice e he
      exact ⟨x, y, z, k _ _ n q⟩
theorem dice_sm {H H' : Hp} {d : Addr} (h : Dice H d) (s : Same H H') : Dice H' d := by
  obtain ⟨a, b, c, e⟩ := h
  exact ⟨a, b, c, s _ _ e⟩
theorem Good.sm {Pt p : Addr} {ds : List Addr} {H H' : Hp} (g : Good Pt p ds H) (s : Same H H') : Good Pt p ds H' := ⟨s _ _ g.lst, fun d hd => dice_sm (g.dice d hd) s, tabs_same g.tab s⟩
theorem Good.ext {Pt p : Addr} {ds : List Addr} {H H' : Hp} (g : Good Pt p ds H) (k : ExtN H H') (t : Tabs (TQ Pt) H') : Good Pt p ds H' := by
  refine ⟨k _ _ g.lst (fun q z => by cases z), fun d hd => ?_, t⟩
  obtain ⟨x, y, z, e⟩ := g.dice d hd
  exact ⟨x, y, z, k _ _ e fun q z => by cases z⟩
theorem kp_wr {d L : Addr} {H0 Hc : Hp} {o : HO} (k : Kp d H0 Hc) (h : H0 L = none) : Kp d H0 (upd Hc L o) := fun b u n e => by
  rw [upd_ne (ne_of_none e h)]
  exact k b u n e
theorem dice_wr {d L : Addr} {Hc : Hp} {o : HO} (k : Dice Hc d) (h : L ≠ d) : Dice (upd Hc L o) d := by
  obtain ⟨a, b, c, e⟩ := k
  exact ⟨a, b, c, by rw [upd_ne h.symm]; exact e⟩
theorem kp_tup {d a : Addr} {xs : List V} {H H' : Hp} (k : Kp d H H') (h : Dice H d) (e : H a = some (.tup xs)) : H' a = some (.tup xs) := k _ _ (fun n => by
  obtain ⟨x, y, z, q⟩ := h
  rw [n, q] at e
  cases e) e
theorem ext_tup2 {a : Addr} {xs : List V} {H H' : Hp} (k : ExtN H H') (e : H a = some (.tup xs)) : H' a = some (.tup xs) := k _ _ e fun q z => by cases z
theorem ext_lst2 {a : Addr} {xs : List V} {H H' : Hp} (k : ExtN H H') (e : H a = some (.lst xs)) : H' a = some (.lst xs) := k _ _ e fun q z => by cases z
end K05
end

section
-- part K05W
set_option Elab.async false
set_option linter.all false
set_option maxRecDepth 100000
set_option maxHeartbeats 800000
open PySem PySem.Spec PyProof.Rows L2 Fw
local macro_rules | `(tactic| walk_at "e1") => `(tactic| first
  | ((with_reducible refine' w_var ?hv ?_); (case hv => rfl))
  | with_reducible refine w_c ?_
  | with_reducible refine w_op ?_
  | with_reducible refine w_un ?_
  | with_reducible refine w_cons ?_
  | with_reducible refine w_nil ?_
  | with_reducible refine w_cl ?_
  | with_reducible refine w_cb ?_
  | with_reducible refine w_gname ?_
  | with_reducible refine w_gsub ?_
  | with_reducible refine w_test ?_
  | with_reducible refine w_B ?_
  | with_reducible refine w_bl ?_
  | with_reducible refine w_and ?_
  | with_reducible refine w_or ?_
  | with_reducible refine w_not ?_
  | with_reducible refine w_if ?_
  | with_reducible refine w_I0 ?_
  | with_reducible refine w_ipI ?_
  | with_reducible refine w_eqS ?_
  | with_reducible refine w_neS ?_
  | with_reducible refine w_eqI ?_
  | with_reducible refine w_neI ?_
  | with_reducible refine w_eqB ?_
  | with_reducible refine w_neB ?_
  | ((with_reducible refine w_eq ?hs ?_); (case hs => rfl))
  | ((with_reducible refine w_ne ?hs ?_); (case hs => rfl))
  | with_reducible refine w_fld ?_
  | with_reducible refine w_bm ?_
  | with_reducible refine w_bm0 ?_
  | with_reducible refine w_sl ?_
  | with_reducible refine w_part ?_
  | with_reducible refine w_partI ?_
  | with_reducible refine w_nopart ?_
  | ((with_reducible refine' w_ixL ?hh ?ha ?_); (case hh => first | assumption | exact upd_same); (case ha => rfl))
  | ((with_reducible refine' w_setLu ?ha ?_); (case ha => rfl))
  | ((with_reducible refine' w_setL ?hh ?ha ?_); (case hh => first | assumption | exact upd_same); (case ha => rfl))
  | with_reducible refine w_iteT ?_
  | with_reducible refine w_iteF ?_
  | with_reducible refine w_lst ?_
  | with_reducible refine w_tup ?_
  | ((with_reducible refine w_new ?hz ?_); (case hz => rfl))
  | with_reducible refine w_lc ?_
  | with_reducible refine w_iL ?_
  | with_reducible refine w_iT ?_
  | with_reducible refine w_iR1 ?_
  | with_reducible refine w_iR2 ?_
  | with_reducible refine w_yes ?_
  | with_reducible refine w_iStr ?_
  | with_reducible exact tyS
  | with_reducible refine And.intro tyS ?_
  | ((with_reducible refine w_find3 ?_); (first | rw [find3_one] | rw [starts3] | skip))
  | ((with_reducible refine w_2s ?_); (try rw [find_one]))
  | ((with_reducible refine w_inS ?_); rw [S_list])
  | ((with_reducible refine w_lenS ?hz ?_); (case hz => first | assumption | omega | decide); rw [SX.S_len])
  | ((with_reducible refine w_addS ?hz ?_); (case hz => first | assumption | omega | decide); rw [vS_cat])
  | with_reducible refine w_mk ?_
  | with_reducible refine w_me ?_
  | with_reducible refine w_sfld ?_
  | ((with_reducible refine' w_gtup ?hh ?hn ?_); (case hh => first | assumption | exact upd_same); (case hn => rfl))
  | with_reducible refine w_gcons ?_
  | with_reducible refine w_gnil ?_
  | with_reducible refine w_repl ?_
  | with_reducible refine w_star ?_
  | with_reducible refine w_revL ?_
  | with_reducible refine w_isiS ?_
  | with_reducible refine w_isiI ?_
  | with_reducible refine w_isiN ?_
  | with_reducible refine w_chain ?_
  | with_reducible refine w_iEnumT ?_
  | with_reducible refine w_iZip3 ?_
  | with_reducible refine w_iZip ?_
  | with_reducible refine w_lenR3 ?_
  | with_reducible refine w_x1i ?_
  | with_reducible refine w_x1b ?_
  | with_reducible refine w_x1s ?_
  | with_reducible refine w_int1i ?_
  | with_reducible refine w_int1b ?_
  | ((with_reducible refine w_mod ?hc ?_); (case hc => omega))
  | ((with_reducible refine w_fdivW ?hc ?hd ?_); (case hc => omega); (case hd => omega))
  | ((with_reducible refine w_mul ?hc ?_); (case hc => first | exact Or.inr ⟨by decide, by decide⟩ | exact Or.inl ⟨by decide, by decide⟩))
  | ((with_reducible refine w_pow ?hc ?_); (case hc => exact ⟨by decide, by decide, by decide⟩)))
local macro_rules | `(tactic| walk_at "s1") => `(tactic| first
  | with_reducible refine w_seq ?_
  | with_reducible refine w_asg ?_
  | with_reducible refine w_ret ?_
  | with_reducible refine w_par ?_
  | with_reducible refine w_drop ?_
  | with_reducible refine w_next ?_
  | with_reducible refine w_ifs ?_
  | ((with_reducible refine' w_aug ?hv ?_); (case hv => rfl))
  | with_reducible refine w_for ?_
  | walk_at "e1")
local macro_rules | `(tactic| walk_at "e") => `(tactic| repeat walk_at "e1")
local macro_rules | `(tactic| walk_at "g") => `(tactic| repeat walk_at "s1")

namespace K05
open M5 LamX
/-- all objects but lists are kept -/
def Tk (H H' : Hp) : Prop := ∀ b u, H b = some u → (∀ zs, u ≠ .lst zs) → H' b = some u
theorem Tk.of {H H' : Hp} (s : Same H H') : Tk H H' := fun b u e _ => s b u e
theorem Tk.kp {d : Addr} {H H' : Hp} (k : Kp d H H') (h : Dice H d) : Tk H H' := fun b u e n => k b u (fun z => by
  obtain ⟨x, y, z', q⟩ := h
  rw [z, q] at e
  cases e
  exact n _ rfl) e
theorem Tk.wr {L : Addr} {H : Hp} {zs : List V} {o : HO} (h : H L = some (.lst zs)) : Tk H (upd H L o) := fun b u e n => by
  rw [upd_ne (fun z => by rw [z, h] at e; cases e; exact n _ rfl)]
  exact e
theorem Tk.trans {H H1 H2 : Hp} (a : Tk H H1) (b : Tk H1 H2) : Tk H H2 := fun c u e n => b c u (a c u e n) n
theorem Tk.tup {H H' : Hp} {a : Addr} {xs : List V} (t : Tk H H') (e : H a = some (.tup xs)) : H' a = some (.tup xs) := t _ _ e fun zs z => by cases z
/-- a drawn row that stands at an address -/
structure RowO (m : Nat) (H : Hp) (x : Addr × List RV) : Prop where
  at_ : H x.1 = some (.tup (x.2.map vOf))
  len : x.2.length = m
  ok : ∀ v ∈ x.2, okS v
theorem RowO.tk {m : Nat} {H H' : Hp} {x : Addr × List RV} (h : RowO m H x) (t : Tk H H') : RowO m H' x := ⟨t.tup h.at_, h.len, h.ok⟩
theorem RowO.sm {m : Nat} {H H' : Hp} {x : Addr × List RV} (h : RowO m H x) (t : Same H H') : RowO m H' x := ⟨t _ _ h.at_, h.len, h.ok⟩
abbrev rf (x : Addr × List RV) : V := .ref x.1
section
variable {P : Program} {w : World} {K : PySem.W.Frag} {mg : Str → Option Value} {base : Heap} {cTE cRF : Addr}
theorem ok_law {f c Pt : Addr} {fd : FuncData} (W : Wz K mg cTE cRF) (F : FunD K "law" "law" (defArgs s_law) (defBody s_law) (defScope s_law) [] [] f fd) (hc : fd.code = .ref c) (TB : TabB base mg c Pt)
    (c__law_roll : Cl P w K mg base 1 "_law_roll" spRoll) (c__law_rounds : Cl P w K mg base 2 "_law_rounds" (spRounds K)) (c__law_value : Cl P w K mg base 2 "_law_value" spValue) (c__law_ranks : Cl P w K mg base 2 "_law_ranks" (spRanks K)) (c__law_sum : Cl P w K mg base 1 "_law_sum" (spSum K))
    (c_sign_number : Cl P w K mg base 1 "sign_number" (spSign cTE)) (c_check_text : Cl P w K mg base 2 "check_text" (spCheck cTE)) (c_fixed : Cl P w K mg base 1 "fixed" spFixed) (c_number_from : Cl P w K mg base 1 "number_from" (spNumF K)) (c_sign_at : Cl P w K mg base 1 "sign_at" (spSignAt cRF))
    (c_key_of_value : Cl P w K mg base 2 "key_of_value" spKV) (c_key_of : Cl P w K mg base 3 "key_of" (spKeyOf K)) (c_value_from_key : Cl P w K mg base 3 "value_from_key" (spVFK K cRF)) (c_values_from_key : Cl P w K mg base 4 "values_from_key" (spVSK K cRF))
    (c_natural : Cl P w K mg base 1 "natural" spNat) (c_natural_from : Cl P w K mg base 1 "natural_from" (spNF K cRF)) (c_record_of : Cl P w K mg base 2 "record_of" (spRec K)) (c_value_from_record : Cl P w K mg base 2 "value_from_record" (spVFR K cRF)) (c_row_from : Cl P w K mg base 3 "row_from" (spRow K cRF))
    (c_checksum : Cl P w K mg base 2 "checksum" (spCk K)) (c_upper_key : Cl P w K mg base 1 "upper_key" (spUp K)) :
    FnOk P w K mg base (L2.CX P w) 8 f fd ["script"] (spLaw K Pt) := by
  obtain ⟨oc, od, dV, kV, doc, pm, an, cdv, ct, osl, rfl, lk, hcd, _, _⟩ := F.ex
  obtain rfl : cdv = .ref c := hc
  refine fn_of lk hcd sc_law (fun vs H Q E h => ?_) fun A outer s H vs Q E hr h => ?_
  · obtain ⟨a, ns, rfl, _⟩ := h; rfl
  obtain ⟨a, ns, rfl, hS, h63, hT, q⟩ := h
  refine ⟨_, (pss_cons (ps_for (passes_of rfl) rfl (pi_list (pe_cl c__law_rounds hr (by decide) rfl passL (pa_cons (pv 0) (pa_cons pe_int pa_nil)))) (pg_name (i := 1) sc_law.nd rfl (Or.inr rfl))
    (pss_cons (ps_set (i := 2) sc_law.nd rfl (by first | exact Or.inl rfl | exact Or.inr rfl) (pe_op op_add pe_int (pe_cl c__law_roll hr (by decide) rfl passL (pa_cons (pv 1) (pa_cons pe_int pa_nil)))))
    (pss_cons (ps_setLc (i := 3) (own := [("turn", 5)]) rfl sc_law.nd rfl rfl (sw_true rfl rfl rfl (by decide +kernel)) (pi_range1 rfl W.n_range (pa_cons (pe_op op_add pe_int (pe_cl c__law_roll hr (by decide) rfl passL (pa_cons (pv 1) (pa_cons pe_int pa_nil)))) pa_nil)) (blkOk_by (own := [("turn", 5)]) (N := ["script", "dice", "many", "rows", "k", "turn", "row", "other", "one", "two", "upper", "drawn", "cut", "place", "bent", "data", "told_now", "number", "width"]) (sc := defScope s_law) (by decide +kernel)) (fun _ _ _ _ _ => (pg_name (i := 5) sc_law.nd rfl (Or.inl rfl))) (fun _ _ _ _ _ => pts_nil) (fun _ _ _ _ _ => (pe_callTy (tuple_ofK K rfl) rfl W.n_tuple (by decide +kernel) (pa_cons (pe_lc (own := [("k", 4)]) rfl sc_law.nd (pi_range1 rfl W.n_range (pa_cons (pv 2) pa_nil)) (blkOk_by (own := [("k", 4)]) (N := ["script", "dice", "many", "rows", "k", "turn", "row", "other", "one", "two", "upper", "drawn", "cut", "place", "bent", "data", "told_now", "number", "width"]) (sc := relS _ (defScope s_law)) (by decide +kernel)) (fun _ _ _ _ _ => (pg_name (i := 4) sc_law.nd rfl (by first | exact Or.inl rfl | exact Or.inr rfl))) (fun _ _ _ _ _ => pts_nil) (fun _ _ _ _ _ => (pe_cl c__law_value hr (by decide) rfl passL (pa_cons (pv 1) pa_nil)))) pa_nil))))
    (pss_cons (ps_for (passes_of rfl) rfl (pi_list (pv 3)) (pg_name (i := 6) sc_law.nd rfl (Or.inl rfl))
    (pss_cons (ps_if (PW.pt (pw_or (pt_cmpR (op_neD (hu64 hr)) (pe_cl c_values_from_key hr (by decide) rfl passL (pa_cons (pe_cl c_key_of hr (by decide) rfl passL (pa_cons (pv 6) pa_nil)) pa_nil)) (pv 6) (nomark _)) (pw_or (pt_cmpR (op_neD (hu64 hr)) (pe_cl c_row_from hr (by decide) rfl passL (pa_cons (pe_cl c_record_of hr (by decide) rfl passL (pa_cons (pv 6) pa_nil)) pa_nil)) (pv 6) (nomark _)) (pw_or1 (pt_cmpR (op_neD (hu64 hr)) (pe_cl c_key_of hr (by decide) rfl passL (pa_cons (pe_slice sl_tupA (pv 6) po_none (po_some pe_int)) pa_nil)) (pe_cl c_key_of_value hr (by decide) rfl passL (pa_cons (pe_ix ix_tup (pv 6) pe_int (fun _ _ => rfl)) pa_nil)) (nomark _))))))
    (pss_one (ps_ret pe_bl))
    pss_nil)
    (pss_cons (ps_if (pt_cmpR (op_neD (hu64 hr)) (pe_cl c_value_from_key hr (by decide) rfl passL (pa_cons (pe_cl c_key_of hr (by decide) rfl passL (pa_cons (pv 6) pa_nil)) (pa_cons pe_int pa_nil))) (pe_tup (pa_cons (pe_ix ix_tup (pv 6) pe_int (fun _ _ => rfl)) (pa_cons (pe_callB call_len_seq rfl W.n_len PySem.boot_len (pa_cons (pe_cl c_key_of hr (by decide) rfl passL (pa_cons (pe_slice sl_tupA (pv 6) po_none (po_some pe_int)) pa_nil)) pa_nil)) pa_nil))) (nomark _))
    (pss_one (ps_ret pe_bl))
    pss_nil)
    (pss_cons (ps_for (passes_of rfl) rfl (pi_list (pv 3)) (pg_name (i := 7) sc_law.nd rfl (Or.inl rfl))
    (pss_cons (ps_par (i := 8) (j := 9) (by rfl) sc_law.nd rfl rfl (by decide) rfl rfl (pa_cons (pe_cl c_key_of hr (by decide) rfl passL (pa_cons (pv 6) pa_nil)) (pa_cons (pe_cl c_key_of hr (by decide) rfl passL (pa_cons (pv 7) pa_nil)) pa_nil)) (by rfl))
    (pss_one (ps_if (PW.pt (pw_or (pt_cmpR op_ne (pe_cmpR (op_ltT (hu1 hr)) (pv 8) (pv 9) (nomark _)) (pe_cmpR (op_ltRk (hu64 hr)) (pe_cl c__law_ranks hr (by decide) rfl passL (pa_cons (pv 6) pa_nil)) (pe_cl c__law_ranks hr (by decide) rfl passL (pa_cons (pv 7) pa_nil)) (nomark _)) (nomark _)) (pw_or1 (PW.pt (pw_and (pt_cmpR (op_neD (hu64 hr)) (pv 8) (pv 9) (nomark _)) (pw_and1 (pt_cmpR (op_eqD (hu64 hr)) (pe_slice sl_tupA (pv 9) po_none (po_some (pe_callB call_len_seq rfl W.n_len PySem.boot_len (pa_cons (pv 8) pa_nil)))) (pv 8) (nomark _))))))))
    (pss_one (ps_ret pe_bl))
    pss_nil))))
    (pss_cons (ps_set (i := 10) sc_law.nd rfl (Or.inl rfl) (pe_cl c_upper_key hr (by decide) rfl passL (pa_cons (pe_cl c_key_of hr (by decide) rfl passL (pa_cons (pv 6) pa_nil)) pa_nil)))
    (pss_one (ps_if (PW.pt (pw_or (pt_cmpR op_isN (pv 10) pe_non (nomark _)) (pw_or (pt_not (pt_cmpR (op_ltT (hu1 hr)) (pe_op op_catA (pe_cl c_key_of hr (by decide) rfl passL (pa_cons (pv 6) pa_nil)) (pe_tup (pa_cons pe_int (pa_cons pe_int (pa_cons pe_int (pa_cons pe_int pa_nil)))))) (pv 10) (nomark _))) (pw_or1 (pt_cmpR (op_neD (hu64 hr)) (pe_slice sl_tupA (pv 10) po_none (po_some (pe_op op_sub (pe_callB call_len_seq rfl W.n_len PySem.boot_len (pa_cons (pv 10) pa_nil)) pe_int))) (pe_slice sl_tupA (pe_cl c_key_of hr (by decide) rfl passL (pa_cons (pv 6) pa_nil)) po_none (po_some (pe_op op_sub (pe_callB call_len_seq rfl W.n_len PySem.boot_len (pa_cons (pv 10) pa_nil)) pe_int))) (nomark _))))))
    (pss_one (ps_ret pe_bl))
    pss_nil)))))))
    (pss_cons (ps_set (i := 11) sc_law.nd rfl (Or.inl rfl) (pe_callTy call_tuple_of rfl W.n_tuple (by decide +kernel) (pa_cons (pe_lc (own := [("k", 4)]) rfl sc_law.nd (pi_range1 rfl W.n_range (pa_cons (pe_cl c__law_roll hr (by decide) rfl passL (pa_cons (pv 1) (pa_cons pe_int pa_nil))) pa_nil)) (blkOk_by (own := [("k", 4)]) (N := ["script", "dice", "many", "rows", "k", "turn", "row", "other", "one", "two", "upper", "drawn", "cut", "place", "bent", "data", "told_now", "number", "width"]) (sc := defScope s_law) (by decide +kernel)) (fun _ _ _ _ _ => (pg_name (i := 4) sc_law.nd rfl (by first | exact Or.inl rfl | exact Or.inr rfl))) (fun _ _ _ _ _ => pts_nil) (fun _ _ _ _ _ => (pe_ix (ix_listK K rfl) (pe_lst (pa_cons (pe_cl c__law_roll hr (by decide) rfl passL (pa_cons (pv 1) (pa_cons pe_int pa_nil))) (pa_cons (pe_cl c__law_roll hr (by decide) rfl passL (pa_cons (pv 1) (pa_cons pe_int pa_nil))) pa_nil))) (pe_cl c__law_roll hr (by decide) rfl passL (pa_cons (pv 1) (pa_cons pe_int pa_nil))) (fun _ _ => rfl)))) pa_nil)))
    (pss_cons (ps_set (i := 12) sc_law.nd rfl (Or.inl rfl) (pe_callTy call_list_of rfl W.n_list (by decide +kernel) (pa_cons (pe_cl c_record_of hr (by decide) rfl passL (pa_cons (pe_ix ix_list (pv 3) pe_int (fun _ _ => rfl)) pa_nil)) pa_nil)))
    (pss_cons (ps_set (i := 13) sc_law.nd rfl (Or.inl rfl) (pe_cl c__law_roll hr (by decide) rfl passL (pa_cons (pv 1) (pa_cons (pe_op op_add (pe_callB call_len_seq rfl W.n_len PySem.boot_len (pa_cons (pv 12) pa_nil)) pe_int) pa_nil))))
    (pss_cons (ps_set (i := 14) sc_law.nd rfl (Or.inl rfl) (pe_callTy call_tuple_of rfl W.n_tuple (by decide +kernel) (pa_cons (pe_op op_cat (pe_op op_cat (pe_slice sl_list (pv 12) po_none (po_some (pv 13))) (pe_op op_rep (pe_lst (pa_cons (pe_cl c__law_roll hr (by decide) rfl passL (pa_cons (pv 1) (pa_cons pe_int pa_nil))) pa_nil)) (pe_cl c__law_roll hr (by decide) rfl passL (pa_cons (pv 1) (pa_cons pe_int pa_nil))))) (pe_slice sl_list (pv 12) (po_some (pe_op op_add (pv 13) (pe_cl c__law_roll hr (by decide) rfl passL (pa_cons (pv 1) (pa_cons pe_int pa_nil))))) po_none)) pa_nil)))
    (pss_cons (ps_for (passes_of rfl) rfl (pi_list (pe_lst (pa_cons (pv 11) (pa_cons (pv 14) pa_nil)))) (pg_name (i := 15) sc_law.nd rfl (Or.inr rfl))
    (pss_cons (ps_set (i := 16) sc_law.nd rfl (Or.inl rfl) (pe_lamT W.d__law_told W.e_RecordFault.og W.e_TextError.og TB rfl (("law" : Str) ++ (".<locals>." : Str)) rfl hr (defScope s_law) rfl (by decide +kernel) rfl (fun _ _ _ _ _ => rfl) rfl (fun A outer s H E f c1 hr => (pe_cl c_row_from hr (by decide) rfl passLam (pa_cons (pv 15) pa_nil)))))
    (pss_cons (ps_if (PW.pt (pw_and (pt_cmpR (op_neD (hu64 hr)) (pv 16) pe_str (nomark _)) (pw_and1 (pt_cmpR (op_neD (hu64 hr)) (pe_cl c_record_of hr (by decide) rfl passL (pa_cons (pv 16) pa_nil)) (pv 15) (nomark _)))))
    (pss_one (ps_ret pe_bl))
    pss_nil)
    (pss_cons (ps_set (i := 16) sc_law.nd rfl (Or.inl rfl) (pe_lamT W.d__law_told W.e_RecordFault.og W.e_TextError.og TB rfl (("law" : Str) ++ (".<locals>." : Str)) rfl hr (defScope s_law) rfl (by decide +kernel) rfl (fun _ _ _ _ _ => rfl) rfl (fun A outer s H E f c1 hr => (pe_cl c_values_from_key hr (by decide) rfl passLam (pa_cons (pv 15) pa_nil)))))
    (pss_one (ps_if (PW.pt (pw_and (pt_cmpR (op_neD (hu64 hr)) (pv 16) pe_str (nomark _)) (pw_and1 (pt_cmpR (op_neD (hu64 hr)) (pe_cl c_key_of hr (by decide) rfl passL (pa_cons (pv 16) pa_nil)) (pv 15) (nomark _)))))
    (pss_one (ps_ret pe_bl))
    pss_nil))))))
    (pss_cons (ps_par (i := 17) (j := 18) (by rfl) sc_law.nd rfl rfl (by decide) rfl rfl (pa_cons (pe_cl c__law_roll hr (by decide) rfl passL (pa_cons (pv 1) (pa_cons (pe_op op_pow pe_int pe_int) pa_nil))) (pa_cons (pe_op op_add pe_int (pe_cl c__law_roll hr (by decide) rfl passL (pa_cons (pv 1) (pa_cons pe_int pa_nil)))) pa_nil)) (by rfl))
    (pss_cons (ps_if (PW.pt (pw_or (pt_cmpR op_ne (pe_cl c_number_from hr (by decide) rfl passL (pa_cons (pe_cl c_fixed hr (by decide) rfl passL (pa_cons (pv 17) (pa_cons (pv 18) pa_nil))) pa_nil)) (pv 17) (nomark _)) (pw_or1 (pt_cmpR op_ne (pe_callB call_len_seq rfl W.n_len PySem.boot_len (pa_cons (pe_cl c_fixed hr (by decide) rfl passL (pa_cons (pv 17) (pa_cons (pv 18) pa_nil))) pa_nil)) (pv 18) (nomark _)))))
    (pss_one (ps_ret pe_bl))
    pss_nil)
    (pss_cons (ps_if (PW.pt (pw_or (pt_cmpR (op_neD (hu64 hr)) (pe_cl c_natural_from hr (by decide) rfl passL (pa_cons (pe_op op_catA (pe_cl c_natural hr (by decide) rfl passL (pa_cons (pv 17) pa_nil)) (pv 11)) (pa_cons pe_int pa_nil))) (pe_tup (pa_cons (pv 17) (pa_cons (pe_callB call_len_seq rfl W.n_len PySem.boot_len (pa_cons (pe_cl c_natural hr (by decide) rfl passL (pa_cons (pv 17) pa_nil)) pa_nil)) pa_nil))) (nomark _)) (pw_or1 (pt_cmpR (op_neD (hu64 hr)) (pe_cl c_checksum hr (by decide) rfl passL (pa_cons (pv 11) pa_nil)) (pe_cl c__law_sum hr (by decide) rfl passL (pa_cons (pv 11) pa_nil)) (nomark _)))))
    (pss_one (ps_ret pe_bl))
    pss_nil)
    (pss_one (ps_if (pt_cmpR (op_neD (hu64 hr)) (pe_lamT W.d__law_told W.e_RecordFault.og W.e_TextError.og TB rfl (("law" : Str) ++ (".<locals>." : Str)) rfl hr (defScope s_law) rfl (by decide +kernel) rfl (fun _ _ _ _ _ => rfl) rfl (fun A outer s H E f c1 hr => (pe_cl c_natural_from hr (by decide) rfl passLam (pa_cons (pe_op (op_catAK K rfl) (pe_op (op_repAK K rfl) (pe_tup (pa_cons pe_int pa_nil)) (pe_op op_add pe_int (pe_cl c__law_roll hr (by decide) rfl passLam (pa_cons (pv 1) (pa_cons pe_int pa_nil))))) (pe_tup (pa_cons pe_int pa_nil))) (pa_cons pe_int pa_nil))))) pe_str (nomark _))
    (pss_one (ps_ret pe_bl))
    pss_nil))))))))))))))
    (pss_cons (ps_if (PW.pt (pw_or (pt_cmpR op_notN (pe_cl c_upper_key hr (by decide) rfl passL (pa_cons (pe_tup (pa_cons pe_int (pa_cons pe_int pa_nil))) pa_nil)) pe_non (nomark _)) (pw_or (pt_cmpR (op_neD (hu64 hr)) (pe_cl c_upper_key hr (by decide) rfl passL (pa_cons (pe_tup (pa_cons pe_int (pa_cons pe_int pa_nil))) pa_nil)) (pe_tup (pa_cons pe_int pa_nil)) (nomark _)) (pw_or1 (pt_cmpR op_notN (pe_cl c_upper_key hr (by decide) rfl passL (pa_cons (pe_tup pa_nil) pa_nil)) pe_non (nomark _))))))
    (pss_one (ps_ret pe_bl))
    pss_nil)
    (pss_cons (ps_if (PW.pt (pw_or (pt_cmpR (op_neD (hu64 hr)) (pe_lamT W.d__law_told W.e_RecordFault.og W.e_TextError.og TB rfl (("law" : Str) ++ (".<locals>." : Str)) rfl hr (defScope s_law) rfl (by decide +kernel) rfl (fun _ _ _ _ _ => rfl) rfl (fun A outer s H E f c1 hr => (pe_cl c_sign_at hr (by decide) rfl passLam (pa_cons pe_int pa_nil)))) pe_str (nomark _)) (pw_or1 (pt_cmpR op_ne (pe_cl c_sign_at hr (by decide) rfl passL (pa_cons (pe_cl c_sign_number hr (by decide) rfl passL (pa_cons pe_str pa_nil)) pa_nil)) pe_str (nomark _)))))
    (pss_one (ps_ret pe_bl))
    pss_nil)
    (pss_cons (ps_if (PW.pt (pw_or (pt_cmpR (op_neD (hu64 hr)) (pe_lamT W.d__law_told W.e_RecordFault.og W.e_TextError.og TB rfl (("law" : Str) ++ (".<locals>." : Str)) rfl hr (defScope s_law) rfl (by decide +kernel) rfl (fun _ _ _ _ _ => rfl) rfl (fun A outer s H E f c1 hr => (pe_cl c_check_text hr (by decide) rfl passLam (pa_cons pe_str pa_nil)))) pe_str (nomark _)) (pw_or1 (pt_cmpR op_ne (pe_cl c_check_text hr (by decide) rfl passL (pa_cons pe_str pa_nil)) pe_str (nomark _)))))
    (pss_one (ps_ret pe_bl))
    pss_nil)
    (pss_one (ps_ret (pe_and (pe_cmpR (op_eqD (hu64 hr)) (pe_cl c_value_from_record hr (by decide) rfl passL (pa_cons (pe_tup (pa_cons pe_int pa_nil)) (pa_cons pe_int pa_nil))) (pe_tup (pa_cons pe_non (pa_cons pe_int pa_nil))) (nomark _)) (pe_one (pe_cmpR (op_eqD (hu64 hr)) (pe_lamT W.d__law_told W.e_RecordFault.og W.e_TextError.og TB rfl (("law" : Str) ++ (".<locals>." : Str)) rfl hr (defScope s_law) rfl (by decide +kernel) rfl (fun _ _ _ _ _ => rfl) rfl (fun A outer s H E f c1 hr => (pe_cl c_value_from_record hr (by decide) rfl passLam (pa_cons (pe_tup (pa_cons pe_int pa_nil)) (pa_cons pe_int pa_nil))))) pe_str (nomark _)))))))))), ?_⟩
  walk_at "g"
  refine ⟨a, ns, 1, rfl, hS, h63, fun p H1 dcs s1 fp ep hds hl => ?_⟩
  refine w_forL (SqL.of ep) (fun i σ Hc => Good Pt p dcs Hc ∧ ∃ v1 v2 v3 v4 v5 v6 v7 v8 v9 v10 v11 v12 v13 v14 v15 v16 v17 v18 : Option V, σ = [some (.ref a), v1, v2, v3, v4, v5, v6, v7, v8, v9, v10, v11, v12, v13, v14, v15, v16, v17, v18])
    ⟨⟨ep, fun d hd => (hds d hd).1, tabs_same hT s1⟩, none, none, none, none, none, none, none, none, none, none, none, none, none, none, none, none, none, none, rfl⟩ (fun i σ Hc _ h => SqL.of h.1.lst) ?_ ?_
  · rintro i x σ H2 hi ⟨g, v1, v2, v3, v4, v5, v6, v7, v8, v9, v10, v11, v12, v13, v14, v15, v16, v17, v18, rfl⟩
    obtain ⟨d, hd, rfl⟩ : ∃ d ∈ dcs, x = V.ref d := by
      obtain ⟨d, e1, e2⟩ := map_get hi
      exact ⟨d, List.mem_of_getElem? e1, e2⟩
    have dd := g.dice d hd
    have kp := Kp.refl d H2
    walk_at "g"
    refine w_roll (by decide) (by decide) kp dd fun r H3 r0 r1 kp kp' dd => ?_
    obtain ⟨many, hmany⟩ : ∃ many : Nat, 1 + r = (many : Int) := ⟨(1 + r).toNat, by omega⟩
    have hm4 : 1 ≤ many ∧ many ≤ 4 := by omega
    walk_at "g"
    rw [hmany]
    clear hmany r0 r1 kp'
    walk_at "g"
    refine w_roll (by decide) (by decide) kp dd fun n H4 n0 n1 kp kp' dd => ?_
    walk_at "g"
    refine w_lcRp ⟨by omega, by omega⟩ fun R hR => ?_
    obtain ⟨kp1, kp2, dd1, nR, fR, eR⟩ := newl (o := .lst []) kp dd hR rfl
    refine ⟨fun i H' => ∃ rows : List (Addr × List RV), rows.length = i ∧ H' R = some (.lst (rows.map rf)) ∧ (∀ r ∈ rows, RowO many H' r) ∧ Kp d H2 H' ∧ Dice H' d, ⟨[], rfl, eR, (fun r hr => absurd hr List.not_mem_nil), kp1, dd1⟩, ?_, ?_⟩
    · rintro i H6 hi ⟨rows, rfl, e6, ok6, k6, d6⟩
      walk_at "g"
      refine ⟨rfl, ?_⟩
      walk_at "g"
      refine w_lcRp ⟨by omega, by omega⟩ fun I hI => ?_
      obtain ⟨q1, q2, q3, nI, fI, eI⟩ := newl (o := .lst []) k6 d6 hI rfl
      refine ⟨fun j H' => ∃ xs : List RV, xs.length = j ∧ (∀ v ∈ xs, okS v) ∧ H' I = some (.lst (xs.map vOf)) ∧ Kp d H2 H' ∧ Kp d H6 H' ∧ Dice H' d, ⟨[], rfl, (fun r hr => absurd hr List.not_mem_nil), eI, q1, q2, q3⟩, ?_, ?_⟩
      · rintro j H7 hj ⟨xs, rfl, okx, e7, k7, k7', d7⟩
        walk_at "g"
        refine ⟨rfl, ?_⟩
        walk_at "g"
        refine ⟨d, rfl, d7, fun v H8 k8 d8 ov => ?_⟩
        have e8 := k8 _ _ nI e7
        refine ⟨_, e8, by rw [List.length_map]; exact Nat.lt_of_lt_of_le (by omega : xs.length < 1000) (by decide), xs ++ [v], by rw [List.length_append]; rfl, fun u hu => ?_, by rw [upd_same, List.map_append]; rfl, kp_wr (k7.trans k8) fI, kp_wr (k7'.trans k8) hI, dice_wr d8 nI⟩
        rcases List.mem_append.mp hu with h | h
        · exact okx u h
        · rw [List.mem_singleton.mp h]; exact ov
      · rintro H7 ⟨xs, hxs, okx, e7, k7, k7', d7⟩
        walk_at "g"
        refine ⟨I, _, rfl, .inl ⟨SqL.of e7, fun x hx => ?_⟩⟩
        have e9 := same_new hx (.tup (xs.map vOf)) _ _ (k7' _ _ nR e6)
        have sX := same_new hx (.tup (xs.map vOf))
        have eX : upd H7 x (.tup (xs.map vOf)) x = some (.tup (xs.map vOf)) := upd_same
        generalize upd H7 x (.tup (xs.map vOf)) = H9 at e9 sX eX
        have tw := Tk.wr (o := .lst (rows.map rf ++ [.ref x])) e9
        have tk := ((Tk.kp k7' d6).trans (Tk.of sX)).trans tw
        refine ⟨_, e9, by rw [List.length_map]; exact Nat.lt_of_lt_of_le (by omega : rows.length < 1000) (by decide), rows ++ [(x, xs)], by rw [List.length_append]; rfl, by rw [upd_same, List.map_append]; rfl, fun r hr => ?_, kp_wr (k7.trans (Kp.of sX)) fR, dice_wr (dice_sm d7 sX) nR⟩
        rcases List.mem_append.mp hr with h | h
        · exact (ok6 r h).tk tk
        · rw [List.mem_singleton.mp h]
          exact ⟨tw.tup eX, by show xs.length = many; omega, okx⟩
    rintro H6 ⟨rows, hrows, eR6, ok6, k6, d6⟩
    have hr4 : 1 ≤ rows.length ∧ rows.length ≤ 4 := by omega
    clear kp1 kp2 dd1 kp dd eR hR kp' hrows n0 n1
    walk_at "g"
    refine w_forL (SqL.of eR6) (fun i σ Hc => Same H6 Hc ∧ ∃ u6 u7 u8 u9 u10 : Option V, σ = [some (.ref a), some (.ref d), some (.int (many : Int)), some (.ref R), v4, v5, u6, u7, u8, u9, u10, v11, v12, v13, v14, v15, v16, v17, v18])
      ⟨fun _ _ h => h, v6, v7, v8, v9, v10, rfl⟩ (fun i σ Hc _ h => SqL.of (h.1 _ _ eR6)) ?_ ?_
    · rintro i x σ H7 hi ⟨s7, u6, u7, u8, u9, u10, rfl⟩
      obtain ⟨⟨ra, r⟩, hx, rfl⟩ := map_get hi
      have hmem := List.mem_of_getElem? hx
      have rO := (ok6 _ hmem).sm s7
      have hlr : r.length = many := rO.len
      have okr : ∀ v ∈ r, okS v := rO.ok
      have er : H7 ra = some (.tup (r.map vOf)) := rO.at_
      have hl4 : r.length ≤ 4 := by omega
      obtain ⟨v, r', rfl⟩ : ∃ v r', r = v :: r' := List.exists_cons_of_length_pos (by omega)
      clear rO hi hx
      have okd : ∀ w ∈ v :: r', okD w := fun w hw => okD_of (okr w hw).1
      have ok1 : ∀ w ∈ [v], okS w := fun w hw => okr w (by rw [List.mem_singleton.mp hw]; exact List.mem_cons_self)
      walk_at "g"
      refine w_keyOf (SqT.of er) okr hl4 fun p1 Ha sa na ea => ?_
      replace er := sa _ _ er
      replace s7 := s7.trans sa
      walk_at "g"
      refine w_valsKey (SqT.of ea) okr hl4 fun p2 Hb sb nb eb => ?_
      replace er := sb _ _ er
      replace s7 := s7.trans sb
      walk_at "g"
      refine w_neRowS (SqT.of eb) (SqT.of er) okd ?_
      clear ea eb sa sb na nb
      walk_at "g"
      refine w_recOf (SqT.of er) okr hl4 fun p1 Hc sa na ea => ?_
      replace er := sa _ _ er
      replace s7 := s7.trans sa
      walk_at "g"
      refine w_rowRec (SqT.of ea) okr hl4 fun p2 Hd sb nb eb => ?_
      replace er := sb _ _ er
      replace s7 := s7.trans sb
      walk_at "g"
      refine w_neRowS (SqT.of eb) (SqT.of er) okd ?_
      clear ea eb sa sb na nb
      walk_at "g"
      refine w_slTo (n := 1) (SqT.of er) fun p1 Ha sa ea => ?_
      replace er := sa _ _ er
      replace s7 := s7.trans sa
      walk_at "g"
      refine w_keyOf (r := [v]) ea ok1 (show 1 ≤ 4 by decide) fun p2 Hb sb nb eb => ?_
      replace er := sb _ _ er
      replace s7 := s7.trans sb
      walk_at "g"
      refine ⟨ra, _, _, vOf v, rfl, rfl, SqT.of er, (show atI (List.map vOf (v :: r')) ((0 : Nat) : Int) = _ from atI_nat rfl), ?_⟩
      walk_at "g"
      refine ⟨v, rfl, okL_of (okr v List.mem_cons_self), fun p3 Hc sc nc ec => ?_⟩
      replace er := sc _ _ er
      replace eb := sc _ _ eb
      replace s7 := s7.trans sc
      walk_at "g"
      rw [keyR_one] at eb
      refine w_neIntsS (SqT.of eb) (SqT.of ec) ?_
      clear ea eb ec sa sb sc nb nc
      walk_at "g"
      refine w_keyOf (SqT.of er) okr hl4 fun p1 Ha sa na ea => ?_
      replace er := sa _ _ er
      replace s7 := s7.trans sa
      walk_at "g"
      refine w_valKey (SqT.of ea) okr hl4 fun p2 Hb sb nb eb => ?_
      replace er := sb _ _ er
      replace s7 := s7.trans sb
      walk_at "g"
      refine ⟨ra, _, _, vOf v, rfl, rfl, SqT.of er, (show atI (List.map vOf (v :: r')) ((0 : Nat) : Int) = _ from atI_nat rfl), ?_⟩
      walk_at "g"
      refine w_slTo (n := 1) (SqT.of er) fun p3 Hc sc ec => ?_
      replace er := sc _ _ er
      replace eb := sc _ _ eb
      replace s7 := s7.trans sc
      walk_at "g"
      refine w_keyOf (r := [v]) ec ok1 (show 1 ≤ 4 by decide) fun p4 Hd sd nd ed => ?_
      replace er := sd _ _ er
      replace eb := sd _ _ eb
      replace s7 := s7.trans sd
      walk_at "g"
      refine ⟨_, _, rfl, .inr (SqT.of ed), ?_⟩
      rw [List.length_map, keyR_one]
      walk_at "g"
      intro p5 hp5
      have sx := same_new hp5 (.tup [vOf v, .int ((keyV v).length : Int)])
      have ex : upd Hd p5 (.tup [vOf v, .int ((keyV v).length : Int)]) p5 = some (.tup [vOf v, .int ((keyV v).length : Int)]) := upd_same
      generalize upd Hd p5 (.tup [vOf v, .int ((keyV v).length : Int)]) = He at sx ex
      replace er := sx _ _ er
      replace eb := sx _ _ eb
      replace s7 := s7.trans sx
      refine w_neRowS (r := [v, .num ((keyV v).length : Int)]) (SqT.of eb) (SqT.of ex) (fun w hw => ?_) ?_
      · rcases List.mem_cons.mp hw with rfl | hw
        · exact okd _ List.mem_cons_self
        · rw [List.mem_singleton.mp hw]; trivial
      clear ea eb ec ed ex sa sb sc sd sx na nb nd hp5
      walk_at "g"
      refine w_forL (SqL.of (s7 _ _ eR6)) (fun j σ Hc => Same H6 Hc ∧ Same He Hc ∧ ∃ u7 u8 u9 : Option V, σ = [some (.ref a), some (.ref d), some (.int (many : Int)), some (.ref R), v4, v5, some (.ref ra), u7, u8, u9, u10, v11, v12, v13, v14, v15, v16, v17, v18])
        ⟨s7, fun _ _ h => h, u7, u8, u9, rfl⟩ (fun i σ Hc _ h => SqL.of (h.1 _ _ eR6)) ?_ ?_
      · rintro j y σ H8 hj ⟨s8, s8', w7, w8, w9, rfl⟩
        obtain ⟨⟨oa, t⟩, hy, rfl⟩ := map_get hj
        have tO := (ok6 _ (List.mem_of_getElem? hy)).sm s8
        have hlt : t.length = many := tO.len
        have okt : ∀ v ∈ t, okS v := tO.ok
        have et : H8 oa = some (.tup (t.map vOf)) := tO.at_
        have er8 := s8' _ _ er
        clear tO hj hy
        walk_at "g"
        refine w_keyOf (SqT.of er8) okr hl4 fun p1 Ha sa na ea => ?_
        replace er8 := sa _ _ er8
        replace et := sa _ _ et
        replace s8 := s8.trans sa
        replace s8' := s8'.trans sa
        walk_at "g"
        refine w_keyOf (SqT.of et) okt (by omega) fun p2 Hb sb nb eb => ?_
        replace er8 := sb _ _ er8
        replace et := sb _ _ et
        replace ea := sb _ _ ea
        replace s8 := s8.trans sb
        replace s8' := s8'.trans sb
        clear sa sb na nb
        walk_at "g"
        refine ⟨_, _, rfl, ?_⟩
        walk_at "g"
        refine ⟨p1, p2, keyR (v :: r'), keyR t, rfl, rfl, SqT.of ea, SqT.of eb, ?_⟩
        walk_at "g"
        refine ⟨ra, v :: r', rfl, SqT.of er8, by omega, fun z1 Hc zs1 sa n1 e1 k1 => ?_⟩
        replace er8 := sa _ _ er8
        replace et := sa _ _ et
        replace ea := sa _ _ ea
        replace eb := sa _ _ eb
        replace s8 := s8.trans sa
        replace s8' := s8'.trans sa
        walk_at "g"
        refine ⟨oa, t, rfl, SqT.of et, by omega, fun z2 Hd zs2 sb n2 e2 k2 => ?_⟩
        replace er8 := sb _ _ er8
        replace ea := sb _ _ ea
        replace eb := sb _ _ eb
        replace e1 := sb _ _ e1
        replace k1 := k1.up fun x _ ys e => sb _ _ e
        replace s8 := s8.trans sb
        replace s8' := s8'.trans sb
        refine ⟨z1, z2, zs1, zs2, v :: r', t, rfl, rfl, e1, e2, k1, k2, by omega, ?_⟩
        refine w_neB ?_
        have hlen : (v :: r').length = t.length := by omega
        have okV1 : ∀ w ∈ v :: r', okV w := fun w hw => (okr w hw).1
        have okV2 : ∀ w ∈ t, okV w := fun w hw => (okt w hw).1
        rw [row_lex hlen okV1 okV2, bne_self_eq_false]
        clear sa sb n1 n2 e1 e2 k1 k2
        walk_at "g"
        refine w_neInts (SqT.of ea) (SqT.of eb) ?_
        by_cases c : keyR (v :: r') = keyR t
        · rw [decide_eq_true c]
          walk_at "g"
          exact ⟨s8, s8', _, _, _, rfl⟩
        rw [decide_eq_false c, Bool.not_false]
        walk_at "g"
        refine ⟨_, _, rfl, .inr (SqT.of ea), ?_⟩
        rw [List.length_map]
        walk_at "g"
        refine w_slInts (SqT.of eb) fun p3 He' sc ec => ?_
        replace ea := sc _ _ ea
        replace s8 := s8.trans sc
        replace s8' := s8'.trans sc
        walk_at "g"
        refine w_eqInts ec (SqT.of ea) ?_
        rw [decide_eq_false (row_take hlen okV1 okV2 c)]
        walk_at "g"
        exact ⟨s8, s8', _, _, _, rfl⟩
      · rintro σ H8 ⟨s8, s8', w7, w8, w9, rfl⟩
        replace er := s8' _ _ er
        clear s7 s8'
        walk_at "g"
        refine w_keyOf (SqT.of er) okr hl4 fun p1 Ha sa na ea => ?_
        replace er := sa _ _ er
        replace s8 := s8.trans sa
        have kl := keyR_len okr
        obtain ⟨u, hu, hlex, hul, hut⟩ := upper_ok (keyR_pos okr (List.cons_ne_nil v r')) [255, 255, 255, 255]
        walk_at "g"
        refine ⟨p1, _, rfl, SqT.of ea, by omega, ?_⟩
        rw [hu]
        intro pu Hb sb nb eu
        replace er := sb _ _ er
        replace s8 := s8.trans sb
        clear sa na ea sb nb
        walk_at "g"
        refine ⟨rfl, ?_⟩
        rw [decide_eq_false (fun e => by cases e)]
        walk_at "g"
        refine w_keyOf (SqT.of er) okr hl4 fun p1 Ha sa na ea => ?_
        replace er := sa _ _ er
        replace eu := sa _ _ eu
        replace s8 := s8.trans sa
        walk_at "g"
        intro p2 hp2
        have sx := same_new hp2 (.tup [.int 255, .int 255, .int 255, .int 255])
        have ex : upd Ha p2 (.tup [.int 255, .int 255, .int 255, .int 255]) p2 = some (.tup [.int 255, .int 255, .int 255, .int 255]) := upd_same
        generalize upd Ha p2 (.tup [.int 255, .int 255, .int 255, .int 255]) = Hc at sx ex
        replace er := sx _ _ er
        replace eu := sx _ _ eu
        replace ea := sx _ _ ea
        replace s8 := s8.trans sx
        refine ⟨p1, p2, (keyR (v :: r')).map V.int, _, rfl, rfl, SqT.of ea, SqT.of ex, ?_, fun z => ?_, fun _ z => ?_, fun _ _ p3 hp3 => ?_⟩
        · rw [List.length_map]; exact Nat.le_trans (by show _ + 4 ≤ 1000; omega) (by decide)
        · exfalso
          have := congrArg List.length z
          rw [List.length_map] at this
          have h0 : ([] : List V).length = 0 := rfl
          rw [List.length_cons] at kl
          omega
        · cases z
        have sy := same_new hp3 (.tup ((keyR (v :: r')).map V.int ++ [V.int 255, V.int 255, V.int 255, V.int 255]))
        have ey : upd Hc p3 (.tup ((keyR (v :: r')).map V.int ++ [V.int 255, V.int 255, V.int 255, V.int 255])) p3 = some (.tup ((keyR (v :: r') ++ [255, 255, 255, 255]).map V.int)) := by rw [upd_same, List.map_append]; rfl
        generalize upd Hc p3 (.tup ((keyR (v :: r')).map V.int ++ [V.int 255, V.int 255, V.int 255, V.int 255])) = Hd at sy ey
        replace er := sy _ _ er
        replace eu := sy _ _ eu
        replace s8 := s8.trans sy
        walk_at "g"
        refine ⟨p3, pu, _, u, rfl, rfl, SqT.of ey, SqT.of eu, ?_⟩
        rw [hlex]
        walk_at "g"
        rw [Bool.not_true]
        clear sa na ea sx ex sy ey hp2 hp3
        walk_at "g"
        refine ⟨_, _, rfl, .inr (SqT.of eu), ?_⟩
        rw [List.length_map]
        walk_at "g"
        rw [show (u.length : Int) - 1 = ((u.length - 1 : Nat) : Int) by have := keyR_pos okr (List.cons_ne_nil v r'); omega]
        refine w_slInts (SqT.of eu) fun p1 Ha sa ea => ?_
        replace er := sa _ _ er
        replace eu := sa _ _ eu
        replace s8 := s8.trans sa
        walk_at "g"
        refine w_keyOf (SqT.of er) okr hl4 fun p2 Hb sb nb eb => ?_
        replace ea := sqT_same ea sb
        replace eu := sb _ _ eu
        replace s8 := s8.trans sb
        walk_at "g"
        refine ⟨_, _, rfl, .inr (SqT.of eu), ?_⟩
        rw [List.length_map]
        walk_at "g"
        rw [show (u.length : Int) - 1 = ((u.length - 1 : Nat) : Int) by have := keyR_pos okr (List.cons_ne_nil v r'); omega]
        refine w_slInts (SqT.of eb) fun p3 Hc' sc ec => ?_
        replace ea := sqT_same ea sc
        replace s8 := s8.trans sc
        rw [hul] at ea ec
        rw [hut] at ea
        refine w_neIntsS ea ec ?_
        walk_at "g"
        exact ⟨s8, _, _, _, _, _, rfl⟩
    · rintro σ H7 ⟨s7, u6, u7, u8, u9, u10, rfl⟩
      obtain ⟨⟨r0, t0⟩, rest, rfl⟩ : ∃ x y, rows = x :: y := List.exists_cons_of_length_pos (by omega)
      have rO := (ok6 _ List.mem_cons_self).sm s7
      have hlr : t0.length = many := rO.len
      have ok0 : ∀ v ∈ t0, okS v := rO.ok
      have e0 : H7 r0 = some (.tup (t0.map vOf)) := rO.at_
      have eR7 := s7 _ _ eR6
      have k7 : Kp d H2 H7 := k6.trans (Kp.of s7)
      have d7 := dice_sm d6 s7
      clear rO ok6 s7 k6 d6 eR6
      walk_at "g"
      refine w_roll (by decide) (by decide) k7 d7 fun n8 H8 n0 n1 k8 k8' d8 => ?_
      replace eR7 := k8' _ _ nR eR7
      replace e0 := kp_tup k8' d7 e0
      clear k8' k7 d7
      walk_at "g"
      refine w_lcRp ⟨n0, by omega⟩ fun D hD => ?_
      obtain ⟨q1, q2, q3, nD, fD, eD⟩ := newl (o := .lst []) k8 d8 hD rfl
      refine ⟨fun j H' => ∃ xs : List Int, xs.length = j ∧ Byt xs ∧ H' D = some (.lst (xs.map V.int)) ∧ Kp d H2 H' ∧ Kp d H8 H' ∧ Dice H' d, ⟨[], rfl, (fun r hr => absurd hr List.not_mem_nil), eD, q1, q2, q3⟩, ?_, ?_⟩
      · rintro j H9 hj ⟨xs, rfl, okx, e9, k9, k9', d9⟩
        walk_at "g"
        refine ⟨rfl, ?_⟩
        walk_at "g"
        refine w_roll (by decide) (by decide) k9 d9 fun z1 Ha z10 z11 ka ka' da => ?_
        replace e9 := ka' _ _ nD e9
        replace k9' := k9'.trans ka'
        walk_at "g"
        refine w_roll (by decide) (by decide) ka da fun z2 Hb z20 z21 kb kb' db => ?_
        replace e9 := kb' _ _ nD e9
        replace k9' := k9'.trans kb'
        walk_at "g"
        intro L hL
        have nLD : D ≠ L := ne_of_none e9 hL
        generalize hX : upd Hb L _ = Hc
        obtain ⟨kc, kc', dc, nL, _, eL⟩ := newl kb db hL hX
        clear hX
        replace e9 := kc' _ _ nD e9
        replace k9' := k9'.trans kc'
        walk_at "g"
        refine w_roll (by decide) (by decide) kc dc fun z3 Hd z30 z31 kd kd' de => ?_
        replace e9 := kd' _ _ nD e9
        replace k9' := k9'.trans kd'
        obtain ⟨y, hy, ey⟩ := atI_map (f := fun n => V.int n) (ls := [z1, z2]) z30 z31
        refine w_ixL (kd' _ _ nL eL) ey ?_
        refine ⟨_, e9, by rw [List.length_map]; exact Nat.lt_of_lt_of_le (by omega : xs.length < 1000) (by decide), xs ++ [y], by rw [List.length_append]; rfl, fun u hu => ?_, by rw [upd_same, List.map_append]; rfl, kp_wr kd fD, kp_wr k9' hD, dice_wr de nD⟩
        rcases List.mem_append.mp hu with h | h
        · exact okx u h
        · rw [List.mem_singleton.mp h]
          simp only [List.mem_cons, List.not_mem_nil, or_false] at hy
          rcases hy with rfl | rfl <;> omega
      · rintro H9 ⟨xs, hxs, okx, e9, k9, k9', d9⟩
        replace eR7 := k9' _ _ nR eR7
        replace e0 := kp_tup k9' d8 e0
        have hx14 : xs.length ≤ 13 := by omega
        clear k9' k8 d8 q1 q2 q3 eD hD hxs
        walk_at "g"
        refine ⟨D, _, rfl, .inl ⟨SqL.of e9, fun dr hdr => ?_⟩⟩
        generalize hX : upd H9 dr _ = Ha
        obtain ⟨ka, ka', da, ndr, _, edr⟩ := newl k9 d9 hdr hX
        clear hX
        replace eR7 := ka' _ _ nR eR7
        replace e0 := kp_tup ka' d9 e0
        clear ka' k9 d9 e9 hdr
        walk_at "g"
        refine w_ixL eR7 (show atI _ ((0 : Nat) : Int) = _ from atI_nat rfl) ?_
        walk_at "g"
        refine w_recOf (SqT.of e0) ok0 (by omega) fun p1 Hb sb nb eb => ?_
        have hrl : (recR t0).length ≤ 50 := recR_len ok0 (by omega)
        have hrb : Byt (recR t0) := recR_byt fun v hv => (ok0 v hv).1
        walk_at "g"
        refine ⟨p1, _, rfl, .inr (SqT.of eb), fun ct hct => ?_⟩
        generalize hX : upd Hb ct _ = Hc
        obtain ⟨kc, kc', dc, nct, _, ec⟩ := newl (ka.trans (Kp.of sb)) (dice_sm da sb) hct hX
        clear hX
        replace edr := kp_tup kc' (dice_sm da sb) (sb _ _ edr)
        clear kc' ka da sb nb eb hct e0 eR7
        generalize recR t0 = rec at ec hrl hrb
        walk_at "g"
        refine ⟨_, _, rfl, .inl (SqL.of ec), ?_⟩
        rw [List.length_map]
        walk_at "g"
        refine w_roll (by omega) (by omega) kc dc fun pl Hd pl0 pl1 kd kd' dd2 => ?_
        obtain ⟨pn, rfl⟩ := Int.eq_ofNat_of_zero_le pl0
        replace ec := kd' _ _ nct ec
        replace edr := kp_tup kd' dc edr
        clear kd' kc dc
        walk_at "g"
        refine ⟨ct, _, rfl, SqL.of ec, fun p1 hp1 => ?_⟩
        rw [cut_take2, ← List.map_take]
        generalize hX : upd Hd p1 _ = He
        obtain ⟨ke, ke', de, n1, _, e1⟩ := newl kd dd2 hp1 hX
        clear hX
        replace ec := ke' _ _ nct ec
        replace edr := kp_tup ke' dd2 edr
        clear ke' kd dd2 hp1
        walk_at "g"
        refine w_roll (by decide) (by decide) ke de fun z Hf z0 z1 kf kf' df => ?_
        replace ec := kf' _ _ nct ec
        replace e1 := kf' _ _ n1 e1
        replace edr := kp_tup kf' de edr
        clear kf' ke de
        walk_at "g"
        intro p2 hp2
        generalize hX : upd Hf p2 _ = Hg
        obtain ⟨kg, kg', dg, n2, _, e2⟩ := newl kf df hp2 hX
        clear hX
        replace ec := kg' _ _ nct ec
        replace e1 := kg' _ _ n1 e1
        replace edr := kp_tup kg' df edr
        clear kg' kf df hp2
        walk_at "g"
        refine w_roll (by decide) (by decide) kg dg fun m Hh m0 m1 kh kh' dh => ?_
        replace ec := kh' _ _ nct ec
        replace e1 := kh' _ _ n1 e1
        replace e2 := kh' _ _ n2 e2
        replace edr := kp_tup kh' dg edr
        clear kh' kg dg
        refine ⟨p2, m, _, rfl, rfl, e2, by omega, by omega, Nat.le_trans (by show 1 * m.toNat ≤ 1000; omega) (by decide), fun p3 hp3 => ?_⟩
        rw [rep_one, ← List.map_replicate]
        generalize hX : upd Hh p3 _ = Hi
        obtain ⟨ki, ki', di, n3, _, e3⟩ := newl kh dh hp3 hX
        clear hX
        replace ec := ki' _ _ nct ec
        replace e1 := ki' _ _ n1 e1
        replace edr := kp_tup ki' dh edr
        clear ki' kh dh hp3 e2
        walk_at "g"
        refine ⟨p1, p3, _, _, rfl, rfl, e1, e3, Nat.le_trans (by rw [List.length_map, List.length_map, List.length_take, List.length_replicate]; omega : _ ≤ 1000) (by decide), fun p4 hp4 => ?_⟩
        rw [← List.map_append]
        generalize hX : upd Hi p4 _ = Hj
        obtain ⟨kj, kj', dj, n4, _, e4⟩ := newl ki di hp4 hX
        clear hX
        replace ec := kj' _ _ nct ec
        replace edr := kp_tup kj' di edr
        clear kj' ki di hp4 e1 e3
        walk_at "g"
        refine w_roll (by decide) (by decide) kj dj fun y Hk y0 y1 kk kk' dk => ?_
        replace ec := kk' _ _ nct ec
        replace e4 := kk' _ _ n4 e4
        replace edr := kp_tup kk' dj edr
        clear kk' kj dj
        walk_at "g"
        obtain ⟨yn, rfl⟩ := Int.eq_ofNat_of_zero_le y0
        rw [show ((pn : Int) + (yn : Int)) = ((pn + yn : Nat) : Int) from rfl]
        refine ⟨ct, _, rfl, SqL.of ec, fun p5 hp5 => ?_⟩
        rw [cut_drop, ← List.map_drop]
        generalize hX : upd Hk p5 _ = Hl
        obtain ⟨kl, kl', dl, n5, _, e5⟩ := newl kk dk hp5 hX
        clear hX
        replace e4 := kl' _ _ n4 e4
        replace edr := kp_tup kl' dk edr
        clear kl' kk dk hp5 ec
        walk_at "g"
        refine ⟨p4, p5, _, _, rfl, rfl, e4, e5, Nat.le_trans (by rw [List.length_map, List.length_map, List.length_append, List.length_take, List.length_replicate, List.length_drop]; omega : _ ≤ 1000) (by decide), fun p6 hp6 => ?_⟩
        rw [← List.map_append]
        have hbt : Byt (rec.take pn ++ List.replicate m.toNat z ++ rec.drop (pn + yn)) ∧ (rec.take pn ++ List.replicate m.toNat z ++ rec.drop (pn + yn)).length ≤ 200 := by
          refine ⟨fun u hu => ?_, by rw [List.length_append, List.length_append, List.length_take, List.length_replicate, List.length_drop]; omega⟩
          rcases List.mem_append.mp hu with hu | hu
          · rcases List.mem_append.mp hu with hu | hu
            · exact hrb u (List.mem_of_mem_take hu)
            · rw [(List.mem_replicate.mp hu).2]; omega
          · exact hrb u (List.mem_of_mem_drop hu)
        generalize rec.take pn ++ List.replicate m.toNat z ++ rec.drop (pn + yn) = bl at hbt
        generalize hX : upd Hl p6 _ = Hm
        obtain ⟨km, km', dm, n6, _, e6⟩ := newl kl dl hp6 hX
        clear hX
        replace edr := kp_tup km' dl edr
        clear km' kl dl hp6 e4 e5 hrb hrl
        walk_at "g"
        refine ⟨p6, _, rfl, .inl ⟨SqL.of e6, fun bt hbt' => ?_⟩⟩
        generalize hX : upd Hm bt _ = Hn
        obtain ⟨kn, kn', dn, _, _, ebt⟩ := newl km dm hbt' hX
        clear hX
        replace edr := kp_tup kn' dm edr
        clear kn' km dm hbt' e6
        walk_at "g"
        intro L hL
        generalize hX : upd Hn L _ = Ho
        obtain ⟨ko, ko', dO, _, _, eL⟩ := newl kn dn hL hX
        clear hX
        replace edr := kp_tup ko' dn edr
        replace ebt := kp_tup ko' dn ebt
        have go := g.kp hd ko dO
        clear ko' kn dn hL ko dO
        walk_at "g"
        refine w_forL (SqL.of eL) (fun i σ Hc => Good Pt p dcs Hc ∧ Hc L = some (.lst [.ref dr, .ref bt]) ∧ Hc dr = some (.tup (xs.map V.int)) ∧ Hc bt = some (.tup (bl.map V.int)) ∧
            ∃ w15 w16 : Option V, σ = [some (.ref a), some (.ref d), some (.int (many : Int)), some (.ref R), v4, v5, u6, u7, u8, u9, u10, some (.ref dr), some (.ref ct), some (.int (pn : Int)), some (.ref bt), w15, w16, v17, v18])
          ⟨go, eL, edr, ebt, v15, v16, rfl⟩ (fun i σ Hc _ h => SqL.of h.2.1) ?_ ?_
        · rintro i x σ Hp hi ⟨gp, eL, edr, ebt, w15, w16, rfl⟩
          obtain ⟨da, dat, rfl, eda, byt, hlen⟩ : ∃ (da : Addr) (dat : List Int), x = .ref da ∧ Hp da = some (.tup (dat.map V.int)) ∧ Byt dat ∧ dat.length ≤ 200 := by
            match i, hi with
            | 0, hi => cases hi; exact ⟨dr, xs, rfl, edr, okx, by omega⟩
            | 1, hi => cases hi; exact ⟨bt, bl, rfl, ebt, hbt.1, hbt.2⟩
            | n + 2, hi => cases hi
          walk_at "g"
          refine ⟨gp.tab, fun H3 x3 t3 => ?_⟩
          replace gp := gp.ext x3 t3
          replace eL := ext_lst2 x3 eL
          replace edr := ext_tup2 x3 edr
          replace ebt := ext_tup2 x3 ebt
          replace eda := ext_tup2 x3 eda
          clear x3 t3
          refine w_lamT ?_
          walk_at "g"
          refine w_toldRow W.x_RF (SqT.of eda) (by omega) byt fun v H4 s4 t4 => ?_
          replace gp := gp.sm s4
          replace eL := s4 _ _ eL
          replace edr := s4 _ _ edr
          replace ebt := s4 _ _ ebt
          replace eda := s4 _ _ eda
          clear s4
          refine w_gname ?_
          refine w_seq ?_
          refine w_ifTold rfl rfl (SqT.of eda) t4 (fun p r R e ok fr hl gv => w_recOfL (SqT.of e) (okL_rec ok (by rw [fr]; omega)) (by omega) (by rw [fr]; omega) gv) fun H5 s5 => ?_
          replace gp := gp.sm s5
          replace eL := s5 _ _ eL
          replace edr := s5 _ _ edr
          replace ebt := s5 _ _ ebt
          replace eda := s5 _ _ eda
          clear s5 t4
          walk_at "g"
          refine ⟨gp.tab, fun H6 x3 t3 => ?_⟩
          replace gp := gp.ext x3 t3
          replace eL := ext_lst2 x3 eL
          replace edr := ext_tup2 x3 edr
          replace ebt := ext_tup2 x3 ebt
          replace eda := ext_tup2 x3 eda
          clear x3 t3
          refine w_lamT ?_
          walk_at "g"
          refine w_toldKey W.x_RF (SqT.of eda) (by omega) byt fun v H7 s4 t4 => ?_
          replace gp := gp.sm s4
          replace eL := s4 _ _ eL
          replace edr := s4 _ _ edr
          replace ebt := s4 _ _ ebt
          replace eda := s4 _ _ eda
          clear s4
          refine w_gname ?_
          refine w_ifTold rfl rfl (SqT.of eda) t4 (fun p r R e ok fr hl gv => w_keyOfL (SqT.of e) (okL_key ok (by rw [fr]; omega)) (by rw [fr]; omega) gv) fun H8 s5 => ?_
          exact ⟨gp.sm s5, s5 _ _ eL, s5 _ _ edr, s5 _ _ ebt, _, _, rfl⟩
        · rintro σ Hp ⟨gp, eL, edr, ebt, w15, w16, rfl⟩
          have dp := gp.dice d hd
          clear eL ebt go
          walk_at "g"
          rw [show (10 : Int) ^ Int.toNat 14 = 100000000000000 by decide]
          refine w_roll (by decide) (by decide) (Kp.refl d Hp) dp fun num Ha num0 num1 ka _ da => ?_
          replace edr := kp_tup ka dp edr
          replace gp := gp.kp hd ka da
          clear ka dp
          obtain ⟨nn, rfl⟩ := Int.eq_ofNat_of_zero_le num0
          walk_at "g"
          refine w_roll (by decide) (by decide) (Kp.refl d Ha) da fun wd Hb wd0 wd1 kb _ db => ?_
          replace edr := kp_tup kb da edr
          replace gp := gp.kp hd kb db
          clear kb da
          obtain ⟨wn, rfl⟩ := Int.eq_ofNat_of_zero_le wd0
          walk_at "g"
          rw [show (6 : Int) + (wn : Int) = ((6 + wn : Nat) : Int) by omega]
          refine ⟨_, _, rfl, ?_⟩
          have hpow : (nn : Int) < 256 ^ (6 + wn) := by
            have h0 : (256 : Int) ^ (6 + 0) = 281474976710656 := by decide
            have h1 : (256 : Int) ^ (6 + 1) = 72057594037927936 := by decide
            have h2 : (256 : Int) ^ (6 + 2) = 18446744073709551616 := by decide
            have hw : wn = 0 ∨ wn = 1 ∨ wn = 2 := by omega
            rcases hw with rfl | rfl | rfl <;> omega
          walk_at "g"
          refine ⟨_, 6 + wn, rfl, by omega, fun p1 Hc sc _ ec => ?_⟩
          replace edr := sc _ _ edr
          replace gp := gp.sm sc
          walk_at "g"
          refine ⟨p1, _, rfl, SqT.of ec, ?_⟩
          rw [from_fixed _ _ (by omega) hpow]
          walk_at "g"
          rw [decide_eq_true rfl, Bool.not_true]
          clear sc ec
          walk_at "g"
          refine ⟨_, 6 + wn, rfl, by omega, fun p1 Hd sc _ ec => ?_⟩
          replace edr := sc _ _ edr
          replace gp := gp.sm sc
          walk_at "g"
          refine ⟨_, _, rfl, .inr (SqT.of ec), ?_⟩
          rw [List.length_map, fixed_len]
          walk_at "g"
          rw [decide_eq_true rfl, Bool.not_true]
          clear sc ec
          walk_at "g"
          have hn200 : nn < 128 ^ 200 := Nat.lt_of_lt_of_le (by omega : nn < 100000000000000) (by decide)
          have h7 : (128 : Nat) ^ (6 + 1) = 562949953421312 := by decide
          have hnl : (nat7 nn).length ≤ 7 := nat7_len 6 nn (by omega)
          have hnn : nat7 nn ≠ [] := fun z => by rw [nat7] at z; split at z <;> cases z
          refine ⟨nn, rfl, hn200, fun p1 He sc _ ec => ?_⟩
          replace edr := sc _ _ edr
          replace gp := gp.sm sc
          walk_at "g"
          refine w_catInts (SqT.of ec) (SqT.of edr) hnn (by omega) fun p2 Hf sf ef => ?_
          replace edr := sf _ _ edr
          replace gp := gp.sm sf
          clear sc ec sf
          walk_at "g"
          refine ⟨p2, _, 0, rfl, ef, by rw [List.length_append]; omega, ?_⟩
          rw [List.drop_zero, nf_nat7 nn true xs (.inl rfl)]
          intro p3 Hg sg _ eg
          rw [Nat.zero_add] at eg
          replace edr := sg _ _ edr
          replace gp := gp.sm sg
          clear sg ef
          walk_at "g"
          refine ⟨nn, rfl, hn200, fun p1 Hh sc _ ec => ?_⟩
          replace eg := sc _ _ eg
          replace edr := sc _ _ edr
          replace gp := gp.sm sc
          walk_at "g"
          refine ⟨_, _, rfl, .inr (SqT.of ec), ?_⟩
          rw [List.length_map]
          walk_at "g"
          intro p5 hp5
          have sx := same_new hp5 (.tup [.int (nn : Int), .int ((nat7 nn).length : Int)])
          have ex : upd Hh p5 (.tup [.int (nn : Int), .int ((nat7 nn).length : Int)]) p5 = some (.tup [.int (nn : Int), .int ((nat7 nn).length : Int)]) := upd_same
          generalize upd Hh p5 (.tup [.int (nn : Int), .int ((nat7 nn).length : Int)]) = Hi at sx ex
          replace eg := sx _ _ eg
          replace edr := sx _ _ edr
          replace gp := gp.sm sx
          refine w_neRowS (r := [.num (nn : Int), .num ((nat7 nn).length : Int)]) (SqT.of eg) (SqT.of ex) (num_okD [_, _]) ?_
          clear eg ex sx sc ec hp5
          walk_at "g"
          refine ⟨dr, xs, rfl, SqT.of edr, fun p1 Hj sc _ ec => ?_⟩
          replace edr := sc _ _ edr
          replace gp := gp.sm sc
          clear sc
          walk_at "g"
          refine ⟨dr, xs, rfl, SqT.of edr, fun p2 Hk sc _ ec2 => ?_⟩
          replace ec := sc _ _ ec
          replace gp := gp.sm sc
          clear sc
          refine w_neIntsS (SqT.of ec) (SqT.of ec2) ?_
          clear ec ec2 edr
          walk_at "g"
          refine ⟨gp.tab, fun H3 x3 t3 => ?_⟩
          replace gp := gp.ext x3 t3
          clear x3 t3
          refine w_lamT ?_
          walk_at "g"
          intro p1 hp1
          have sx := same_new hp1 (.tup [.int 128])
          have ex : upd H3 p1 (.tup [.int 128]) p1 = some (.tup [.int 128]) := upd_same
          generalize upd H3 p1 (.tup [.int 128]) = H4 at sx ex
          replace gp := gp.sm sx
          have dp := gp.dice d hd
          clear sx hp1
          walk_at "g"
          refine w_roll (by decide) (by decide) (Kp.refl d H4) dp fun m H5 m0 m1 ka _ da => ?_
          replace ex := kp_tup ka dp ex
          replace gp := gp.kp hd ka da
          clear ka dp
          walk_at "g"
          refine w_repInts (SqT.of ex) (by omega) (by omega) fun p2 H6 s6 e6 => ?_
          replace gp := gp.sm s6
          walk_at "g"
          intro p3 hp3
          have sx := same_new hp3 (.tup [.int 0])
          have ex : upd H6 p3 (.tup [.int 0]) p3 = some (.tup [.int 0]) := upd_same
          generalize upd H6 p3 (.tup [.int 0]) = H7 at sx ex
          replace gp := gp.sm sx
          replace e6 := sqT_same e6 sx
          clear sx hp3 s6
          have hneg : nf true (List.replicate (1 + m).toNat 128 ++ [0]) = none := by
            have h5 : ∀ k < 6, 1 ≤ k → nf true (List.replicate k 128 ++ [0]) = none := by decide +kernel
            exact h5 _ (by omega) (by omega)
          refine w_catInts (e := [0]) e6 (SqT.of ex) (fun z => by have := congrArg List.length z; rw [List.length_replicate] at this; have h0 : ([] : List Int).length = 0 := rfl; omega) (by rw [List.length_replicate]; show _ + 1 ≤ 1000; omega) fun p4 H8 s8 e8 => ?_
          replace gp := gp.sm s8
          clear s8 e6 ex
          walk_at "g"
          refine ⟨p4, _, 0, rfl, e8, by rw [List.length_append, List.length_replicate]; show _ + 1 ≤ 900; omega, ?_⟩
          rw [List.drop_zero, hneg]
          intro H9 s9
          refine ⟨true, W.x_RF, fun _ => ?_, fun z => nomatch z⟩
          walk_at "g"
          refine w_neXX rf_ok ?_
          walk_at "g"
          exact ⟨gp.sm s9, _, _, _, _, _, _, _, _, _, _, _, _, _, _, _, _, _, _, rfl⟩
  · rintro σ H2 ⟨g, v1, v2, v3, v4, v5, v6, v7, v8, v9, v10, v11, v12, v13, v14, v15, v16, v17, v18, rfl⟩
    walk_at "g"
    intro p1 hp1
    have sx := same_new hp1 (.tup [.int 255, .int 255])
    have ex : upd H2 p1 (.tup [.int 255, .int 255]) p1 = some (.tup [.int 255, .int 255]) := upd_same
    generalize upd H2 p1 (.tup [.int 255, .int 255]) = H3 at sx ex
    replace g := g.sm sx
    clear sx hp1
    walk_at "g"
    refine ⟨p1, [255, 255], rfl, SqT.of ex, by decide, ?_⟩
    rw [show upper [255, 255] = none by decide]
    clear ex
    walk_at "g"
    refine ⟨rfl, ?_⟩
    rw [decide_eq_true rfl, Bool.not_true]
    walk_at "g"
    intro p1 hp1
    have sx := same_new hp1 (.tup [.int 1, .int 255])
    have ex : upd H3 p1 (.tup [.int 1, .int 255]) p1 = some (.tup [.int 1, .int 255]) := upd_same
    generalize upd H3 p1 (.tup [.int 1, .int 255]) = H4 at sx ex
    replace g := g.sm sx
    clear sx hp1
    walk_at "g"
    refine ⟨p1, [1, 255], rfl, SqT.of ex, by decide, ?_⟩
    rw [show upper [1, 255] = some [2] by decide]
    intro p2 H5 s5 _ e5
    replace g := g.sm s5
    clear s5 ex
    walk_at "g"
    intro p3 hp3
    have sx := same_new hp3 (.tup [.int 2])
    have ex : upd H5 p3 (.tup [.int 2]) p3 = some (.tup [.int 2]) := upd_same
    generalize upd H5 p3 (.tup [.int 2]) = H6 at sx ex
    replace g := g.sm sx
    refine w_neIntsS (d := [2]) (SqT.of (sx _ _ e5)) (SqT.of ex) ?_
    clear sx ex e5 hp3
    walk_at "g"
    intro p1 hp1
    have sx := same_new hp1 (.tup [])
    have ex : upd H6 p1 (.tup []) p1 = some (.tup []) := upd_same
    generalize upd H6 p1 (.tup []) = H7 at sx ex
    replace g := g.sm sx
    clear sx hp1
    walk_at "g"
    refine ⟨p1, [], rfl, SqT.of ex, by decide, ?_⟩
    rw [show upper [] = none by decide]
    clear ex
    walk_at "g"
    refine ⟨rfl, ?_⟩
    rw [decide_eq_true rfl, Bool.not_true]
    walk_at "g"
    refine ⟨g.tab, fun H8 x3 t3 => ?_⟩
    replace g := g.ext x3 t3
    clear x3 t3
    refine w_lamT ?_
    walk_at "g"
    refine ⟨99, rfl, ?_⟩
    rw [show chr 99 = none by decide]
    refine ⟨true, W.x_RF, fun _ => ?_, fun z => nomatch z⟩
    walk_at "g"
    refine w_neXX rf_ok ?_
    walk_at "g"
    refine ⟨122, rfl, fun _ => ?_, fun h => absurd (by decide) h⟩
    walk_at "g"
    refine ⟨_, rfl, ?_⟩
    rw [chr_sgn (by decide)]
    walk_at "g"
    rw [show decide ([122] = (Str.ofString "z").1.toList) = true by decide +kernel, Bool.not_true]
    walk_at "g"
    refine ⟨g.tab, fun H9 x3 t3 => ?_⟩
    replace g := g.ext x3 t3
    clear x3 t3
    refine w_lamT ?_
    walk_at "g"
    refine ⟨[97, 9], rfl, fun h => absurd (h 9 (by simp)) (by decide), fun _ => ?_⟩
    refine ⟨false, W.x_TR, ?_, fun _ => ⟨W.x_TT, ?_⟩⟩
    · intro z; cases z
    walk_at "g"
    refine w_neXX te_ok ?_
    walk_at "g"
    refine ⟨[97, 32, 98], rfl, fun _ => ?_, fun h => absurd (by decide) h⟩
    walk_at "g"
    rw [show decide ([97, 32, 98] = (Str.ofString "a b").1.toList) = true by decide +kernel, Bool.not_true]
    walk_at "g"
    refine w_andV ?_
    walk_at "g"
    intro p1 hp1
    have sx := same_new hp1 (.tup [.int 1])
    have ex : upd H9 p1 (.tup [.int 1]) p1 = some (.tup [.int 1]) := upd_same
    generalize upd H9 p1 (.tup [.int 1]) = Ha at sx ex
    replace g := g.sm sx
    clear sx hp1
    walk_at "g"
    refine ⟨p1, [1], 0, rfl, SqT.of ex, by decide, ?_⟩
    rw [List.drop_zero, show vfr [1] = some (.non, 1) by rfl]
    intro p2 Hb sb _ eb
    replace g := g.sm sb
    clear sb ex
    walk_at "g"
    intro p3 hp3
    have sx := same_new hp3 (.tup [.non, .int 1])
    have ex : upd Hb p3 (.tup [.non, .int 1]) p3 = some (.tup [.non, .int 1]) := upd_same
    generalize upd Hb p3 (.tup [.non, .int 1]) = Hc at sx ex
    replace g := g.sm sx
    refine w_eqRow (r := [.non, .num 1]) (t := [.non, .num 1]) (SqT.of (sx _ _ eb)) (SqT.of ex) (fun w hw => ?_) (fun w hw => ?_) ?_
    · simp only [List.mem_cons, List.not_mem_nil, or_false] at hw
      rcases hw with rfl | rfl <;> trivial
    · simp only [List.mem_cons, List.not_mem_nil, or_false] at hw
      rcases hw with rfl | rfl <;> trivial
    rw [decide_eq_true rfl]
    clear sx ex eb hp3
    refine ⟨true, rfl, ?_⟩
    walk_at "g"
    refine ⟨g.tab, fun Hd x3 t3 => ?_⟩
    refine w_lamT ?_
    walk_at "g"
    intro p1 hp1
    have ex : upd Hd p1 (.tup [.int 9]) p1 = some (.tup [.int 9]) := upd_same
    generalize upd Hd p1 (.tup [.int 9]) = He at ex
    walk_at "g"
    refine ⟨p1, [9], 0, rfl, SqT.of ex, by decide, ?_⟩
    rw [List.drop_zero, show vfr [9] = none by rfl]
    intro Hf sf
    refine ⟨true, W.x_RF, fun _ => ?_, fun z => nomatch z⟩
    walk_at "g"
    refine w_eqXX rf_ok ?_
    exact q _
end
end K05
end

section
-- part K05XI0
set_option Elab.async false
set_option linter.all false
set_option maxRecDepth 100000
set_option maxHeartbeats 0
namespace K05
open PySem PySem.Spec PyProof.Rows L2 Fw M5
def fnD : List He.DefD := [⟨("sign_number", none), "sign_number", "sign_number", defArgs s_sign_number, defBody s_sign_number, defScope s_sign_number, [], []⟩,
  ⟨("check_text", none), "check_text", "check_text", defArgs s_check_text, defBody s_check_text, defScope s_check_text, [], []⟩,
  ⟨("fixed", none), "fixed", "fixed", defArgs s_fixed, defBody s_fixed, defScope s_fixed, [], []⟩,
  ⟨("number_from", none), "number_from", "number_from", defArgs s_number_from, defBody s_number_from, defScope s_number_from, [], []⟩,
  ⟨("key_of_value", none), "key_of_value", "key_of_value", defArgs s_key_of_value, defBody s_key_of_value, defScope s_key_of_value, [], []⟩,
  ⟨("key_of", none), "key_of", "key_of", defArgs s_key_of, defBody s_key_of, defScope s_key_of, [], []⟩,
  ⟨("values_from_key", none), "values_from_key", "values_from_key", defArgs s_values_from_key, defBody s_values_from_key, defScope s_values_from_key, [], []⟩,
  ⟨("value_from_key", none), "value_from_key", "value_from_key", defArgs s_value_from_key, defBody s_value_from_key, defScope s_value_from_key, [], []⟩,
  ⟨("text_from_key", none), "text_from_key", "text_from_key", defArgs s_text_from_key, defBody s_text_from_key, defScope s_text_from_key, [], []⟩,
  ⟨("sign_at", none), "sign_at", "sign_at", defArgs s_sign_at, defBody s_sign_at, defScope s_sign_at, [], []⟩,
  ⟨("natural", none), "natural", "natural", defArgs s_natural, defBody s_natural, defScope s_natural, [], []⟩,
  ⟨("natural_from", none), "natural_from", "natural_from", defArgs s_natural_from, defBody s_natural_from, defScope s_natural_from, [], []⟩,
  ⟨("record_of", none), "record_of", "record_of", defArgs s_record_of, defBody s_record_of, defScope s_record_of, [], []⟩,
  ⟨("row_from", none), "row_from", "row_from", defArgs s_row_from, defBody s_row_from, defScope s_row_from, [], []⟩,
  ⟨("value_from_record", none), "value_from_record", "value_from_record", defArgs s_value_from_record, defBody s_value_from_record, defScope s_value_from_record, [], []⟩,
  ⟨("checksum", none), "checksum", "checksum", defArgs s_checksum, defBody s_checksum, defScope s_checksum, [], []⟩,
  ⟨("upper_key", none), "upper_key", "upper_key", defArgs s_upper_key, defBody s_upper_key, defScope s_upper_key, [], []⟩,
  ⟨("_law_dice", none), "_law_dice", "_law_dice", defArgs s__law_dice, defBody s__law_dice, defScope s__law_dice, [], []⟩,
  ⟨("_law_roll", none), "_law_roll", "_law_roll", defArgs s__law_roll, defBody s__law_roll, defScope s__law_roll, [], []⟩,
  ⟨("_law_rounds", none), "_law_rounds", "_law_rounds", defArgs s__law_rounds, defBody s__law_rounds, defScope s__law_rounds, [], []⟩,
  ⟨("_law_told", none), "_law_told", "_law_told", defArgs s__law_told, defBody s__law_told, defScope s__law_told, [], []⟩,
  ⟨("_law_value", none), "_law_value", "_law_value", defArgs s__law_value, defBody s__law_value, defScope s__law_value, [], []⟩,
  ⟨("_law_rank", none), "_law_rank", "_law_rank", defArgs s__law_rank, defBody s__law_rank, defScope s__law_rank, [], []⟩,
  ⟨("_law_ranks", none), "_law_ranks", "_law_ranks", defArgs s__law_ranks, defBody s__law_ranks, defScope s__law_ranks, [], []⟩,
  ⟨("_law_sum", none), "_law_sum", "_law_sum", defArgs s__law_sum, defBody s__law_sum, defScope s__law_sum, [], []⟩,
  ⟨("law", none), "law", "law", defArgs s_law, defBody s_law, defScope s_law, [], []⟩]
def faD : List He.Fa := [.glo "sign_number", .glo "check_text", .glo "fixed", .glo "number_from", .glo "key_of_value", .glo "key_of", .glo "values_from_key", .glo "value_from_key", .glo "text_from_key", .glo "sign_at", .glo "natural", .glo "natural_from", .glo "record_of", .glo "row_from", .glo "value_from_record", .glo "checksum", .glo "upper_key", .glo "_law_dice", .glo "_law_roll", .glo "_law_rounds", .glo "_law_told", .glo "_law_value", .glo "_law_rank", .glo "_law_ranks", .glo "_law_sum", .glo "law", .glo "TextError", .glo "RecordFault", .free "abs", .free "int", .free "str", .free "len", .free "range", .free "tuple", .free "list", .free "isinstance", .free "sum", .str "ALPHABET" (S alphabet), .int "HIGHEST" 9223372036854775807, .int "NULL_MARK" 1, .int "INT_MARK" 2, .int "TEXT_MARK" 3, .int "TEXT_END" 1, .int "FIRST_SIGN" 2, .int "INT_BYTES" 8, .int "MODULUS" 65521, .exc "TextError", .exc "RecordFault", .exm "RecordFault" "RecordFault" true, .exm "TextError" "RecordFault" false, .exm "TextError" "TextError" true]
def exD (K : PySem.W.Frag) : Bool := He.eqO (PySem.W.nsIn K mainGlobals "accumulate") (some (some (.type "itertools.accumulate")))
abbrev tfD : List He.Defn := [("law", none)]
abbrev R0 : PySem.W.OpenRow := PySem.W.OpenLaw.row PySem.Challenge.rw_tablestack_k05_keys_and_records_as_bytes
abbrev hk0 : PySem.W.Hook := He.hookX 5 faD fnD [] tfD exD
def ob0 (s : PySem.W.SharedT) : He.AlX := He.obsX 5 faD fnD [] tfD exD (HandSHeadRun.getT s)
theorem ob0_eq (s : PySem.W.SharedT) : ob0 s = hk0.obs s.abs := He.obsX_eq (HandSHeadRun.getT_eq s)
def loose0 : List Str := [("TableError" : Str), ("TextError" : Str), ("RecordFault" : Str), ("HIGHEST" : Str), ("ALPHABET" : Str), ("NULL_MARK" : Str), ("INT_MARK" : Str), ("TEXT_MARK" : Str), ("TEXT_END" : Str), ("FIRST_SIGN" : Str), ("INT_BYTES" : Str), ("MODULUS" : Str), ("sign_number" : Str), ("check_text" : Str), ("fixed" : Str), ("number_from" : Str), ("key_of_value" : Str), ("key_of" : Str), ("values_from_key" : Str), ("value_from_key" : Str), ("text_from_key" : Str), ("sign_at" : Str), ("natural" : Str), ("natural_from" : Str), ("record_of" : Str), ("row_from" : Str), ("value_from_record" : Str), ("checksum" : Str), ("upper_key" : Str), ("_law_dice" : Str), ("_law_roll" : Str), ("_law_rounds" : Str), ("_law_told" : Str), ("_law_value" : Str), ("_law_rank" : Str), ("_law_ranks" : Str), ("_law_sum" : Str)]
end K05
end

section
-- part K05XI
set_option Elab.async false
set_option linter.all false
set_option maxRecDepth 100000
set_option maxHeartbeats 2000000
namespace K05
open PySem PySem.Spec PyProof.Rows L2 Fw LamX M5

theorem facts {w : World} {K : PySem.W.Frag} {h : Heap} {mg : Str → Option Value} (X : K.In h) (G : h.Ns mainGlobals mg) (c : He.SaysX faD fnD [] tfD exD w h K) :
    Wz K mg (He.ga K "TextError") (He.ga K "RecordFault") := by
  have d := c.t.d
  have glo : ∀ {x : Str}, (He.Fa.glo x).ok K = true → mg x = some (.ref (He.ga K x)) := fun h => He.glo_ok X G h
  have fre : ∀ {x : Str}, (He.Fa.free x).ok K = true → mg x = none := fun h => He.free_ok X G h
  have st : ∀ {x : Str} {l : List Nat}, (He.Fa.str x (S l)).ok K = true → Ct mg x l := fun h => by
    obtain ⟨t, e⟩ := He.str_ok X G h
    exact ⟨_, e, t, rfl⟩
  have it : ∀ {x : Str} {n : Int}, (He.Fa.int x n).ok K = true → Cin mg x n := fun h => by
    obtain ⟨t, e⟩ := He.int_ok X G h
    exact ⟨_, e, t, rfl⟩
  obtain ⟨xe1TextError, xe2TextError, xe3TextError, xe4TextError⟩ := He.exc_ok (d.fact 46 (f := .exc "TextError") rfl)
  obtain ⟨xe1RecordFault, xe2RecordFault, xe3RecordFault, xe4RecordFault⟩ := He.exc_ok (d.fact 47 (f := .exc "RecordFault") rfl)

  exact {
    n_abs := fre (d.fact 28 (f := .free "abs") rfl)
    n_int := fre (d.fact 29 (f := .free "int") rfl)
    n_str := fre (d.fact 30 (f := .free "str") rfl)
    n_len := fre (d.fact 31 (f := .free "len") rfl)
    n_range := fre (d.fact 32 (f := .free "range") rfl)
    n_tuple := fre (d.fact 33 (f := .free "tuple") rfl)
    n_list := fre (d.fact 34 (f := .free "list") rfl)
    n_isinstance := fre (d.fact 35 (f := .free "isinstance") rfl)
    n_sum := fre (d.fact 36 (f := .free "sum") rfl)
    d_sign_number := by
      obtain ⟨fd, q⟩ := d.def_ 0 (d := ⟨("sign_number", none), "sign_number", "sign_number", defArgs s_sign_number, defBody s_sign_number, defScope s_sign_number, [], []⟩) rfl
      exact ⟨_, fd, q, glo (d.fact 0 (f := .glo "sign_number") rfl)⟩
    d_check_text := by
      obtain ⟨fd, q⟩ := d.def_ 1 (d := ⟨("check_text", none), "check_text", "check_text", defArgs s_check_text, defBody s_check_text, defScope s_check_text, [], []⟩) rfl
      exact ⟨_, fd, q, glo (d.fact 1 (f := .glo "check_text") rfl)⟩
    d_fixed := by
      obtain ⟨fd, q⟩ := d.def_ 2 (d := ⟨("fixed", none), "fixed", "fixed", defArgs s_fixed, defBody s_fixed, defScope s_fixed, [], []⟩) rfl
      exact ⟨_, fd, q, glo (d.fact 2 (f := .glo "fixed") rfl)⟩
    d_number_from := by
      obtain ⟨fd, q⟩ := d.def_ 3 (d := ⟨("number_from", none), "number_from", "number_from", defArgs s_number_from, defBody s_number_from, defScope s_number_from, [], []⟩) rfl
      exact ⟨_, fd, q, glo (d.fact 3 (f := .glo "number_from") rfl)⟩
    d_key_of_value := by
      obtain ⟨fd, q⟩ := d.def_ 4 (d := ⟨("key_of_value", none), "key_of_value", "key_of_value", defArgs s_key_of_value, defBody s_key_of_value, defScope s_key_of_value, [], []⟩) rfl
      exact ⟨_, fd, q, glo (d.fact 4 (f := .glo "key_of_value") rfl)⟩
    d_key_of := by
      obtain ⟨fd, q⟩ := d.def_ 5 (d := ⟨("key_of", none), "key_of", "key_of", defArgs s_key_of, defBody s_key_of, defScope s_key_of, [], []⟩) rfl
      exact ⟨_, fd, q, glo (d.fact 5 (f := .glo "key_of") rfl)⟩
    d_values_from_key := by
      obtain ⟨fd, q⟩ := d.def_ 6 (d := ⟨("values_from_key", none), "values_from_key", "values_from_key", defArgs s_values_from_key, defBody s_values_from_key, defScope s_values_from_key, [], []⟩) rfl
      exact ⟨_, fd, q, glo (d.fact 6 (f := .glo "values_from_key") rfl)⟩
    d_value_from_key := by
      obtain ⟨fd, q⟩ := d.def_ 7 (d := ⟨("value_from_key", none), "value_from_key", "value_from_key", defArgs s_value_from_key, defBody s_value_from_key, defScope s_value_from_key, [], []⟩) rfl
      exact ⟨_, fd, q, glo (d.fact 7 (f := .glo "value_from_key") rfl)⟩
    d_text_from_key := by
      obtain ⟨fd, q⟩ := d.def_ 8 (d := ⟨("text_from_key", none), "text_from_key", "text_from_key", defArgs s_text_from_key, defBody s_text_from_key, defScope s_text_from_key, [], []⟩) rfl
      exact ⟨_, fd, q, glo (d.fact 8 (f := .glo "text_from_key") rfl)⟩
    d_sign_at := by
      obtain ⟨fd, q⟩ := d.def_ 9 (d := ⟨("sign_at", none), "sign_at", "sign_at", defArgs s_sign_at, defBody s_sign_at, defScope s_sign_at, [], []⟩) rfl
      exact ⟨_, fd, q, glo (d.fact 9 (f := .glo "sign_at") rfl)⟩
    d_natural := by
      obtain ⟨fd, q⟩ := d.def_ 10 (d := ⟨("natural", none), "natural", "natural", defArgs s_natural, defBody s_natural, defScope s_natural, [], []⟩) rfl
      exact ⟨_, fd, q, glo (d.fact 10 (f := .glo "natural") rfl)⟩
    d_natural_from := by
      obtain ⟨fd, q⟩ := d.def_ 11 (d := ⟨("natural_from", none), "natural_from", "natural_from", defArgs s_natural_from, defBody s_natural_from, defScope s_natural_from, [], []⟩) rfl
      exact ⟨_, fd, q, glo (d.fact 11 (f := .glo "natural_from") rfl)⟩
    d_record_of := by
      obtain ⟨fd, q⟩ := d.def_ 12 (d := ⟨("record_of", none), "record_of", "record_of", defArgs s_record_of, defBody s_record_of, defScope s_record_of, [], []⟩) rfl
      exact ⟨_, fd, q, glo (d.fact 12 (f := .glo "record_of") rfl)⟩
    d_row_from := by
      obtain ⟨fd, q⟩ := d.def_ 13 (d := ⟨("row_from", none), "row_from", "row_from", defArgs s_row_from, defBody s_row_from, defScope s_row_from, [], []⟩) rfl
      exact ⟨_, fd, q, glo (d.fact 13 (f := .glo "row_from") rfl)⟩
    d_value_from_record := by
      obtain ⟨fd, q⟩ := d.def_ 14 (d := ⟨("value_from_record", none), "value_from_record", "value_from_record", defArgs s_value_from_record, defBody s_value_from_record, defScope s_value_from_record, [], []⟩) rfl
      exact ⟨_, fd, q, glo (d.fact 14 (f := .glo "value_from_record") rfl)⟩
    d_checksum := by
      obtain ⟨fd, q⟩ := d.def_ 15 (d := ⟨("checksum", none), "checksum", "checksum", defArgs s_checksum, defBody s_checksum, defScope s_checksum, [], []⟩) rfl
      exact ⟨_, fd, q, glo (d.fact 15 (f := .glo "checksum") rfl)⟩
    d_upper_key := by
      obtain ⟨fd, q⟩ := d.def_ 16 (d := ⟨("upper_key", none), "upper_key", "upper_key", defArgs s_upper_key, defBody s_upper_key, defScope s_upper_key, [], []⟩) rfl
      exact ⟨_, fd, q, glo (d.fact 16 (f := .glo "upper_key") rfl)⟩
    d__law_dice := by
      obtain ⟨fd, q⟩ := d.def_ 17 (d := ⟨("_law_dice", none), "_law_dice", "_law_dice", defArgs s__law_dice, defBody s__law_dice, defScope s__law_dice, [], []⟩) rfl
      exact ⟨_, fd, q, glo (d.fact 17 (f := .glo "_law_dice") rfl)⟩
    d__law_roll := by
      obtain ⟨fd, q⟩ := d.def_ 18 (d := ⟨("_law_roll", none), "_law_roll", "_law_roll", defArgs s__law_roll, defBody s__law_roll, defScope s__law_roll, [], []⟩) rfl
      exact ⟨_, fd, q, glo (d.fact 18 (f := .glo "_law_roll") rfl)⟩
    d__law_rounds := by
      obtain ⟨fd, q⟩ := d.def_ 19 (d := ⟨("_law_rounds", none), "_law_rounds", "_law_rounds", defArgs s__law_rounds, defBody s__law_rounds, defScope s__law_rounds, [], []⟩) rfl
      exact ⟨_, fd, q, glo (d.fact 19 (f := .glo "_law_rounds") rfl)⟩
    d__law_told := by
      obtain ⟨fd, q⟩ := d.def_ 20 (d := ⟨("_law_told", none), "_law_told", "_law_told", defArgs s__law_told, defBody s__law_told, defScope s__law_told, [], []⟩) rfl
      exact ⟨_, fd, q, glo (d.fact 20 (f := .glo "_law_told") rfl)⟩
    d__law_value := by
      obtain ⟨fd, q⟩ := d.def_ 21 (d := ⟨("_law_value", none), "_law_value", "_law_value", defArgs s__law_value, defBody s__law_value, defScope s__law_value, [], []⟩) rfl
      exact ⟨_, fd, q, glo (d.fact 21 (f := .glo "_law_value") rfl)⟩
    d__law_rank := by
      obtain ⟨fd, q⟩ := d.def_ 22 (d := ⟨("_law_rank", none), "_law_rank", "_law_rank", defArgs s__law_rank, defBody s__law_rank, defScope s__law_rank, [], []⟩) rfl
      exact ⟨_, fd, q, glo (d.fact 22 (f := .glo "_law_rank") rfl)⟩
    d__law_ranks := by
      obtain ⟨fd, q⟩ := d.def_ 23 (d := ⟨("_law_ranks", none), "_law_ranks", "_law_ranks", defArgs s__law_ranks, defBody s__law_ranks, defScope s__law_ranks, [], []⟩) rfl
      exact ⟨_, fd, q, glo (d.fact 23 (f := .glo "_law_ranks") rfl)⟩
    d__law_sum := by
      obtain ⟨fd, q⟩ := d.def_ 24 (d := ⟨("_law_sum", none), "_law_sum", "_law_sum", defArgs s__law_sum, defBody s__law_sum, defScope s__law_sum, [], []⟩) rfl
      exact ⟨_, fd, q, glo (d.fact 24 (f := .glo "_law_sum") rfl)⟩
    e_TextError := ⟨xe1TextError, glo (d.fact 26 (f := .glo "TextError") rfl), xe2TextError, xe3TextError, xe4TextError⟩
    e_RecordFault := ⟨xe1RecordFault, glo (d.fact 27 (f := .glo "RecordFault") rfl), xe2RecordFault, xe3RecordFault, xe4RecordFault⟩
    c_ALPHABET := st (d.fact 37 (f := .str "ALPHABET" (S alphabet)) rfl)
    c_HIGHEST := it (d.fact 38 (f := .int "HIGHEST" 9223372036854775807) rfl)
    c_NULL_MARK := it (d.fact 39 (f := .int "NULL_MARK" 1) rfl)
    c_INT_MARK := it (d.fact 40 (f := .int "INT_MARK" 2) rfl)
    c_TEXT_MARK := it (d.fact 41 (f := .int "TEXT_MARK" 3) rfl)
    c_TEXT_END := it (d.fact 42 (f := .int "TEXT_END" 1) rfl)
    c_FIRST_SIGN := it (d.fact 43 (f := .int "FIRST_SIGN" 2) rfl)
    c_INT_BYTES := it (d.fact 44 (f := .int "INT_BYTES" 8) rfl)
    c_MODULUS := it (d.fact 45 (f := .int "MODULUS" 65521) rfl)
    x_RF := He.exm_ok (d.fact 48 (f := .exm "RecordFault" "RecordFault" true) rfl)
    x_TR := He.exm_ok (d.fact 49 (f := .exm "TextError" "RecordFault" false) rfl)
    x_TT := He.exm_ok (d.fact 50 (f := .exm "TextError" "TextError" true) rfl)
    g_accumulate := PySem.W.mg_of X G (He.eqO_ok c.more)
  }
end K05
end

section
-- part K05XJ
set_option Elab.async false
set_option linter.all false
set_option maxRecDepth 100000
set_option maxHeartbeats 0
namespace K05
open PySem PySem.Spec PyProof.Rows L2 Fw M5
theorem run0 (w : World) : HandSHeadRun.RunEqI R0 (PySem.W.view R0.prog [0, 41]) hk0 ob0 4000 loose0 w := by
  unfold HandSHeadRun.RunEqI
  kernel_rfl
end K05
end

section
-- part K05XK
set_option Elab.async false
set_option linter.all false
set_option maxRecDepth 100000
set_option maxHeartbeats 2000000
namespace K05
open PySem PySem.Spec PyProof.Rows L2 Fw LamX M5
theorem law_at {w : World} {h : Heap} {K : PySem.W.Frag} {mg : Str → Option Value} {fa : Addr} (X : K.In h) (G : h.Ns mainGlobals mg) (hfa : mg ("law" : Str) = some (.ref fa)) (c : He.SaysX faD fnD [] tfD exD w h K) :
    LawAtS PySem.Challenge.rw_tablestack_k05_keys_and_records_as_bytes w K (L2.CX (PySem.Challenge.rw_tablestack_k05_keys_and_records_as_bytes).prog w) 8 63 "script" mg fa h := by
  have W := facts X G c
  have d := c.t.d
  obtain ⟨fd, F⟩ := d.defs (d := ⟨("law", none), "law", "law", defArgs s_law, defBody s_law, defScope s_law, [], []⟩) (by repeat (first | exact List.mem_cons_self | apply List.mem_cons_of_mem))
  have e := hfa.symm.trans (He.glo_ok X G (d.facts (f := .glo "law") (by repeat (first | exact List.mem_cons_self | apply List.mem_cons_of_mem))))
  cases e
  have b := FunD.bindsA (ps := ["script"]) F fun _ _ _ _ _ _ us hl => match us, hl with | [_], _ => rfl
  have hcode : fd.code = .ref (He.cT K ("law", none)).1 := by
    obtain ⟨oc, od, dV, kV, doc, pm, an, cdv, ct, osl, rfl, lk, hcd, _, _⟩ := F.ex
    obtain ⟨c', rfl⟩ := He.codeIn_ref hcd
    show Value.ref c' = _
    exact congrArg Value.ref (He.codeOf_eq lk rfl).symm
  refine ⟨fd, [He.cT K ("law", none)], spLaw K (He.cT K ("law", none)).2, ?_, ?_, ?_, fun s v => b s [v] rfl, fun H a ns hl _ hH hS => ?_, fun base hK hm hT => ?_⟩
  · intro p hp
    rw [List.mem_singleton.mp hp]
    exact c.empty _ List.mem_cons_self
  · intro p hp
    rw [List.mem_singleton.mp hp]
    exact c.out _ List.mem_cons_self
  · intro p hp
    rw [List.mem_singleton.mp hp]
    exact PySem.W.codeHd_of_K X (c.hd _ List.mem_cons_self)
  · refine ⟨a, ns, rfl, hS, hl, fun q hq => ?_, fun _ => rfl⟩
    rw [List.mem_singleton.mp hq]
    exact TabS.nil (hH _ List.mem_cons_self)
  · have TB := hT _ List.mem_cons_self
    have roll := ok__law_roll (P := (PySem.Challenge.rw_tablestack_k05_keys_and_records_as_bytes).prog) (w := w) (base := base) W.toWl
    have dice := ok__law_dice (P := (PySem.Challenge.rw_tablestack_k05_keys_and_records_as_bytes).prog) (w := w) (base := base) W.toWl
    have rounds := ok__law_rounds W.toWl dice
    have sn := ok_sign_number (P := (PySem.Challenge.rw_tablestack_k05_keys_and_records_as_bytes).prog) (w := w) (base := base) W.toWx
    have ct := ok_check_text W.toWx sn
    have fx := ok_fixed (P := (PySem.Challenge.rw_tablestack_k05_keys_and_records_as_bytes).prog) (w := w) (base := base) W.toWx
    have nfr := ok_number_from (P := (PySem.Challenge.rw_tablestack_k05_keys_and_records_as_bytes).prog) (w := w) (base := base) W.toWx
    have sa := ok_sign_at (P := (PySem.Challenge.rw_tablestack_k05_keys_and_records_as_bytes).prog) (w := w) (base := base) W.toWx
    have kv := ok_key_of_value W.toWx sn fx
    have ko := ok_key_of W.toWx kv
    have tf := ok_text_from_key W.toWd sa
    have vf := ok_value_from_key W.toWd nfr tf
    have vs := ok_values_from_key W.toWd vf
    have nt := ok_natural (P := (PySem.Challenge.rw_tablestack_k05_keys_and_records_as_bytes).prog) (w := w) (base := base) W.toWx
    have ntf := ok_natural_from (P := (PySem.Challenge.rw_tablestack_k05_keys_and_records_as_bytes).prog) (w := w) (base := base) W.toWd
    have ck := ok_checksum W.toWx fx
    have up := ok_upper_key (P := (PySem.Challenge.rw_tablestack_k05_keys_and_records_as_bytes).prog) (w := w) (base := base) W.toWx
    have ro := ok_record_of W.toWd sn nt
    have vr := ok_value_from_record W.toWd ntf sa
    have rw_ := ok_row_from W.toWd ntf vr
    have lv := ok__law_value W.toWe roll
    have ls := ok__law_sum (P := (PySem.Challenge.rw_tablestack_k05_keys_and_records_as_bytes).prog) (w := w) (base := base) W.toWe
    have lr := ok__law_rank (P := (PySem.Challenge.rw_tablestack_k05_keys_and_records_as_bytes).prog) (w := w) (base := base) W.toWe
    have lrs := ok__law_ranks W.toWe lr
    exact ok_law W F hcode TB roll rounds lv lrs ls sn ct fx nfr sa kv ko vf vs nt ntf ro vr rw_ ck up
end K05
open PySem PySem.W PySem.Calls PyProof.Rows
theorem PySem.Challenge.cw_tablestack_k05_keys_and_records_as_bytes_holds : PySem.Challenge.rw_tablestack_k05_keys_and_records_as_bytes.Holds := by
  w_on; o_law
  refine HandSHeadRun.head_imp (r := OpenLaw.row PySem.Challenge.rw_tablestack_k05_keys_and_records_as_bytes) (q := view (OpenLaw.row PySem.Challenge.rw_tablestack_k05_keys_and_records_as_bytes).prog [0, 41]) (H := K05.hk0) (ob := K05.ob0) (M := 4000) (loose := K05.loose0) (d := HandSHeadRun.topDef (OpenLaw.row PySem.Challenge.rw_tablestack_k05_keys_and_records_as_bytes).prog 41) (kwd := []) K05.ob0_eq
    K05.run0 (by kernel_rfl) (by kernel_rfl) (by kernel_rfl) (by rfl) (by first | assumption | decide +kernel) (by decide +kernel) ⟨rfl, rfl, rfl, rfl, rfl, by decide +kernel⟩ ?hw ?hc
  case hw => w_witness2
  case hc =>
    refine LamX.walk_ofTsE (l := PySem.Challenge.rw_tablestack_k05_keys_and_records_as_bytes) (n := 63) (k := 8) (x := "script") (CX := fun w => L2.CX (PySem.Challenge.rw_tablestack_k05_keys_and_records_as_bytes).prog w) rfl (by decide) (by kernel_rfl) ⟨rfl, by decide, by decide⟩ ?F (fun _ _ _ _ _ z => by
      obtain ⟨_, _, _, _, _, _, _, _, _, _, _, _, z⟩ := z
      exact z)
    intro w mg fa h Y G hmg0
    obtain ⟨K, KX, c⟩ := Y
    have hmg : mg ("law" : PySem.Str) = some (.ref fa) := by
      have e : (HandSHeadRun.topDef (OpenLaw.row PySem.Challenge.rw_tablestack_k05_keys_and_records_as_bytes).prog 41).name = ("law" : PySem.Str) := by kernel_rfl
      rw [← e]
      exact hmg0
    exact ⟨K, KX, K05.law_at KX G hmg c⟩
end
