import PyProof.Rows.All
import Wide.All
import OpenK.AllK
import Wide.FinOn
import HandS.ForMost
import HandS.EndBits
import HandS.WideBits
import HandS.SortInts
import HandS.Conv
import HandS.Flow
import HandS.Walk
import HandS.DictComp
import HandS.DictTup
import PyProof.Rows.RuleB_pow
import HandS.SetFor
import KE.BitLaws
import PyProof.Rows.SetFrom
import HandS.Defaults
import HandS.SetKeys
import HandS.IsInst
import HandS.Star
import HandS.Style
import HandS.Codes
import HandS.Rev
import HandS.RevRange
import HandS.Zip
import HandS.Strs
import PyProof.ReprRoads
import PyProof.ReprLen
import KE.IntBitsLaws
import HandS.ExcIs
import HandS.WordsExc
import HandS.ExcInit
import HandS.ExcValue
import PySem.Challenge.RW_firstbooks_k82_halves_and_lists_of_signs
set_option Elab.async false
set_option linter.all false
set_option maxRecDepth 100000
set_option maxHeartbeats 4000000
namespace My
open PySem PySem.Spec PyProof.Rows L2
/-! ### a def that may ask for reprs: run where no repr is under way -/
structure FnG (P : Program) (w : World) (K : PySem.W.Frag)
    (mg : Str → Option Value) (base : Heap) (CX : CXT) (k : Nat)
    (f : Addr) (fd : FuncData) (ps : List Str) (sp : Sp) : Prop where
  len : ∀ vs H Q E, sp vs H Q E → vs.length = ps.length
  run : ∀ (A : Around) (outer : List Env) (s : Shared) (H : Hp)
    (args : Args) (us : List Value) (vs : List V) (Q : VK) (E : XK),
    A.guards = some [] → Room k A → Env0 P w K mg base A outer s H →
    BindsTo s fd args (ps.zip us) → Vals vs us → sp vs H Q E →
    codeAny (model P w) A (.call (.ref f) args)
      (CR CX outer P w H s Q E) s

section
variable {P : Program} {w : World} {K : PySem.W.Frag}
variable {mg : Str → Option Value} {base : Heap}
theorem FnG.of {CX : CXT} {k : Nat} {f : Addr} {fd : FuncData}
    {ps : List Str} {sp : Sp}
    (F : FnOk P w K mg base CX k f fd ps sp) :
    FnG P w K mg base CX k f fd ps sp :=
  ⟨F.len, fun A outer s H args us vs Q E _ hr =>
    F.run A outer s H args us vs Q E hr⟩

theorem fnG_of {x qual : Str} {st : Stmt} {f : Addr} {fd : FuncData}
    {N ps : List Str} {k : Nat} {sp : Sp}
    (F : Fun K x qual st f fd) (S : FnScope N ps (defScope st))
    (len : ∀ vs H Q E, sp vs H Q E → vs.length = ps.length)
    (body : ∀ (cdv : Value) (A : Around) (outer : List Env)
      (s : Shared) (H : Hp) (vs : List V) (Q : VK) (E : XK),
      (A.deeper (envOfC qual (defScope st)
        s.heap.objs.size f cdv)).guards = some [] →
      Room k (A.deeper (envOfC qual (defScope st)
        s.heap.objs.size f cdv)) → sp vs H Q E →
      ∃ t, PSs (cxOf CX0 P w K mg base N qual (defScope st)
          f cdv A outer s H E).nox (defBody st) t ∧
        t { nx := fun _ H' => Q .non H', rt := Q }
          (start N vs) H) :
    FnG P w K mg base CX0 (k + 1) f fd ps sp := by
  obtain ⟨oc, od, kV, doc, pm, an, cdv, ct, osl, rfl, lk, hcd⟩ := F.ex
  constructor
  · exact len
  intro A outer s H args us vs Q E gd hr en bd rv hs
  have hl := len _ _ _ _ hs
  have keep : ∀ b o, base.get? b = some o →
      s.heap.get? b = some o := fun b o e => (en.bs b o e).1
  have KX : K.In s.heap := en.mod.kin.keeps keep
  have lim : s.heap.NoLimit := en.mod.nolimit.keeps keep
  have kinds : ∀ y ∈ ps.zip us,
      (defScope st).names.lookup y.1 = some .local ∨
      ((defScope st).names.lookup y.1 = some .cell ∧
        ((cellsFrom (s.heap.objs.size + 1)
          (defScope st).names []).lookup y.1).isSome = true) := by
    rintro ⟨n, v⟩ hy
    have hp := S.par n (List.of_mem_zip hy).1
    rcases hp with q | q
    · exact Or.inl q
    · exact Or.inr ⟨q, PySem.W.cellsFrom_some _ _ _ (Or.inl q)⟩
  refine codeAny_call_function hr.depth (KX _ _ lk) rfl
    S.co S.gen rfl (PySem.W.codeRec_of KX hcd)
    (bd _ _ _ _ ?_)
  refine wpAny_newFunctionEnv_cells S.kind kinds ?_
  intro env he s1 x1
  subst he
  refine ⟨lim.keeps x1.toInCall.keep, codeAny_func ?_⟩
  obtain ⟨t, ht, hq⟩ :=
    body cdv A outer s H vs Q E gd (hr.deeper _) hs
  have I : Inv (cxOf CX0 P w K mg base N qual (defScope st)
      f cdv A outer s H E) [] (start N vs) H s1 :=
    inv_start S hr.hd en hl rv x1
  refine wpAny_mono (ht.nox.run [] s1 (start N vs) H _ I hq) ?_
    (fun e s' z => z)
  intro fl s' hf
  have fin : ∀ {σ' : L2.St} {H' : Hp} {v : V} {u : Value},
      Inv (cxOf CX0 P w K mg base N qual (defScope st)
        f cdv A outer s H E) [] σ' H' s' →
      RelV v u → Q v H' → CE outer P w H s Q u s' := by
    intro σ' H' v u J r1 q1
    exact ⟨v, H', J.os, J.bare, J.base, J.hok, r1, q1⟩
  cases fl with
  | next =>
    obtain ⟨σ', H', J, q⟩ := hf
    exact fin (v := V.non) (u := Value.none) J rfl q
  | ret u =>
    obtain ⟨v, σ', H', J, r1, q⟩ := hf
    exact fin J r1 q
  | cont =>
    obtain ⟨_, _, _, q⟩ := hf
    cases q
  | brk =>
    obtain ⟨_, _, _, q⟩ := hf
    cases q
end

section
variable {X : Cx} {CX : CXT} {k : Nat} {f : Addr} {fd : FuncData}
variable {ps : List Str} {sp : Sp} {E : XK}
theorem run_fnG {pins : List (Addr × Obj)} {σ : L2.St} {H : Hp}
    {s : Shared} {Q : VK} {us : List Value} {vs : List V}
    (F : FnG X.prog X.w X.K X.mg X.base CX k f fd ps sp)
    (gd : X.A.guards = some []) (hr : Room k X.A)
    (hb : Binds X.K fd ps []) (hx : Passes CX X E)
    (I : Inv X pins σ H s) (r : Vals vs us) (h : sp vs H Q E) :
    wpAny (model X.prog X.w) X.A (call (.ref f) us)
      (EP X pins σ Q) X.xe s := by
  have hl : (us ++ []).length = ps.length := by
    rw [List.append_nil, ← r.length]
    exact F.len _ _ _ _ h
  have hb' := hb s us I.kIn hl
  rw [List.append_nil] at hb'
  have run := F.run X.A X.stack s H ⟨us, []⟩ us vs Q E
    gd hr I.env0 hb' r h
  refine wpAny_call (codeAny_mono run ?_)
  intro r' s' hq
  cases r' with
  | error e => exact hx pins σ H s e s' I hq
  | ok fl =>
    cases fl with
    | next => cases hq
    | ret u => exact I.after hq
    | cont => cases hq
    | brk => cases hq
end

/-! ### the end: a law's call, where no repr is under way -/
section
variable {P : Program} {w : World} {K : PySem.W.Frag}
theorem call_endG {mg mb : Str → Option Value} {CX : CXT} {k : Nat}
    {fa a : Addr} {fd : FuncData} {x : Str} {sp : Sp} {s1 : Shared}
    {vs : List Value} {ns : List Int}
    (KX : K.In s1.heap) (hns : s1.heap.Ns mainGlobals mg)
    (hb : s1.heap.Ns builtinsNs mb)
    (hbb : ∀ y : Str, y ≠ "__name__" → mb y = bootBuiltins y)
    (lim : s1.heap.NoLimit) (hg : s1.gens = #[])
    (ha : s1.heap.get? a =
      some { cls := .type "list", data := .seq vs.toArray })
    (hi : IntsAre vs ns) (hl : ns.length ≤ sizeLine)
    (hr : Room k callerA)
    (F : ∀ base : Heap, K.In base → base.Ns mainGlobals mg →
      FnG P w K mg base CX k fa fd [x] sp)
    (bind : ∀ (s : Shared) (u : Value),
      BindsTo s fd ⟨[u], []⟩ [(x, u)])
    (hsp : ∀ H : Hp, Only H → SqL K H a (ns.map V.int) →
      sp [.ref a] H (fun v _ => v = .bl true) fun _ _ _ => False)
    (hCX : ∀ H e s', CX [] H s1 (fun _ _ _ => False) e s' → False) :
    codeAny (model P w) callerA (.call (.ref fa) ⟨[.ref a], []⟩)
      (fun r s' => r = .ok (.ret (.bool true)) ∧
        OldK s1.heap s'.heap ∧ s'.os = s1.os ∧ AllBare s'.gens) s1 := by
  have rv := vals_ints hi
  have lenV := hi.length
  have core : ∀ H : Hp, Only H → SqL K H a (ns.map V.int) →
      HOk P w H s1.heap → (∀ b, H b ≠ none → b = a) →
      (H a ≠ none → K.lookup a = none) →
      codeAny (model P w) callerA (.call (.ref fa) ⟨[.ref a], []⟩)
        (fun r s' => r = .ok (.ret (.bool true)) ∧
          OldK s1.heap s'.heap ∧ s'.os = s1.os ∧
          AllBare s'.gens) s1 := by
    intro H hO hS hok onlyA notK
    have isA : ∀ {b : Addr} {u : HO}, H b = some u → b = a :=
      fun {b u} q => onlyA b (by rw [q]; exact fun z => nomatch z)
    have nsIn : ∀ {b : Addr} {m : Str → Option Value},
        s1.heap.Ns b m → (hidT s1.heap H).Ns b m := by
      rintro b m ⟨o, es, ep, e, d, r⟩
      refine ⟨o, es, ep, hidT_get e ?_, d, r⟩
      cases q : H b with
      | none => rfl
      | some u =>
        have hba := isA q
        subst hba
        rw [ha] at e
        cases e
        cases d
    have kb : K.In (hidT s1.heap H) := by
      intro b o e
      refine hidT_get (KX b o e) ?_
      cases q : H b with
      | none => rfl
      | some u =>
        have hba := isA q
        subst hba
        have z := notK (by rw [q]; exact fun z => nomatch z)
        rw [z] at e
        cases e
    have hM : Mod K mg (hidT s1.heap H) := by
      refine ⟨kb, nsIn hns, ⟨mb, nsIn hb, hbb⟩, ?_⟩
      obtain ⟨mc, h1, h2⟩ := lim
      exact ⟨mc, nsIn h1, h2⟩
    have e0 : Env0 P w K mg (hidT s1.heap H) callerA [] s1 H := by
      refine ⟨rfl, hM, fun b o e => of_hidT e,
        Nat.le_of_eq (hidT_size _ _), trivial, ?_, hok, .of_eq hg⟩
      intro b hb
      cases hb
    have G := F _ kb (nsIn hns)
    have run := G.run callerA [] s1 H ⟨[.ref a], []⟩ [.ref a]
      [.ref a] _ _ rfl hr e0 (bind s1 (.ref a)) (.cons rfl .nil)
      (hsp H hO hS)
    refine codeAny_mono run ?_
    intro r s' h
    cases r with
    | error e => exact (hCX H e s' h).elim
    | ok fl =>
      cases fl with
      | next => cases h
      | brk => cases h
      | cont => cases h
      | ret u =>
        obtain ⟨v, H', os, bare, un, hok', r', q⟩ := h
        have ev : v = .bl true := q
        subst ev
        have eu : u = Value.bool true := r'
        subst eu
        refine ⟨rfl, OldK.of_keep ?_, os, bare⟩
        intro b o e
        cases q2 : H b with
        | none =>
          refine un.keep b o e q2 ?_ ?_
          · intro z; cases z
          · intro z; cases z
        | some u =>
          rcases hO b with z | ⟨ob, xs, z⟩
          · rw [q2] at z; cases z
          · have z2 := un.frzs b ob _ z
            obtain ⟨e1, _⟩ := hok b _ z
            obtain ⟨e2, _⟩ := hok' b _ z2
            rw [e] at e1
            cases e1
            exact e2
  have vlen : vs.toArray.size ≤ sizeLine := by
    rw [List.size_toArray, lenV]; exact hl
  cases hk : K.lookup a with
  | some o =>
    have e := KX a o hk
    rw [ha] at e
    cases e
    refine core (fun _ => none) (fun _ => Or.inl rfl) ?_ ?_ ?_ ?_
    · exact Or.inr ⟨_, vs.toArray, _, hk, rfl, rfl, rfl, vlen,
        by simpa using rv⟩
    · intro b u z; cases z
    · intro b z; exact absurd rfl z
    · intro z; exact absurd rfl z
  | none =>
    let ob : Obj := { cls := .type "list", data := .seq vs.toArray }
    let H : Hp := fun b =>
      if b = a then some (.frz ob (.lst (ns.map V.int))) else none
    have hA : H a = some (.frz ob (.lst (ns.map V.int))) := if_pos rfl
    have hN : ∀ b, b ≠ a → H b = none := fun b hb => if_neg hb
    refine core H ?_ (Or.inl (Or.inr ⟨ob, hA⟩)) ?_ ?_ fun _ => hk
    · intro b
      by_cases hb : b = a
      · subst hb; exact Or.inr ⟨_, _, hA⟩
      · exact Or.inl (hN b hb)
    · intro b u z
      by_cases hb : b = a
      · subst hb
        rw [hA] at z
        cases z
        exact ⟨ha, by rw [List.length_map]; exact hl, vs, _, rv, ha⟩
      · rw [hN b hb] at z
        cases z
    · intro b z
      by_cases hb : b = a
      · exact hb
      · exact absurd (hN b hb) z

theorem walkG {l : PySem.W.OpenLaw} {n k : Nat} {q : Program}
    {loose : List Str} {XP : (Str → Option Value) → Heap → Prop}
    {YP : World → Heap → Prop} {d : DefRec}
    {K : Params → PySem.W.Frag} {CX : World → CXT} {sp : World → Sp}
    {x : Str} (hn : l.most = some n) (hn2 : n ≤ sizeLine)
    (hdf : d.params.defaults = []) (hr : Room k callerA)
    (hY : ∀ (w : World) (h : Heap), YP w h → (K w.params).In h)
    (F : ∀ (w : World) (mg : Str → Option Value) (fa : Addr)
      (h : Heap), (K w.params).In h → h.Ns mainGlobals mg →
      mg d.name = some (.ref fa) → ∃ fd : FuncData,
      (∀ (s : Shared) (u : Value),
        BindsTo s fd ⟨[u], []⟩ [(x, u)]) ∧
      ∀ base : Heap, (K w.params).In base →
        base.Ns mainGlobals mg →
        FnG l.prog w (K w.params) mg base (CX w) k fa fd [x] (sp w))
    (hsp : ∀ (w : World) (H : Hp) (a : Addr) (ns : List Int),
      ns.length ≤ n →
      (∀ z ∈ ns, Builtin.Int.intBits z ≤ 1048576) → Only H →
      SqL (K w.params) H a (ns.map V.int) →
      sp w [.ref a] H (fun v _ => v = .bl true)
        fun _ _ _ => False)
    (hCX : ∀ (w : World) (H : Hp) (s : Shared) (e : Value)
      (s' : Shared), CX w [] H s (fun _ _ _ => False) e s' → False) :
    PySem.W.WalkO q loose XP YP l.row.toRowW d []
      (fun f vs => PySem.call f vs) := by
  refine Att.attach_callB hn hdf ?_
  intro w s0 s1 mg mb fa o pm cd doc a vs ns G Y _ _ _ hmg hobj hints
    hlen hbits hg
  have KX := hY w _ Y
  obtain ⟨fd, bind, hF⟩ := F w mg fa _ KX G.T.g hmg
  refine call_endG KX G.T.g G.T.b G.T.builtins G.T.nolimit hg hobj
    hints (Nat.le_trans hlen hn2) hr hF bind ?_ ?_
  · intro H hO hS
    exact hsp w H a ns hlen hbits hO hS
  · intro H e s'
    exact hCX w H s1 e s'
end

/-! ### repr of data -/
section
variable {X : Cx}
theorem call_reprD (gd : X.A.guards = some [])
    (hu : X.A.units + 64 < cLine) :
    CallR X (.builtin "repr") (fun xs H Q => ∃ v d, xs = [v] ∧
      Dp X.K H v d ∧ d.showable = true ∧ d.hasDict = false ∧
      d.depth ≤ 20 ∧ d.shown.length ≤ sizeLine ∧
      Q (.str d.shown) H) := by
  intro pins s σ H xs us Q I r h
  obtain ⟨v, d, rfl, hd, h1, h2, h3, h4, q⟩ := h
  obtain ⟨u, rfl, rx⟩ := vals1 r
  obtain ⟨as, rd⟩ := Dp.reads I d v u hd rx
  have ns := PyData.noDict_hsm (as := as) h2
  have fin : ∀ h' u tk, (∀ b o, s.heap.get? b = some o →
      h'.get? b = some o) →
      EP X pins σ Q (.str d.shown u)
        { s with heap := h', toks := tk } :=
    fun h' u tk kp => ⟨.str d.shown, H, I.kept kp, ⟨_, rfl⟩, q⟩
  have kp0 : ∀ b o, s.heap.get? b = some o →
      s.heap.get? b = some o := fun _ _ e => e
  cases hd with
  | non =>
    cases rx
    refine PySem.P.repr_of_none ?_
    have z := fin s.heap s.toks (s.toks + 1) kp0
    simpa only [PyData.shown] using z
  | bl b =>
    cases rx
    refine PySem.P.repr_of_bool ?_
    have z := fin s.heap s.toks (s.toks + 1) kp0
    simpa only [PyData.shown] using z
  | int i =>
    obtain ⟨t, rfl⟩ := rx
    refine PySem.P.repr_of_int
      (by simpa [PyData.showable] using h1) ?_
    have z := fin s.heap s.toks (s.toks + 1) kp0
    simpa only [PyData.shown] using z
  | str y =>
    obtain ⟨t, rfl⟩ := rx
    refine PySem.P.repr_of_str ?_
      (by simpa only [PyData.shown] using h4)
    have z := fin s.heap s.toks (s.toks + 1) kp0
    simpa only [PyData.shown] using z
  | lst hs ha =>
    cases rx
    exact repr_of_reads' rd h1 ns gd (by omega) kp0
      (fun h' u tk kp => fin h' u tk kp) h4
  | tup hs ha =>
    cases rx
    exact repr_of_reads' rd h1 ns gd (by omega) kp0
      (fun h' u tk kp => fin h' u tk kp) h4
end
end My

namespace My
open PySem PySem.Spec PyProof.Rows L2
/-! ### callable defs -/
structure Dd (P : Program) (w : World) (K : PySem.W.Frag)
    (mg : Str → Option Value) (base : Heap) (x : Str) (k : Nat)
    (ps : List Str) (sp : Sp) : Prop where
  ok : ∃ f fd, mg x = some (.ref f) ∧
    PySem.W.keepIn K (.ref f) = true ∧ Binds K fd ps [] ∧
    FnOk P w K mg base CX0 k f fd ps sp
section
variable {X : Cx} {x : Str} {k : Nat} {ps : List Str} {sp : Sp}
variable {p pos : Pos} {e : Expr} {es : List Expr} {t : TA}
theorem pe_d (D : Dd X.prog X.w X.K X.mg X.base x k ps sp)
    (hr : Room k X.A) (hg : Gl X x) (ha : PA X (e :: es) t)
    (hdb : (x == ("__debug__" : Str)) = false := by decide)
    (he : starEach (e :: es) X.env =
      (false, eval e X.env) :: starEach es X.env := by rfl)
    (hpl : (backTo pos (starEach es X.env)).any (·.1) = false := by
      rfl) :
    PE X (.Call (.Name x p) (e :: es) [] pos)
      (tCall sp [] E0 t) := by
  obtain ⟨f, fd, m, kp, b, G⟩ := D.ok
  exact pe_call G hr hg m kp b .nil pass0 ha hdb he hpl
end
/-- an int as a test -/
def tInt (ta : TE) : TT := fun σ H Q =>
  ta σ H fun x H' => ∃ i : Int, x = .int i ∧ Q (i != 0) H'
theorem pt_int {X : Cx} {a : Expr} {ta : TE} (ha : PE X a ta)
    (he : ∀ whole, isTrue a X.env whole =
      (do let v ← whole; standAt a.pos; holding [v] (truthy v))) :
    PT X a (tInt ta) := by
  refine ⟨fun pins s σ H Q I h => ?_⟩
  refine isTrue_plain (thn (ha.run pins s σ H _ I h) ?_) (he _)
  intro v s1 hh
  obtain ⟨x, H1, I1, r1, i, ex, q1⟩ := hh
  subst ex
  exact tru_ok pins s1 σ H1 (.int i) v Q I1 r1 ⟨(i != 0), rfl, q1⟩
/-! ### heaps -/
def Keep (p : Addr) (H H' : Hp) : Prop :=
  ∀ b o, H b = some o → b ≠ p → H' b = some o
theorem Keep.refl {p : Addr} {H : Hp} : Keep p H H := fun _ _ h _ => h
theorem Keep.trans {p : Addr} {H H1 H2 : Hp} (a : Keep p H H1)
    (b : Keep p H1 H2) : Keep p H H2 :=
  fun c o h n => b c o (a c o h n) n
theorem Same.keep {p : Addr} {H H' : Hp} (s : Same H H') :
    Keep p H H' := fun b o h _ => s b o h
theorem Keep.set {p : Addr} {H H' : Hp} {o : HO} (k : Keep p H H') :
    Keep p H (upd H' p o) := fun b u h n => by
  rw [upd_ne n]; exact k b u h n
theorem Keep.new {p q : Addr} {H H' : Hp} {o : HO} (k : Keep p H H')
    (hq : H' q = none) : Keep p H (upd H' q o) := fun b u h n => by
  have z := k b u h n
  rw [upd_ne (ne_of_none z hq)]; exact z
theorem Keep.seq {K : PySem.W.Frag} {p a : Addr} {H H' : Hp}
    {xs : List V} (k : Keep p H H') (n : a ≠ p)
    (h : SqL K H a xs) : SqL K H' a xs := by
  rcases h with (h | ⟨o, h⟩) | h
  · exact .inl (.inl (k _ _ h n))
  · exact .inl (.inr ⟨o, k _ _ h n⟩)
  · exact .inr h
theorem same_new {H H' : Hp} {q : Addr} {o : HO} (k : Same H H')
    (hq : H' q = none) : Same H (upd H' q o) := fun b u h => by
  have z := k b u h
  rw [upd_ne (ne_of_none z hq)]; exact z
theorem upd_of {H : Hp} {q b : Addr} {o u : HO} (hq : H q = none)
    (h : H b = some u) : upd H q o b = some u := by
  rw [upd_ne (ne_of_none h hq)]; exact h
/-- reading goes on behind the pen's turns -/
theorem Keep.sq {K : PySem.W.Frag} {H H' : Hp} {p a : Addr} {k : List (Key × V)}
    {xs : List V} (kp : Keep p H H') (hp : H p = some (.dK k))
    (h : SqL K H a xs) : SqL K H' a xs := by
  rcases h with (h | ⟨o, h⟩) | h
  · exact .inl (.inl (kp _ _ h (ne_of h hp (by intro z; cases z))))
  · exact .inl (.inr ⟨o, kp _ _ h (ne_of h hp (by intro z; cases z))⟩)
  · exact .inr h
theorem Keep.st {K : PySem.W.Frag} {H H' : Hp} {p a : Addr} {k : List (Key × V)}
    {xs : List V} (kp : Keep p H H') (hp : H p = some (.dK k))
    (h : SqT K H a xs) : SqT K H' a xs := by
  rcases h with (h | ⟨o, h⟩) | h
  · exact .inl (.inl (kp _ _ h (ne_of h hp (by intro z; cases z))))
  · exact .inl (.inr ⟨o, kp _ _ h (ne_of h hp (by intro z; cases z))⟩)
  · exact .inr h
theorem Keep.free {H H' : Hp} {p q : Addr} (kp : Keep p H H')
    (h : H' q = none) (n : q ≠ p) : H q = none := by
  cases e : H q with
  | none => rfl
  | some o =>
    rw [kp q o e n] at h
    cases h
theorem map_get {α β : Type} {l : List α} {f : α → β} {i : Nat} {x : β}
    (h : (l.map f)[i]? = some x) : ∃ s, l[i]? = some s ∧ x = f s := by
  rw [List.getElem?_map] at h
  obtain ⟨s, h1, h2⟩ := Option.map_eq_some_iff.mp h
  exact ⟨s, h1, h2.symm⟩
theorem idx_nat {j n : Nat} (h : j < n) :
    seqIndex? (j : Int) n = some j := by
  exact PySem.seqIndex_of (k := (j : Int)) (by omega) (by omega)
theorem eraseIdx_map {α β : Type} (f : α → β) : ∀ (l : List α) (j : Nat),
    (l.map f).eraseIdx j = (l.eraseIdx j).map f
  | [], _ => rfl
  | x :: r, 0 => rfl
  | x :: r, j + 1 => by
    show f x :: (r.map f).eraseIdx j = f x :: (r.eraseIdx j).map f
    rw [eraseIdx_map f r j]
/-! ### sizes of ints -/
def BB (k : Nat) (z : Int) : Prop := z.natAbs < 2 ^ k
theorem BB.mono {j k : Nat} {z : Int} (h : BB j z) (l : j ≤ k) :
    BB k z := Nat.lt_of_lt_of_le h (Nat.pow_le_pow_right (by decide) l)
theorem BB.zero {k : Nat} : BB k 0 := Nat.two_pow_pos _
theorem BB.le {k : Nat} {y z : Int} (h : BB k z)
    (l : y.natAbs ≤ z.natAbs) : BB k y := Nat.lt_of_le_of_lt l h
theorem BB.add {k : Nat} {y z : Int} (a : BB k y) (b : BB k z) :
    BB (k + 1) (y + z) := by
  have e : 2 ^ (k + 1) = 2 ^ k * 2 := Nat.pow_succ ..
  unfold BB at *
  rw [e]; omega
theorem BB.sub {k : Nat} {y z : Int} (a : BB k y) (b : BB k z) :
    BB (k + 1) (y - z) := by
  have e : 2 ^ (k + 1) = 2 ^ k * 2 := Nat.pow_succ ..
  unfold BB at *
  rw [e]; omega
theorem BB.mul {j k : Nat} {y z : Int} (a : BB j y) (b : BB k z) :
    BB (j + k) (y * z) := wide_lt a b
theorem BB.div {k : Nat} {y m : Int} (a : BB k y) (h : 0 < m) :
    BB k (y / m) := by
  refine a.le ?_
  obtain ⟨n, rfl⟩ := Int.eq_ofNat_of_zero_le (Int.le_of_lt h)
  rcases Int.natAbs_eq y with e | e
  · rw [e]
    have : ((y.natAbs : Int) / (n : Int)) = ((y.natAbs / n : Nat) : Int) := rfl
    rw [this, Int.natAbs_natCast, Int.natAbs_natCast]
    exact Nat.div_le_self _ _
  · have h1 : y / (n : Int) ≤ 0 := by
      rw [e]
      have := Int.ediv_le_ediv h (show -(y.natAbs : Int) ≤ 0 by omega)
      simpa using this
    have h2 : -(y.natAbs : Int) ≤ y / (n : Int) := by
      rw [Int.le_ediv_iff_mul_le h]
      have h3 : (y.natAbs : Int) * 1 ≤ (y.natAbs : Int) * (n : Int) :=
        Int.mul_le_mul_of_nonneg_left (by omega) (by omega)
      have h4 : -(y.natAbs : Int) * (n : Int) = -((y.natAbs : Int) * n) := Int.neg_mul ..
      omega
    omega
theorem BB.bits {k : Nat} {z : Int} (h : BB k z) :
    Builtin.Int.intBits z ≤ k := PyProof.Rows.intBits_le h
theorem BB.of_bits {k : Nat} {z : Int}
    (h : Builtin.Int.intBits z ≤ k) : BB k z :=
  PySem.intBits_le_iff.mp h
theorem BB.small {z : Int} (h : z.natAbs < 18446744073709551616) :
    BB 64 z := h
theorem mulX_ok {j k : Nat} {y z : Int} (a : BB j y) (b : BB k z)
    (h : j + k ≤ 134217728) : CMulX y z := mulx_ok a b h
theorem divW_ok {k : Nat} {i m : Int} (h : 0 < m) (b : BB k m)
    (h0 : 0 < k) (h9 : k ≤ 9000) : CDivW i m := wide_div h b h0 h9
/-! ### lists of ints as data -/
section
variable {K : PySem.W.Frag} {H : Hp}
theorem dp_ints : ∀ ns : List Int,
    DpAll K H (ns.map V.int) (ns.map PyData.int)
  | [] => .nil
  | n :: r => .cons (.int n) (dp_ints r)
theorem dpL {a : Addr} {ns : List Int} (h : SqL K H a (ns.map V.int)) :
    Dp K H (.ref a) (.list (ns.map PyData.int)) := .lst h (dp_ints ns)
theorem eqv_ints : ∀ (ns ms : List Int),
    PyData.eqvAll (ns.map .int) (ms.map .int) = decide (ns = ms)
  | [], [] => rfl
  | [], m :: ms => rfl
  | n :: ns, [] => rfl
  | n :: ns, m :: ms => by
    show (PyData.eqv (.int n) (.int m) && PyData.eqvAll (ns.map .int) (ms.map .int)) = _
    rw [eqv_ints ns ms]
    have e : PyData.eqv (.int n) (.int m) = (n == m) := by
      rw [PyData.eqv]
    rw [e]
    by_cases h1 : n = m
    · by_cases h2 : ns = ms
      · simp [h1, h2]
      · simp [h1, h2]
    · have : (n == m) = false := by simpa using h1
      simp [h1]
theorem eqvL (ns ms : List Int) :
    PyData.eqv (.list (ns.map .int)) (.list (ms.map .int)) =
      decide (ns = ms) := by
  rw [PyData.eqv]; exact eqv_ints ns ms
theorem canLay_ints : ∀ ns : List Int,
    PyData.canLayAll0 (ns.map .int) = true
  | [] => rfl
  | n :: r => by
    rw [List.map_cons, PyData.canLayAll0, canLay_ints r]
    simp [PyData.canLay0]
theorem depth_ints : ∀ ns : List Int,
    PyData.depthAll (ns.map .int) = 0
  | [] => rfl
  | n :: r => by
    rw [List.map_cons, PyData.depthAll, depth_ints r]
    simp [PyData.depth]
theorem shapedL (ns : List Int) :
    SeqAt.shaped (.list (ns.map .int)) = true := by
  unfold SeqAt.shaped
  rw [Bool.and_eq_true]
  constructor
  · rw [PyData.canLay0]; exact canLay_ints ns
  · rw [PyData.depth, depth_ints]; rfl
end
/-! ### what a repr may be asked of -/
structure SL (D L : Nat) (d : PyData) : Prop where
  sh : d.showable = true
  nd : d.hasDict = false
  dp : d.depth ≤ D
  ln : d.shown.length ≤ L
theorem sl_none : SL 0 4 .none := ⟨rfl, rfl, by decide, by decide⟩
theorem sl_bool (b : Bool) : SL 0 5 (.bool b) :=
  ⟨rfl, rfl, by cases b <;> decide, by cases b <;> decide⟩
theorem sl_int {i : Int} (h : BB 1900 i) : SL 0 1910 (.int i) := by
  have e : i.natAbs.log2 < 1920 := by
    by_cases z : i.natAbs = 0
    · rw [z]; decide
    · have := (Nat.log2_lt z).mpr h
      omega
  refine ⟨?_, rfl, Nat.le_refl _, ?_⟩
  · rw [PyData.showable]; exact decide_eq_true e
  · have hn : (toString i.natAbs).length ≤ 1900 :=
      nat_repr_length_le (by decide) h
    rw [PyData.shown]
    have e2 : (Str.ofString (toString i)).length =
      (toString i).length := PySem.ofString_length _
    rw [e2]
    cases i with
    | ofNat n =>
      show (toString n).length ≤ 1910
      exact Nat.le_trans hn (by decide)
    | negSucc n =>
      show ("-" ++ toString (n + 1)).length ≤ 1910
      rw [String.length_append]
      have : (toString (n + 1)).length ≤ 1900 := hn
      have e3 : ("-" : String).length = 1 := rfl
      omega
theorem sl_all {D L : Nat} : ∀ {xs : List PyData},
    (∀ x ∈ xs, SL D L x) → PyData.showableAll xs = true ∧
      PyData.hasDictAll xs = false ∧ PyData.depthAll xs ≤ D ∧
      ((PyData.shownAll xs).map (·.length)).sum ≤ xs.length * L ∧
      (PyData.shownAll xs).length = xs.length
  | [], _ => ⟨rfl, rfl, Nat.zero_le _, Nat.zero_le _, rfl⟩
  | x :: r, h => by
    have hx := h x (List.mem_cons_self ..)
    obtain ⟨h1, h2, h3, h4, h5⟩ :=
      sl_all fun y hy => h y (List.mem_cons_of_mem _ hy)
    refine ⟨?_, ?_, ?_, ?_, ?_⟩
    · rw [PyData.showableAll, hx.sh, h1]; rfl
    · rw [PyData.hasDictAll, hx.nd, h2]; rfl
    · rw [PyData.depthAll]; exact Nat.max_le.mpr ⟨hx.dp, h3⟩
    · rw [PyData.shownAll, List.map_cons, List.sum_cons,
        List.length_cons, Nat.succ_mul]
      have := hx.ln
      omega
    · rw [PyData.shownAll, List.length_cons, List.length_cons, h5]
theorem sld_list {D L N : Nat} {xs : List PyData}
    (h : ∀ x ∈ xs, SL D L x) (hn : xs.length ≤ N) :
    SL (D + 1) (N * (L + 2) + 3) (.list xs) := by
  obtain ⟨h1, h2, h3, h4, h5⟩ := sl_all h
  refine ⟨by rw [PyData.showable]; exact h1,
    by rw [PyData.hasDict]; exact h2,
    by rw [PyData.depth]; omega, ?_⟩
  rw [PyData.shown]
  have h6 := listText_len_le (PyData.shownAll xs)
  have h7 : xs.length * (L + 2) ≤ N * (L + 2) :=
    Nat.mul_le_mul_right _ hn
  have h8 : xs.length * (L + 2) = xs.length * L + xs.length * 2 :=
    Nat.mul_add ..
  omega
theorem sld_tuple {D L N : Nat} {xs : List PyData}
    (h : ∀ x ∈ xs, SL D L x) (hn : xs.length ≤ N) :
    SL (D + 1) (N * (L + 2) + 3) (.tuple xs) := by
  obtain ⟨h1, h2, h3, h4, h5⟩ := sl_all h
  refine ⟨by rw [PyData.showable]; exact h1,
    by rw [PyData.hasDict]; exact h2,
    by rw [PyData.depth]; omega, ?_⟩
  rw [PyData.shown]
  have h6 := tupleText_len_le (PyData.shownAll xs)
  have h7 : xs.length * (L + 2) ≤ N * (L + 2) :=
    Nat.mul_le_mul_right _ hn
  have h8 : xs.length * (L + 2) = xs.length * L + xs.length * 2 :=
    Nat.mul_add ..
  omega
theorem SL.mono {D E L M : Nat} {d : PyData} (h : SL D L d)
    (a : D ≤ E) (b : L ≤ M) : SL E M d :=
  ⟨h.sh, h.nd, Nat.le_trans h.dp a, Nat.le_trans h.ln b⟩
theorem sl_ints {ns : List Int} {N : Nat} (h : ∀ n ∈ ns, BB 1900 n)
    (hn : ns.length ≤ N) :
    SL 1 (N * 1912 + 3) (.list (ns.map .int)) := by
  refine sld_list (L := 1910) ?_ (by rw [List.length_map]; exact hn)
  intro x hx
  obtain ⟨n, hm, rfl⟩ := List.mem_map.mp hx
  exact sl_int (h n hm)
theorem SL.ok {D L : Nat} {d : PyData} (h : SL D L d) (a : D ≤ 20)
    (b : L ≤ 16777216) : d.showable = true ∧ d.hasDict = false ∧
      d.depth ≤ 20 ∧ d.shown.length ≤ sizeLine :=
  ⟨h.sh, h.nd, Nat.le_trans h.dp a,
    by rw [sizeLine_eq]; exact Nat.le_trans h.ln b⟩
/-! ### the end of readings: tests whose answer is known -/
theorem it {c : Bool} {A B : Prop} (hc : c = true) (h : A) :
    if c = true then A else B := by rw [if_pos hc]; exact h
theorem if' {c : Bool} {A B : Prop} (hc : c = false) (h : B) :
    if c = true then A else B := by
  rw [hc, if_neg Bool.false_ne_true]; exact h
end My

namespace My
/-! ### marks of a number -/
def sumP : List Nat → Nat
  | [] => 0
  | s :: r => 2 ^ s + sumP r
def orP (l : List Nat) : Nat := l.foldl (fun a s => a ||| 2 ^ s) 0
theorem add_or (k b : Nat) (h : b.testBit k = false) : 2 ^ k + b = 2 ^ k ||| b := by
  have hb : b % 2 ^ (k + 1) < 2 ^ k := by
    have h1 : b % 2 ^ (k + 1) < 2 ^ (k + 1) := Nat.mod_lt _ (Nat.two_pow_pos _)
    rcases Nat.lt_or_ge (b % 2 ^ (k + 1)) (2 ^ k) with h2 | h2
    · exact h2
    · exfalso
      have e : (b % 2 ^ (k + 1)).testBit k = true := by
        apply Nat.testBit_of_two_pow_le_and_two_pow_add_one_gt
        · exact h2
        · exact h1
      rw [Nat.testBit_mod_two_pow] at e
      simp [h] at e
  have eb : b = 2 ^ (k + 1) * (b / 2 ^ (k + 1)) + b % 2 ^ (k + 1) := (Nat.div_add_mod _ _).symm
  have h2 : 2 ^ k + b % 2 ^ (k + 1) < 2 ^ (k + 1) := by
    have e2 : 2 ^ (k + 1) = 2 ^ k * 2 := Nat.pow_succ ..
    generalize b % 2 ^ (k + 1) = r at hb
    omega
  have h3 : 2 ^ k + b % 2 ^ (k + 1) = 2 ^ k ||| b % 2 ^ (k + 1) := by
    have := Nat.two_pow_add_eq_or_of_lt hb 1
    simpa using this
  calc 2 ^ k + b = 2 ^ (k + 1) * (b / 2 ^ (k + 1)) + (2 ^ k + b % 2 ^ (k + 1)) := by omega
    _ = 2 ^ (k + 1) * (b / 2 ^ (k + 1)) ||| (2 ^ k + b % 2 ^ (k + 1)) := Nat.two_pow_add_eq_or_of_lt h2 _
    _ = 2 ^ (k + 1) * (b / 2 ^ (k + 1)) ||| (2 ^ k ||| b % 2 ^ (k + 1)) := by rw [h3]
    _ = 2 ^ k ||| (2 ^ (k + 1) * (b / 2 ^ (k + 1)) ||| b % 2 ^ (k + 1)) := by
      rw [← Nat.or_assoc, Nat.or_comm (2 ^ (k + 1) * (b / 2 ^ (k + 1))) (2 ^ k), Nat.or_assoc]
    _ = 2 ^ k ||| b := by
      rw [← Nat.two_pow_add_eq_or_of_lt (Nat.mod_lt _ (Nat.two_pow_pos _)), ← eb]
theorem foldl_or (l : List Nat) : ∀ a, l.foldl (fun a s => a ||| 2 ^ s) a = a ||| orP l := by
  unfold orP
  induction l with
  | nil => intro a; simp
  | cons s r ih =>
    intro a
    rw [List.foldl_cons, List.foldl_cons, ih, ih (0 ||| 2 ^ s), Nat.zero_or, Nat.or_assoc]
theorem orP_cons (s : Nat) (r : List Nat) : orP (s :: r) = 2 ^ s ||| orP r := by
  show (s :: r).foldl (fun a s => a ||| 2 ^ s) 0 = _
  rw [List.foldl_cons, foldl_or, Nat.zero_or]
theorem testBit_orP (l : List Nat) (i : Nat) : (orP l).testBit i = decide (i ∈ l) := by
  induction l with
  | nil => simp [orP]
  | cons s r ih =>
    rw [orP_cons, Nat.testBit_or, ih, Nat.testBit_two_pow]
    by_cases h : s = i
    · subst h; simp
    · have h' : ¬ i = s := fun z => h z.symm
      simp [h, h']
theorem sumP_or : ∀ {l : List Nat}, l.Nodup → sumP l = orP l
  | [], _ => rfl
  | s :: r, h => by
    have h' := List.nodup_cons.mp h
    rw [orP_cons, sumP, sumP_or h'.2, add_or]
    rw [testBit_orP]
    simp [h'.1]
/-- marks: rising -/
def mk (n : Nat) (w : Nat) : List Nat := (List.range w).filter n.testBit
theorem mk_sorted (n w : Nat) : (mk n w).Pairwise (· < ·) := List.Pairwise.filter _ List.pairwise_lt_range
theorem mem_mk {n w i : Nat} : i ∈ mk n w ↔ i < w ∧ n.testBit i = true := by
  unfold mk; rw [List.mem_filter, List.mem_range]
theorem sorted_ext : ∀ {l m : List Nat}, l.Pairwise (· < ·) → m.Pairwise (· < ·) → (∀ i, i ∈ l ↔ i ∈ m) → l = m
  | [], [], _, _, _ => rfl
  | [], y :: m, _, _, h => by have := (h y).mpr (List.mem_cons_self ..); cases this
  | x :: l, [], _, _, h => by have := (h x).mp (List.mem_cons_self ..); cases this
  | x :: l, y :: m, hl, hm, h => by
    have hl' := List.pairwise_cons.mp hl
    have hm' := List.pairwise_cons.mp hm
    have e : x = y := by
      have h1 := (h x).mp (List.mem_cons_self ..)
      have h2 := (h y).mpr (List.mem_cons_self ..)
      rcases List.mem_cons.mp h1 with a | a
      · exact a
      · rcases List.mem_cons.mp h2 with b | b
        · exact b.symm
        · have c1 := hm'.1 x a
          have c2 := hl'.1 y b
          omega
    subst e
    rw [sorted_ext hl'.2 hm'.2 fun i => ?_]
    constructor
    · intro hi
      rcases List.mem_cons.mp ((h i).mp (List.mem_cons_of_mem _ hi)) with a | a
      · have c := hl'.1 i hi; omega
      · exact a
    · intro hi
      rcases List.mem_cons.mp ((h i).mpr (List.mem_cons_of_mem _ hi)) with a | a
      · have c := hm'.1 i hi; omega
      · exact a
theorem lt_orP {l : List Nat} {w : Nat} (h : ∀ s ∈ l, s < w) : orP l < 2 ^ w := by
  induction l with
  | nil => exact Nat.two_pow_pos _
  | cons s r ih =>
    rw [orP_cons]
    exact Nat.or_lt_two_pow (Nat.pow_lt_pow_right (by decide) (h s (List.mem_cons_self ..))) (ih fun t ht => h t (List.mem_cons_of_mem _ ht))
theorem mk_orP {l m : List Nat} {w : Nat} (hl : ∀ s ∈ l, s < w) (hm : m.Pairwise (· < ·)) (e : ∀ i, i ∈ m ↔ i ∈ l) : mk (orP l) w = m := by
  refine sorted_ext (mk_sorted _ _) hm fun i => ?_
  rw [mem_mk, testBit_orP, e i]
  constructor
  · intro h; exact of_decide_eq_true h.2
  · intro h; exact ⟨hl i h, decide_eq_true h⟩
end My
namespace My
theorem orP3 (far : Nat) (h : 2 < far) : orP [0, 2, far] = 2 ^ far + 5 := by
  rw [← sumP_or]
  · show 2 ^ 0 + (2 ^ 2 + (2 ^ far + 0)) = _
    omega
  · simp
    omega
theorem le_orP {l : List Nat} {s : Nat} (h : s ∈ l) : 2 ^ s ≤ orP l := by
  have e : (orP l).testBit s = true := by rw [testBit_orP]; exact decide_eq_true h
  exact Nat.ge_two_pow_of_testBit e
end My

namespace My
/-! ### bits of numbers -/
def NB (k n : Nat) : Prop := n < 2 ^ k
theorem NB.mono {j k n : Nat} (h : NB j n) (l : j ≤ k) : NB k n :=
  Nat.lt_of_lt_of_le h (Nat.pow_le_pow_right (by decide) l)
theorem NB.le {k n m : Nat} (h : NB k n) (l : m ≤ n) : NB k m :=
  Nat.lt_of_le_of_lt l h
theorem NB.add {j k x y : Nat} (a : NB j x) (b : NB k y) :
    NB (max j k + 1) (x + y) := by
  have h1 : NB (max j k) x := a.mono (Nat.le_max_left ..)
  have h2 : NB (max j k) y := b.mono (Nat.le_max_right ..)
  unfold NB at *
  rw [Nat.pow_succ]; omega
theorem NB.mul {j k x y : Nat} (a : NB j x) (b : NB k y) :
    NB (j + k) (x * y) := by
  unfold NB at *
  rw [Nat.pow_add]
  exact Nat.mul_lt_mul'' a b
theorem NB.ten (i : Nat) {v : Nat} (h : v < 10 ^ i) : NB (4 * i) v := by
  unfold NB
  rw [Nat.pow_mul]
  exact Nat.lt_of_lt_of_le h (Nat.pow_le_pow_left (by decide) i)
/-! ### evenness: the book of 3 * n + k by that of n -/
def led (b s : Nat) : Nat := (3 * b + s) / 2
def ev (n : Nat) : Nat :=
  if n = 0 then 0 else led (ev (n / 3)) (n % 3)
termination_by n
decreasing_by omega
theorem ev_zero : ev 0 = 0 := by rw [ev, if_pos rfl]
theorem ev_step (n k : Nat) (hk : k < 3) : ev (3 * n + k) = led (ev n) k := by
  by_cases h : 3 * n + k = 0
  · have h1 : n = 0 := by omega
    have h2 : k = 0 := by omega
    subst h1 h2
    rw [show 3 * 0 + 0 = 0 from rfl, ev_zero]; rfl
  · rw [ev, if_neg h]
    congr 1
    · congr 1; omega
    · omega
theorem led_cases (x i : Nat) : 3 * x + i = 2 * led x i ∨
    3 * x + i = 2 * led x i + 1 := by
  unfold led; omega
theorem led_inj {x y i : Nat} (h : led x i = led y i) : x = y := by
  rcases led_cases x i with a | a <;> rcases led_cases y i with b | b <;>
    rw [h] at a <;> omega
theorem led_three {x y z i j k : Nat} (h1 : led x i = led y j)
    (h2 : led y j = led z k)
    (h : (i = 0 ∧ j = 1 ∧ k = 2) ∨ (i = 0 ∧ j = 2 ∧ k = 1) ∨
      (i = 1 ∧ j = 0 ∧ k = 2) ∨ (i = 1 ∧ j = 2 ∧ k = 0) ∨
      (i = 2 ∧ j = 0 ∧ k = 1) ∨ (i = 2 ∧ j = 1 ∧ k = 0)) : False := by
  rcases led_cases x i with a | a <;> rcases led_cases y j with b | b <;>
    rcases led_cases z k with c | c <;> rw [h1, h2] at a <;> rw [h2] at b <;>
    generalize led z k = B at a b c <;>
    rcases h with ⟨rfl, rfl, rfl⟩ | ⟨rfl, rfl, rfl⟩ | ⟨rfl, rfl, rfl⟩ |
      ⟨rfl, rfl, rfl⟩ | ⟨rfl, rfl, rfl⟩ | ⟨rfl, rfl, rfl⟩ <;> omega
theorem ev_div (n : Nat) : ev n = led (ev (n / 3)) (n % 3) := by
  have h := ev_step (n / 3) (n % 3) (Nat.mod_lt _ (by decide))
  rw [← h]; congr 1; omega
theorem ev_le (n : Nat) : 2 * ev n ≤ n := by
  induction n using Nat.strongRecOn with
  | ind n ih =>
    by_cases h : n = 0
    · subst h; rw [ev_zero]; decide
    · have h1 := ih (n / 3) (by omega)
      have e : n = 3 * (n / 3) + n % 3 := by omega
      rw [e, ev_step _ _ (Nat.mod_lt _ (by decide))]
      unfold led
      omega
/-- no three evenly spaced numbers in a book -/
theorem ev_ap : ∀ n d : Nat, 0 < d →
    ¬ (ev n = ev (n + d) ∧ ev (n + d) = ev (n + 2 * d)) := by
  intro n
  induction n using Nat.strongRecOn with
  | ind n ih =>
    intro d
    revert n
    induction d using Nat.strongRecOn with
    | ind d ihd =>
      intro n ih hd ⟨h1, h2⟩
      rw [ev_div n, ev_div (n + d)] at h1
      rw [ev_div (n + d), ev_div (n + 2 * d)] at h2
      by_cases hz : d % 3 = 0
      · have a1 : (n + d) / 3 = n / 3 + d / 3 := by omega
        have a2 : (n + 2 * d) / 3 = n / 3 + 2 * (d / 3) := by omega
        have b1 : (n + d) % 3 = n % 3 := by omega
        have b2 : (n + 2 * d) % 3 = n % 3 := by omega
        rw [a1, b1] at h1
        rw [a1, a2, b1, b2] at h2
        have e1 := led_inj h1
        have e2 := led_inj h2
        by_cases n0 : n = 0
        · subst n0
          exact ihd (d / 3) (by omega) (0 / 3) (fun m hm => by omega) (by omega)
            ⟨e1, e2⟩
        · exact ih (n / 3) (by omega) (d / 3) (by omega) ⟨e1, e2⟩
      · refine led_three h1 h2 ?_
        rcases (by omega : n % 3 = 0 ∨ n % 3 = 1 ∨ n % 3 = 2) with a | a | a <;>
          rcases (by omega : d % 3 = 1 ∨ d % 3 = 2) with b | b <;> omega
/-- the signs of a number by a base, the greatest place first -/
def sgs (b n : Nat) : List Nat :=
  if _h : n = 0 ∨ b < 2 then [] else sgs b (n / b) ++ [n % b]
termination_by n
decreasing_by
  have : 0 < n := by omega
  exact Nat.div_lt_self this (by omega)
theorem sgs_zero (b : Nat) : sgs b 0 = [] := by
  rw [sgs, dif_pos (Or.inl rfl)]
theorem sgs_pos {b n : Nat} (hb : 2 ≤ b) (h : n ≠ 0) :
    sgs b n = sgs b (n / b) ++ [n % b] := by
  rw [sgs, dif_neg (by omega)]
theorem ev_sgs (n : Nat) : (sgs 3 n).foldl led 0 = ev n := by
  induction n using Nat.strongRecOn with
  | ind n ih =>
    by_cases h : n = 0
    · subst h; rw [sgs_zero, ev_zero]; rfl
    · rw [sgs_pos (by decide) h, List.foldl_append, ih (n / 3) (by omega)]
      show led (ev (n / 3)) (n % 3) = ev n
      rw [← ev_step _ _ (Nat.mod_lt _ (by decide))]
      congr 1; omega
theorem sgs_len {b : Nat} (hb : 2 ≤ b) : ∀ {n k : Nat}, NB k n →
    (sgs b n).length ≤ k := by
  intro n
  induction n using Nat.strongRecOn with
  | ind n ih =>
    intro k h
    by_cases h0 : n = 0
    · subst h0; rw [sgs_zero]; exact Nat.zero_le _
    · rw [sgs_pos hb h0, List.length_append, List.length_singleton]
      cases k with
      | zero =>
        have : n < 1 := h
        omega
      | succ k =>
        have h2 : n / b ≤ n / 2 := Nat.div_le_div_left hb (by decide)
        have h3 : NB k (n / b) := by
          unfold NB at *
          rw [Nat.pow_succ] at h; omega
        have := ih (n / b) (by omega) h3
        omega
theorem sgs_lt {b : Nat} (hb : 2 ≤ b) (n : Nat) : ∀ s ∈ sgs b n, s < b := by
  induction n using Nat.strongRecOn with
  | ind n ih =>
    intro s hs
    by_cases h0 : n = 0
    · subst h0; rw [sgs_zero] at hs; cases hs
    · rw [sgs_pos hb h0] at hs
      rcases List.mem_append.mp hs with h | h
      · exact ih (n / b) (Nat.div_lt_self (by omega) (by omega)) s h
      · rw [List.mem_singleton] at h
        rw [h]; exact Nat.mod_lt _ (by omega)
theorem led_le {b s i : Nat} (hs : s < 3) (h : NB i b) : NB (i + 1) (led b s) := by
  unfold NB led at *
  rw [Nat.pow_succ]
  omega
theorem foldl_led {l : List Nat} (h : ∀ s ∈ l, s < 3) :
    NB l.length (l.foldl led 0) := by
  have : ∀ (l : List Nat) (b i : Nat), (∀ s ∈ l, s < 3) → NB i b →
      NB (i + l.length) (l.foldl led b) := by
    intro l
    induction l with
    | nil => intro b i _ h; exact h
    | cons x l ih =>
      intro b i h hb
      have := ih (led b x) (i + 1) (fun s hs => h s (List.mem_cons_of_mem _ hs))
        (led_le (h x (List.mem_cons_self ..)) hb)
      rw [List.length_cons]
      exact this.mono (by omega)
  have := this l 0 0 h (by unfold NB; decide)
  rwa [Nat.zero_add] at this
end My

namespace My
/-! ### dicts of numbers -/
def dlk : List (Nat × Nat) → Nat → Option Nat
  | [], _ => none
  | p :: r, k => if p.1 = k then some p.2 else dlk r k
def dget (m : List (Nat × Nat)) (k z : Nat) : Nat := (dlk m k).getD z
def dput : List (Nat × Nat) → Nat → Nat → List (Nat × Nat)
  | [], k, v => [(k, v)]
  | p :: r, k, v => if p.1 = k then (k, v) :: r else p :: dput r k v
theorem dlk_put (m : List (Nat × Nat)) (k v j : Nat) :
    dlk (dput m k v) j = if j = k then some v else dlk m j := by
  induction m with
  | nil =>
    show (if k = j then some v else none) = _
    by_cases h : j = k
    · rw [if_pos h, if_pos h.symm]
    · rw [if_neg h, if_neg fun z => h z.symm]; rfl
  | cons p r ih =>
    unfold dput
    by_cases hp : p.1 = k
    · rw [if_pos hp]
      show (if k = j then some v else dlk r j) = _
      by_cases h : j = k
      · rw [if_pos h, if_pos h.symm]
      · rw [if_neg h, if_neg fun z => h z.symm]
        show _ = if p.1 = j then _ else _
        rw [if_neg fun z => h (by omega)]
    · rw [if_neg hp]
      show (if p.1 = j then some p.2 else dlk (dput r k v) j) = _
      rw [ih]
      show _ = if j = k then some v else if p.1 = j then some p.2 else dlk r j
      by_cases h : j = k
      · rw [if_pos h, if_neg fun z => hp (by omega), if_pos h]
      · rw [if_neg h, if_neg h]
theorem dput_keys {m : List (Nat × Nat)} {k v x : Nat} :
    x ∈ (dput m k v).map (·.1) ↔ x = k ∨ x ∈ m.map (·.1) := by
  induction m with
  | nil => simp [dput]
  | cons p r ih =>
    unfold dput
    by_cases hp : p.1 = k
    · rw [if_pos hp]
      simp only [List.map_cons, List.mem_cons]
      constructor
      · rintro (h | h)
        · exact .inl h
        · exact .inr (.inr h)
      · rintro (h | h | h)
        · exact .inl h
        · exact .inl (by omega)
        · exact .inr h
    · rw [if_neg hp]
      simp only [List.map_cons, List.mem_cons, ih]
      constructor
      · rintro (h | h | h)
        · exact .inr (.inl h)
        · exact .inl h
        · exact .inr (.inr h)
      · rintro (h | h | h)
        · exact .inr (.inl h)
        · exact .inl h
        · exact .inr (.inr h)
theorem dput_nodup {m : List (Nat × Nat)} (h : (m.map (·.1)).Nodup) (k v : Nat) :
    ((dput m k v).map (·.1)).Nodup := by
  induction m with
  | nil => simp [dput]
  | cons p r ih =>
    have h1 := List.nodup_cons.mp (show (p.1 :: r.map (·.1)).Nodup from h)
    unfold dput
    by_cases hp : p.1 = k
    · rw [if_pos hp]
      show (k :: r.map (·.1)).Nodup
      rw [← hp]; exact h
    · rw [if_neg hp]
      show (p.1 :: (dput r k v).map (·.1)).Nodup
      refine List.nodup_cons.mpr ⟨fun z => ?_, ih h1.2⟩
      rcases dput_keys.mp z with z | z
      · exact hp z
      · exact h1.1 z
theorem dlk_none {m : List (Nat × Nat)} {k : Nat} (h : k ∉ m.map (·.1)) : dlk m k = none := by
  induction m with
  | nil => rfl
  | cons p r ih =>
    simp only [List.map_cons, List.mem_cons, not_or] at h
    show (if p.1 = k then _ else _) = _
    rw [if_neg fun z => h.1 z.symm, ih h.2]
theorem dlk_mem {m : List (Nat × Nat)} (h : (m.map (·.1)).Nodup) {k v : Nat} (hm' : (k, v) ∈ m) :
    dlk m k = some v := by
  induction m with
  | nil => cases hm'
  | cons p r ih =>
    have h1 := List.nodup_cons.mp (show (p.1 :: r.map (·.1)).Nodup from h)
    show (if p.1 = k then _ else _) = _
    rcases List.mem_cons.mp hm' with e | hm'
    · subst e; rw [if_pos rfl]
    · rw [if_neg fun z => h1.1 (by rw [z]; exact List.mem_map.mpr ⟨_, hm', rfl⟩), ih h1.2 hm']
/-! ### ways from heads -/
def ways (b : Nat) : Nat → Nat → Nat
  | 0, h => if h = b then 1 else 0
  | j + 1, h => ways b j (led h 0) + ways b j (led h 1) + ways b j (led h 2)
/-- a step of the table, entry by entry -/
def om1 (acc : List (Nat × Nat)) (p : Nat × Nat) : List (Nat × Nat) :=
  dput acc p.1 (dget acc p.1 0 + p.2)
def prs (p : Nat × Nat) : List (Nat × Nat) := [(2 * p.1 / 3, p.2), ((2 * p.1 + 1) / 3, p.2)]
def om (m : List (Nat × Nat)) : List (Nat × Nat) := (m.flatMap prs).foldl om1 []
theorem om1_get (l : List (Nat × Nat)) : ∀ (acc : List (Nat × Nat)) (h : Nat),
    dget (l.foldl om1 acc) h 0 = dget acc h 0 + ((l.filter fun p => p.1 = h).map (·.2)).sum := by
  induction l with
  | nil => intro acc h; simp
  | cons p r ih =>
    intro acc h
    rw [List.foldl_cons, ih]
    have e : dget (om1 acc p) h 0 = dget acc h 0 + (if p.1 = h then p.2 else 0) := by
      unfold om1 dget
      rw [dlk_put]
      by_cases hh : h = p.1
      · subst hh; simp
      · rw [if_neg hh, if_neg fun z => hh z.symm]; simp
    rw [e, List.filter_cons]
    by_cases hh : p.1 = h
    · simp [hh, Nat.add_assoc]
    · simp [hh]
theorem om1_keys (l : List (Nat × Nat)) : ∀ (acc : List (Nat × Nat)) (x : Nat),
    x ∈ (l.foldl om1 acc).map (·.1) ↔ x ∈ acc.map (·.1) ∨ x ∈ l.map (·.1) := by
  induction l with
  | nil => intro acc x; simp
  | cons p r ih =>
    intro acc x
    rw [List.foldl_cons, ih]
    unfold om1
    rw [dput_keys]
    simp only [List.map_cons, List.mem_cons]
    constructor
    · rintro ((h | h) | h)
      · exact .inr (.inl h)
      · exact .inl h
      · exact .inr (.inr h)
    · rintro (h | h | h)
      · exact .inl (.inr h)
      · exact .inl (.inl h)
      · exact .inr h
theorem om1_nodup (l : List (Nat × Nat)) : ∀ (acc : List (Nat × Nat)), (acc.map (·.1)).Nodup →
    ((l.foldl om1 acc).map (·.1)).Nodup := by
  induction l with
  | nil => intro acc h; exact h
  | cons p r ih => intro acc h; exact ih _ (dput_nodup h _ _)
/-- what an entry gives to a head -/
theorem prs_sum (p : Nat × Nat) (h : Nat) : (((prs p).filter fun q => q.1 = h).map (·.2)).sum =
    (if led h 0 = p.1 then p.2 else 0) + (if led h 1 = p.1 then p.2 else 0) +
      (if led h 2 = p.1 then p.2 else 0) := by
  obtain ⟨b, v⟩ := p
  have e : (((prs (b, v)).filter fun q => q.1 = h).map (·.2)).sum =
      (if 2 * b / 3 = h then v else 0) + (if (2 * b + 1) / 3 = h then v else 0) := by
    unfold prs
    by_cases h1 : 2 * b / 3 = h <;> by_cases h2 : (2 * b + 1) / 3 = h <;> simp [h1, h2]
  rw [e]
  show _ = (if led h 0 = b then v else 0) + (if led h 1 = b then v else 0) + (if led h 2 = b then v else 0)
  unfold led
  by_cases a1 : 2 * b / 3 = h <;> by_cases a2 : (2 * b + 1) / 3 = h <;>
    by_cases b0 : (3 * h + 0) / 2 = b <;> by_cases b1 : (3 * h + 1) / 2 = b <;>
    by_cases b2 : (3 * h + 2) / 2 = b <;> simp only [if_pos, if_neg, a1, a2, b0, b1, b2, not_false_eq_true, if_false, if_true] <;> omega
theorem sum_flat (f : Nat × Nat → Bool) (m : List (Nat × Nat)) :
    (((m.flatMap prs).filter f).map (·.2)).sum = (m.map fun p => (((prs p).filter f).map (·.2)).sum).sum := by
  induction m with
  | nil => rfl
  | cons p r ih =>
    rw [List.flatMap_cons, List.filter_append, List.map_append, List.sum_append, ih]; rfl
theorem sum_if (m : List (Nat × Nat)) (hn : (m.map (·.1)).Nodup) (x : Nat) :
    (m.map fun p => if x = p.1 then p.2 else 0).sum = dget m x 0 := by
  induction m with
  | nil => rfl
  | cons p r ih =>
    have h1 := List.nodup_cons.mp (show (p.1 :: r.map (·.1)).Nodup from hn)
    rw [List.map_cons, List.sum_cons, ih h1.2]
    unfold dget
    show _ = (if p.1 = x then some p.2 else dlk r x).getD 0
    by_cases h : x = p.1
    · rw [if_pos h, if_pos h.symm, dlk_none (by rw [h]; exact h1.1)]; rfl
    · rw [if_neg h, if_neg fun z => h z.symm, Nat.zero_add]
theorem om_get {m : List (Nat × Nat)} (hn : (m.map (·.1)).Nodup) (h : Nat) :
    dget (om m) h 0 = dget m (led h 0) 0 + dget m (led h 1) 0 + dget m (led h 2) 0 := by
  unfold om
  rw [om1_get, sum_flat]
  have e : (m.map fun p => (((prs p).filter fun q => q.1 = h).map (·.2)).sum).sum =
      (m.map fun p => if led h 0 = p.1 then p.2 else 0).sum + (m.map fun p => if led h 1 = p.1 then p.2 else 0).sum +
        (m.map fun p => if led h 2 = p.1 then p.2 else 0).sum := by
    clear hn
    induction m with
    | nil => rfl
    | cons p r ih =>
      simp only [List.map_cons, List.sum_cons]
      rw [ih, prs_sum]; omega
  rw [e, sum_if m hn, sum_if m hn, sum_if m hn]
  unfold dget
  show 0 + _ = _
  omega
def tab (b : Nat) : Nat → List (Nat × Nat)
  | 0 => [(b, 1)]
  | j + 1 => om (tab b j)
theorem tab_nodup (b j : Nat) : ((tab b j).map (·.1)).Nodup := by
  cases j with
  | zero => exact List.nodup_cons.mpr ⟨(fun z => nomatch z), List.nodup_nil⟩
  | succ j => exact om1_nodup _ [] List.nodup_nil
theorem tab_get (b : Nat) : ∀ j h, dget (tab b j) h 0 = ways b j h
  | 0, h => by
    show (if b = h then some 1 else none).getD 0 = if h = b then 1 else 0
    by_cases hh : h = b
    · rw [if_pos hh, if_pos hh.symm]; rfl
    · rw [if_neg hh, if_neg fun z => hh z.symm]; rfl
  | j + 1, h => by
    show dget (om (tab b j)) h 0 = _
    rw [om_get (tab_nodup b j), tab_get b j, tab_get b j, tab_get b j]; rfl
theorem tab_win (b : Nat) : ∀ j, ∃ lo, ∀ x ∈ (tab b j).map (·.1), lo ≤ x ∧ x ≤ lo + 2
  | 0 => ⟨b, fun x hx => by
      have : x = b := by simpa [tab] using hx
      omega⟩
  | j + 1 => by
    obtain ⟨lo, h⟩ := tab_win b j
    refine ⟨2 * lo / 3, fun x hx => ?_⟩
    have h1 := (om1_keys ((tab b j).flatMap prs) [] x).mp hx
    rcases h1 with h1 | h1
    · cases h1
    · obtain ⟨q, hq, rfl⟩ := List.mem_map.mp h1
      obtain ⟨p, hp, hq⟩ := List.mem_flatMap.mp hq
      have := h p.1 (List.mem_map.mpr ⟨p, hp, rfl⟩)
      unfold prs at hq
      simp only [List.mem_cons, List.not_mem_nil, or_false] at hq
      rcases hq with rfl | rfl
      · show 2 * lo / 3 ≤ 2 * p.1 / 3 ∧ 2 * p.1 / 3 ≤ _
        omega
      · show 2 * lo / 3 ≤ (2 * p.1 + 1) / 3 ∧ (2 * p.1 + 1) / 3 ≤ _
        omega
theorem nodup_win : ∀ {l : List Nat}, l.Nodup → (∃ lo, ∀ x ∈ l, lo ≤ x ∧ x ≤ lo + 2) → l.length ≤ 3
  | [], _, _ => by decide
  | [_], _, _ => by show 1 ≤ 3; decide
  | [_, _], _, _ => by show 2 ≤ 3; decide
  | [_, _, _], _, _ => by show 3 ≤ 3; decide
  | a :: b :: c :: d :: r, h, ⟨lo, w⟩ => by
    have ha := w a (by simp)
    have hb := w b (by simp)
    have hc := w c (by simp)
    have hd := w d (by simp)
    have n1 := List.nodup_cons.mp h
    have n2 := List.nodup_cons.mp n1.2
    have n3 := List.nodup_cons.mp n2.2
    have h1 : a ≠ b := fun z => n1.1 (by rw [z]; simp)
    have h2 : a ≠ c := fun z => n1.1 (by rw [z]; simp)
    have h3 : a ≠ d := fun z => n1.1 (by rw [z]; simp)
    have h4 : b ≠ c := fun z => n2.1 (by rw [z]; simp)
    have h5 : b ≠ d := fun z => n2.1 (by rw [z]; simp)
    have h6 : c ≠ d := fun z => n3.1 (by rw [z]; simp)
    omega
theorem tab_len (b j : Nat) : (tab b j).length ≤ 3 := by
  have := nodup_win (tab_nodup b j) (tab_win b j)
  rwa [List.length_map] at this
theorem ways_le (b : Nat) : ∀ j h, ways b j h ≤ 3 ^ j
  | 0, h => by show (if h = b then 1 else 0) ≤ 1; split <;> decide
  | j + 1, h => by
    have h0 := ways_le b j (led h 0)
    have h1 := ways_le b j (led h 1)
    have h2 := ways_le b j (led h 2)
    show _ + _ + _ ≤ _
    rw [Nat.pow_succ]; omega
/-! ### how many numbers of a book are less -/
def ec (b x : Nat) : Nat := ((List.range x).filter fun n => ev n = b).length
theorem ec_zero (b : Nat) : ec b 0 = 0 := rfl
theorem ec_succ (b x : Nat) : ec b (x + 1) = ec b x + (if ev x = b then 1 else 0) := by
  unfold ec
  rw [List.range_succ, List.filter_append, List.length_append]
  congr 1
  by_cases h : ev x = b <;> simp [h]
theorem ec_mono (b : Nat) {x y : Nat} (h : x ≤ y) : ec b x ≤ ec b y := by
  induction h with
  | refl => exact Nat.le_refl _
  | step _ ih => exact Nat.le_trans ih (by rw [Nat.succ_eq_add_one, ec_succ]; omega)
theorem ec_le (b x : Nat) : ec b x ≤ x := by
  induction x with
  | zero => exact Nat.le_refl _
  | succ x ih => rw [ec_succ]; split <;> omega
theorem ec_ways (b : Nat) : ∀ r y, ec b ((y + 1) * 3 ^ r) = ec b (y * 3 ^ r) + ways b r (ev y)
  | 0, y => by
    rw [Nat.pow_zero, Nat.mul_one, Nat.mul_one, ec_succ]; rfl
  | r + 1, y => by
    have e : ∀ z, z * 3 ^ (r + 1) = (3 * z) * 3 ^ r := fun z => by
      rw [Nat.pow_succ, Nat.mul_comm (3 ^ r), ← Nat.mul_assoc, Nat.mul_comm z]
    rw [e, e]
    have h0 := ec_ways b r (3 * y)
    have h1 := ec_ways b r (3 * y + 1)
    have h2 := ec_ways b r (3 * y + 2)
    have e0 := ev_step y 0 (by decide)
    have e1 := ev_step y 1 (by decide)
    have e2 := ev_step y 2 (by decide)
    rw [Nat.add_zero] at e0
    rw [e0] at h0
    rw [e1] at h1
    rw [e2] at h2
    show ec b ((3 * (y + 1)) * 3 ^ r) = _ + (ways b r (led (ev y) 0) + ways b r (led (ev y) 1) + ways b r (led (ev y) 2))
    have e3 : 3 * (y + 1) = 3 * y + 2 + 1 := by omega
    rw [e3, h2, show 3 * y + 2 = 3 * y + 1 + 1 from rfl, h1, h0]
    omega
/-- the less signs at a place -/
def lessW (b r h s : Nat) : Nat := ((List.range s).map fun k => ways b r (led h k)).sum
theorem lessW_succ (b r h s : Nat) : lessW b r h (s + 1) = lessW b r h s + ways b r (led h s) := by
  unfold lessW
  rw [List.range_succ, List.map_append, List.sum_append]
  show _ + (ways b r (led h s) + 0) = _
  rw [Nat.add_zero]
theorem ec_less (b r y : Nat) : ∀ s, s ≤ 3 →
    ec b ((3 * y + s) * 3 ^ r) = ec b ((3 * y) * 3 ^ r) + lessW b r (ev y) s
  | 0, _ => by rw [Nat.add_zero]; rfl
  | s + 1, h => by
    rw [show 3 * y + (s + 1) = 3 * y + s + 1 from rfl, ec_ways, ec_less b r y s (by omega), lessW_succ, ev_step y s (by omega)]
    omega
/-! ### there are numbers enough -/
theorem ways_zero (b r : Nat) : 2 * ways b r 0 ≤ ways b (r + 1) 0 := by
  show _ ≤ ways b r (led 0 0) + ways b r (led 0 1) + ways b r (led 0 2)
  rw [show led 0 0 = 0 from rfl, show led 0 1 = 0 from rfl]
  omega
theorem ways_pos : ∀ (k b : Nat), NB k b → ∃ j, j ≤ 2 * k ∧ 1 ≤ ways b j 0 := by
  have step : ∀ b j h, 1 ≤ ways (2 * b / 3) j h → 1 ≤ ways b (j + 1) h := by
    intro b j
    induction j with
    | zero =>
      intro h hh
      have e : h = 2 * b / 3 := by
        by_cases z : h = 2 * b / 3
        · exact z
        · have : ways (2 * b / 3) 0 h = 0 := if_neg z
          omega
      show 1 ≤ (if led h 0 = b then 1 else 0) + (if led h 1 = b then 1 else 0) + (if led h 2 = b then 1 else 0)
      unfold led
      by_cases b0 : (3 * h + 0) / 2 = b
      · rw [if_pos b0]; omega
      · by_cases b1 : (3 * h + 1) / 2 = b
        · rw [if_pos b1]; omega
        · have b2 : (3 * h + 2) / 2 = b := by omega
          rw [if_pos b2]; omega
    | succ j ih =>
      intro h hh
      have h3 : ways (2 * b / 3) (j + 1) h = ways (2 * b / 3) j (led h 0) + ways (2 * b / 3) j (led h 1) + ways (2 * b / 3) j (led h 2) := rfl
      show 1 ≤ ways b (j + 1) (led h 0) + ways b (j + 1) (led h 1) + ways b (j + 1) (led h 2)
      rcases (show 1 ≤ ways (2 * b / 3) j (led h 0) ∨ 1 ≤ ways (2 * b / 3) j (led h 1) ∨ 1 ≤ ways (2 * b / 3) j (led h 2) by omega) with z | z | z
      · have := ih _ z; omega
      · have := ih _ z; omega
      · have := ih _ z; omega
  intro k
  induction k with
  | zero =>
    intro b hb
    have : b = 0 := by unfold NB at hb; omega
    subst this
    exact ⟨0, by decide, by show 1 ≤ if 0 = 0 then 1 else 0; decide⟩
  | succ k ih =>
    intro b hb
    have h2 : NB k (2 * (2 * b / 3) / 3) := by
      unfold NB at *
      rw [Nat.pow_succ] at hb; omega
    obtain ⟨j, hj, hw⟩ := ih _ h2
    exact ⟨j + 1 + 1, by omega, step _ _ _ (step _ _ _ hw)⟩
theorem ways_many {k b : Nat} (hb : NB k b) {t x : Nat} (hx : NB t x) : x < ways b (2 * k + t) 0 := by
  obtain ⟨j, hj, hw⟩ := ways_pos k b hb
  have mono : ∀ d, 2 ^ d ≤ ways b (j + d) 0 := by
    intro d
    induction d with
    | zero => exact hw
    | succ d ih =>
      have := ways_zero b (j + d)
      rw [Nat.pow_succ, show j + (d + 1) = j + d + 1 from rfl]; omega
  have h1 := mono (2 * k + t - j)
  rw [show j + (2 * k + t - j) = 2 * k + t by omega] at h1
  have h2 : (2 : Nat) ^ t ≤ 2 ^ (2 * k + t - j) := Nat.pow_le_pow_right (by decide) (by omega)
  exact Nat.lt_of_lt_of_le hx (Nat.le_trans h2 h1)
theorem ways_mono0 (b : Nat) {i j : Nat} (h : i ≤ j) : ways b i 0 ≤ ways b j 0 := by
  induction h with
  | refl => exact Nat.le_refl _
  | step _ ih => exact Nat.le_trans ih (by have := ways_zero b (by assumption); rw [Nat.succ_eq_add_one]; omega)
/-- the number with so many of its book ahead is told by that -/
theorem ec_uniq {b j n m : Nat} (h1 : ev n = b) (h2 : ec b n = j) (h3 : ev m = b) (h4 : ec b m = j) : n = m := by
  rcases Nat.lt_trichotomy n m with g | g | g
  · have := ec_mono b (show n + 1 ≤ m from g)
    rw [ec_succ, if_pos h1] at this; omega
  · exact g
  · have := ec_mono b (show m + 1 ≤ n from g)
    rw [ec_succ, if_pos h3] at this; omega
end My

namespace My
open PySem PySem.Spec PyProof.Rows L2
/-! ### more rules: sets, powers, enumerate, methods, makes -/
section
variable {X : Cx}
/-- set(xs), xs a list of ints -/
def rSetL (K : PySem.W.Frag) : List V → Hp → VK → Prop := fun vs H Q =>
  ∃ (a : Addr) (ns : List Int), vs = [.ref a] ∧
    SqL K H a (ns.map V.int) ∧ ns.length < 4000 ∧
    ∀ p S n, H p = none → (∀ k, S k = decide (k ∈ ns)) →
      Q (.ref p) (upd H p (.set S n))
theorem any_getD (ns : List Int) (k : Int) :
    (((List.range ns.length).map fun i => ns.getD i 0).any (· == k)) =
      decide (k ∈ ns) := by
  have e : ((List.range ns.length).map fun i => ns.getD i 0) = ns := by
    apply List.ext_getElem
    · rw [List.length_map, List.length_range]
    · intro i h1 h2
      rw [List.getElem_map, List.getElem_range,
        List.getD_eq_getElem?_getD, List.getElem?_eq_getElem h2]
      rfl
  rw [e, Bool.eq_iff_iff, List.any_eq_true]
  constructor
  · rintro ⟨x, hx, h⟩
    have : x = k := by simpa using h
    subst this
    exact decide_eq_true hx
  · intro h
    exact ⟨k, of_decide_eq_true h, by simp⟩
theorem cr_setL (hc : X.calm = true) :
    CallR X (.type "set") (rSetL X.K) := by
  intro pins s σ H xs us Q I r h
  obtain ⟨a, ns, rfl, hl, hn, q⟩ := h
  obtain ⟨u, rfl, rx⟩ := vals1 r
  cases rx
  obtain ⟨its, rv, pl, hz⟩ := I.list hl
  have hlen := rv.length
  rw [List.length_map] at hlen
  have hia : IntsAre its.toArray.toList ns := by
    simpa using intsAre_of rv
  refine call_set_list (ns := ns) (I.ok.hd hc) pl.isList hia ?_ ?_
  · rw [List.size_toArray, ← hlen]
    unfold scanBound; omega
  · intro h' tk hs kp
    have hn' : H s.heap.objs.size = none := I.hok.fresh (Nat.le_refl _)
    refine ⟨.ref s.heap.objs.size, upd H s.heap.objs.size (.set _ _),
      I.laid (t' := tk) (fun b o e => kp b o (Heap.lt_size e) e)
      (Nat.le_refl _) (show ObjOk X.prog X.w _ h' _ (.set _ _) from hs),
      rfl, q _ _ _ hn' ?_⟩
    intro k
    show ((PyProof.Rows.firstMet (fun i => ns.getD i 0)
      its.toArray.size).any (· == k)) = _
    rw [PyProof.Rows.firstMet_any, List.size_toArray, ← hlen]
    exact any_getD ns k
/-- k in s, k not in s -/
def rInS : R2 := fun x y H Q => ∃ k a S n, x = .int k ∧ y = .ref a ∧
  H a = some (.set S n) ∧ Q (.bl (S k)) H
def rNiS : R2 := fun x y H Q => ∃ k a S n, x = .int k ∧ y = .ref a ∧
  H a = some (.set S n) ∧ Q (.bl (!S k)) H
theorem op_inS : OpR X (compareOp .In) rInS := by
  intro pins s σ H x y v u Q I rx ry h
  obtain ⟨k, a, S, n, rfl, rfl, ha, q⟩ := h
  obtain ⟨tk, rfl⟩ := rx
  cases ry
  have hs : s.heap.SetOf (intKind X.prog X.w) a S n := I.hok a _ ha
  exact wpAny_inSet_of (intKind_is _ _ _ _) rfl hs
    ⟨.bl (S k), H, I.tok _, rfl, q⟩
theorem op_niS : OpR X (compareOp .NotIn) rNiS := by
  intro pins s σ H x y v u Q I rx ry h
  obtain ⟨k, a, S, n, rfl, rfl, ha, q⟩ := h
  obtain ⟨tk, rfl⟩ := rx
  cases ry
  have hs : s.heap.SetOf (intKind X.prog X.w) a S n := I.hok a _ ha
  exact wpAny_notInSet_of (intKind_is _ _ _ _) rfl hs
    ⟨.bl (!S k), H, I.tok _, rfl, q⟩
/-- powers of any size -/
def CPowX (i j : Int) : Prop := 0 ≤ j ∧
  (Builtin.Int.intBits i : Int) * j ≤ 2 ^ 27
theorem op_powX : OpR X (binaryOp .Pow)
    (rI CPowX fun i j => .int (i ^ j.toNat)) :=
  opI fun _ _ _ _ _ _ _ hc q => pow_int hc.1 hc.2 q
end
/-! ### within a comprehension: the same, K named -/
section
variable {X : Cx} {K : PySem.W.Frag}
theorem ix_listK (h : X.K = K := by rfl) : IxR X (rIxL K) := h ▸ ix_list
theorem ix_tupK (h : X.K = K := by rfl) : IxR X (rIxT K) := h ▸ ix_tup
theorem sl_listK (h : X.K = K := by rfl) : SlR X (rSlL K) := h ▸ sl_list
theorem op_in_seqK (h : X.K = K := by rfl) :
    OpR X (compareOp .In) (rIn K false) := h ▸ op_in_seq
theorem op_notIn_seqK (h : X.K = K := by rfl) :
    OpR X (compareOp .NotIn) (rIn K true) := h ▸ op_notIn_seq
theorem op_eqDK (hu : X.A.units + 64 < cLine) (h : X.K = K := by rfl) :
    OpR X (compareOp .Eq) (rEqD K) := h ▸ op_eqD hu
theorem op_neDK (hu : X.A.units + 64 < cLine) (h : X.K = K := by rfl) :
    OpR X (compareOp .NotEq) (rNeD K) := h ▸ op_neD hu
def rLenS (K : PySem.W.Frag) : List V → Hp → VK → Prop := fun xs H Q =>
  ∃ p ys, xs = [.ref p] ∧ (SqL K H p ys ∨ SqT K H p ys) ∧
    Q (.int ys.length) H
theorem call_len_seqK (h : X.K = K := by rfl) :
    CallR X (.builtin "len") (rLenS K) := h ▸ call_len_seq
theorem cr_sumK (hc : X.calm = true) (h : X.K = K := by rfl) :
    CallR X (.builtin "sum") (rSum K) := h ▸ cr_sum hc
theorem cr_maxK (hc : X.calm = true) (h : X.K = K := by rfl) :
    CallR X (.builtin "max") (rMax K) := h ▸ cr_max hc
theorem cr_minK (hc : X.calm = true) (h : X.K = K := by rfl) :
    CallR X (.builtin "min") (rMin K) := h ▸ cr_min hc
theorem pi_listK {tg l : Expr} {tl : TE} (hl : PE X l tl)
    (h : X.K = K := by rfl) : PI X tg l (iList K tl) := h ▸ pi_list hl
theorem pi_tupK {tg l : Expr} {tl : TE} (hl : PE X l tl)
    (h : X.K = K := by rfl) : PI X tg l (iTup K tl) := h ▸ pi_tup hl
theorem pi_enumK {e : Expr} {ta : TA} {p pos tpos : Pos}
    {elts : List Expr} {kk : Nat} (hg : Gl X "enumerate")
    (hm : X.mg "enumerate" = none) (ha : PA X [e] ta)
    (h : X.K = K := by rfl)
    (hs : starEach [e] X.env = [(false, eval e X.env)] := by rfl) :
    PI X (.Tuple elts kk tpos) (.Call (.Name "enumerate" p) [e] [] pos)
      (iEnum K ta) := h ▸ pi_enum hg hm ha hs
theorem pg_tupK {es : List Expr} {k : Nat} {t : TGs} {n : Nat} {pos : Pos}
    (hc : X.calm = true) (hp : PGs X es t) (h : X.K = K := by rfl)
    (hn : (assignEach es X.env).length = n := by rfl)
    (hst : (assignEach es X.env).findIdx? (·.1) = none := by rfl) :
    PG X (.Tuple es k pos) (gTup K n t) := h ▸ pg_tup hc hp hn hst
theorem pe_fldK {e : Expr} {f : Str} {pos : Pos} {ta : TE} (he : PE X e ta)
    (hb : attributeBase e f X.env (eval e X.env) = eval e X.env)
    (h : X.K = K := by rfl) : PE X (.Attribute e f pos) (tFld K ta f) :=
  h ▸ pe_fld he hb
end
theorem xor_cast (a b : Nat) :
    Builtin.bitXor (a : Int) (b : Int) = ((a ^^^ b : Nat) : Int) := by
  have h : ∀ a b : Nat, a + b = (a ^^^ b) + 2 * (a &&& b) := by
    intro a
    induction a using Nat.strongRecOn with
    | ind a ih =>
      intro b
      by_cases h0 : a = 0
      · subst h0; simp
      · have h1 := ih (a / 2) (by omega) (b / 2)
        have x1 : (a ^^^ b) / 2 = a / 2 ^^^ b / 2 := Nat.xor_div_two
        have x2 : (a &&& b) / 2 = a / 2 &&& b / 2 := Nat.and_div_two
        have m1 : (a ^^^ b) % 2 = (a + b) % 2 := by
          have := Nat.xor_mod_two_pow (a := a) (b := b) (n := 1)
          simp only [Nat.pow_one] at this
          rw [this]
          rcases Nat.mod_two_eq_zero_or_one a with ea | ea <;>
            rcases Nat.mod_two_eq_zero_or_one b with eb | eb <;>
            rw [ea, eb] <;> simp <;> omega
        have m2 : (a &&& b) % 2 = a % 2 * (b % 2) := by
          have := Nat.and_mod_two_pow (a := a) (b := b) (n := 1)
          simp only [Nat.pow_one] at this
          rw [this]
          rcases Nat.mod_two_eq_zero_or_one a with ea | ea <;>
            rcases Nat.mod_two_eq_zero_or_one b with eb | eb <;>
            rw [ea, eb] <;> rfl
        rw [← x1, ← x2] at h1
        generalize a ^^^ b = u at *
        generalize a &&& b = v at *
        rcases Nat.mod_two_eq_zero_or_one a with ea | ea <;>
          rcases Nat.mod_two_eq_zero_or_one b with eb | eb <;>
          rw [ea, eb] at m2 <;> omega
  rw [bitXor_and]
  have e := h a b
  have e2 : Builtin.bitAnd (a : Int) (b : Int) = ((a &&& b : Nat) : Int) := by
    rw [bitAnd_pp (Int.natCast_nonneg a) (Int.natCast_nonneg b)]
    rfl
  rw [e2]
  omega
theorem or_cast (a b : Nat) :
    Builtin.bitOr (a : Int) (b : Int) = ((a ||| b : Nat) : Int) := by
  rw [bitOr_nn (Int.natCast_nonneg _) (Int.natCast_nonneg _)]
  rfl
theorem and_cast (a b : Nat) :
    Builtin.bitAnd (a : Int) (b : Int) = ((a &&& b : Nat) : Int) := by
  rw [bitAnd_pp (Int.natCast_nonneg a) (Int.natCast_nonneg b)]
  rfl
theorem shr_cast (n k : Nat) :
    (n : Int) / 2 ^ k = ((n / 2 ^ k : Nat) : Int) := by
  rw [Int.natCast_ediv, PySem.W.kbt_cast]
/-! ### the same over naturals -/
def rN2 (g : Nat → Nat → Nat) : R2 := fun x y H Q => ∃ n m : Nat,
  x = .int (n : Nat) ∧ y = .int (m : Nat) ∧ Q (.int (g n m : Nat)) H
section
variable {X : Cx}
theorem op_xorN : OpR X (binaryOp .BitXor) (rN2 fun n m => n ^^^ m) := by
  intro pins s σ H x y v u Q I rx ry h
  obtain ⟨n, m, rfl, rfl, q⟩ := h
  rw [← xor_cast] at q
  exact op_xor pins s σ H _ _ v u Q I rx ry ⟨_, _, rfl, rfl, q⟩
theorem op_orN : OpR X (binaryOp .BitOr) (rN2 fun n m => n ||| m) := by
  intro pins s σ H x y v u Q I rx ry h
  obtain ⟨n, m, rfl, rfl, q⟩ := h
  rw [← or_cast] at q
  exact op_or pins s σ H _ _ v u Q I rx ry ⟨_, _, rfl, rfl, q⟩
theorem op_andN : OpR X (binaryOp .BitAnd) (rN2 fun n m => n &&& m) := by
  intro pins s σ H x y v u Q I rx ry h
  obtain ⟨n, m, rfl, rfl, q⟩ := h
  rw [← and_cast] at q
  exact op_and pins s σ H _ _ v u Q I rx ry ⟨_, _, rfl, rfl, q⟩
theorem op_shrM : OpR X (binaryOp .RShift)
    (rN2 fun n m => n / 2 ^ m) := by
  intro pins s σ H x y v u Q I rx ry h
  obtain ⟨n, m, rfl, rfl, q⟩ := h
  rw [← shr_cast] at q
  exact op_shrN pins s σ H _ _ v u Q I rx ry ⟨_, _, rfl, rfl, q⟩
/-- 1 << k -/
def rOne : R2 := fun x y H Q => ∃ k : Nat, x = .int 1 ∧
  y = .int (k : Nat) ∧ k ≤ 134217727 ∧ Q (.int (2 ^ k : Nat)) H
theorem op_one : OpR X (binaryOp .LShift) rOne := by
  intro pins s σ H x y v u Q I rx ry h
  obtain ⟨k, rfl, rfl, hk, q⟩ := h
  rw [PySem.W.kbt_cast] at q
  exact op_oneShl pins s σ H _ _ v u Q I rx ry ⟨_, rfl, rfl, hk, q⟩
end
/-- for k, x in enumerate(xs) -/
theorem for_enum {K : PySem.W.Frag} {a : Addr} {xs : List V} {g : TG}
    {tb : TS} {D : Ends} {σ : L2.St} {H : Hp}
    (Pv : Nat → L2.St → Hp → Prop) (h0 : Pv 0 σ H)
    (hl : ∀ i σ H, i ≤ xs.length → Pv i σ H → SqL K H a xs)
    (hs : ∀ i x σ H T, xs[i]? = some x → Pv i σ H → H T = none →
      g (.ref T) σ (upd H T (.tup [.int (i : Nat), x])) fun σ2 H2 =>
        tb { D with nx := Pv (i + 1), ct := Pv (i + 1), bk := D.nx }
          σ2 H2)
    (hd : ∀ σ H, Pv xs.length σ H → D.nx σ H) :
    ∃ W : Nat → Nat → L2.St → Hp → Prop, (∃ m, W 0 m σ H) ∧
      ∀ i m σ H, W i m σ H →
      ((Ite K a).stop i H ∧ D.nx σ H) ∨ ((Ite K a).go i H ∧
        ∃ N : L2.St → Hp → Prop,
        (∀ σ' H', N σ' H' → ∃ m', m' < m ∧ W (i + 1) m' σ' H') ∧
        ∀ x H', (Ite K a).yld i H x H' → g x σ H' fun σ2 H2 =>
          tb { D with nx := N, ct := N, bk := D.nx } σ2 H2) := by
  refine ⟨fun i m σ H => m = xs.length - i ∧ i ≤ xs.length ∧ Pv i σ H,
    ⟨xs.length, by simp, Nat.zero_le _, h0⟩, ?_⟩
  rintro i m σ H ⟨rfl, hi, p⟩
  have q := hl i σ H hi p
  by_cases hlt : i < xs.length
  · refine Or.inr ⟨⟨xs, xs[i], q, List.getElem?_eq_getElem hlt⟩,
      Pv (i + 1), ?_, ?_⟩
    · intro σ' H' p'
      exact ⟨xs.length - (i + 1), by omega, rfl, hlt, p'⟩
    · rintro x H' ⟨T, y, rfl, nT, rfl, fy⟩
      exact hs i y σ H T (fy xs q) p nT
  · have e : i = xs.length := by omega
    subst e
    exact Or.inl ⟨⟨xs, q, Nat.le_refl _⟩, hd σ H p⟩
/-! ### classes -/
structure Dm (P : Program) (w : World) (K : PySem.W.Frag)
    (mg : Str → Option Value) (base : Heap) (C : Addr) (m : Str)
    (k : Nat) (ps : List Str) (sp : Sp) : Prop where
  ok : ∃ f fd, Meth K C m f ∧ Binds K fd ps [] ∧
    FnOk P w K mg base CX0 k f fd ps sp
structure Dk (P : Program) (w : World) (K : PySem.W.Frag)
    (mg : Str → Option Value) (base : Heap) (C : Addr) (x : Str)
    (k : Nat) (ps : List Str) (sp : Sp) : Prop where
  ok : ∃ f fd, mg x = some (.ref C) ∧ Mk K C f ∧ Binds K fd ps [] ∧
    FnOk P w K mg base CX0 k f fd ps sp
section
variable {X : Cx} {C : Addr} {m x : Str} {k : Nat} {ps : List Str}
variable {sp : Sp} {p pos apos : Pos} {e o : Expr} {es : List Expr}
variable {ta : TE} {t : TA}
theorem pe_dm {pl : Sem Bool} (c : Cls X.K C)
    (D : Dm X.prog X.w X.K X.mg X.base C m k ps sp) (hr : Room k X.A)
    (he : PE X o ta) (ha : PA X (e :: es) t)
    (hst : starEach (e :: es) X.env =
      (false, eval e X.env) :: starEach es X.env := by rfl)
    (hpl : (backTo pos (starEach es X.env)).any (·.1) = false := by
      rfl)
    (ht : eval (.Call (.Attribute o m apos) (e :: es) [] pos) X.env =
      (do
        let ov ← eval o X.env
        standAt apos.atName
        let (f, first) ← holding [ov] (getMethod ov m pl)
        callWith pos f first
          (backTo pos (starEach (e :: es) X.env))
          (backToKw pos (keywordEach [] X.env))) := by rfl) :
    PE X (.Call (.Attribute o m apos) (e :: es) [] pos)
      (tMeth C m sp [] E0 ta t) := by
  obtain ⟨f, fd, M, b, G⟩ := D.ok
  exact pe_meth he c M G hr b .nil pass0 ha hst hpl ht
theorem pe_dm0 {pl : Sem Bool} (c : Cls X.K C)
    (D : Dm X.prog X.w X.K X.mg X.base C m k ps sp) (hr : Room k X.A)
    (he : PE X o ta)
    (ht : eval (.Call (.Attribute o m apos) [] [] pos) X.env =
      (do
        let ov ← eval o X.env
        standAt apos.atName
        let (f, first) ← holding [ov] (getMethod ov m pl)
        callWith pos f first (backTo pos (starEach [] X.env))
          (backToKw pos (keywordEach [] X.env))) := by rfl) :
    PE X (.Call (.Attribute o m apos) [] [] pos)
      (tMeth C m sp [] E0 ta tNil) := by
  obtain ⟨f, fd, M, b, G⟩ := D.ok
  exact pe_meth0 he c M G hr b .nil pass0 ht
theorem pe_dk (D : Dk X.prog X.w X.K X.mg X.base C x k ps sp)
    (hr : Room (k + 1) X.A) (hg : Gl X x) (ha : PA X (e :: es) t)
    (hdb : (x == ("__debug__" : Str)) = false := by decide)
    (he : starEach (e :: es) X.env =
      (false, eval e X.env) :: starEach es X.env := by rfl)
    (hpl : (backTo pos (starEach es X.env)).any (·.1) = false := by
      rfl) :
    PE X (.Call (.Name x p) (e :: es) [] pos)
      (tMake C sp [] E0 t) := by
  obtain ⟨f, fd, m, M, b, G⟩ := D.ok
  exact pe_make M G hr hg m b .nil pass0 ha hdb he hpl
end

/-! ### lists of numbers -/
def nV (l : List Nat) : List V := l.map fun i => V.int (i : Nat)
def ci (l : List Nat) : List Int := l.map fun i : Nat => (i : Int)
theorem nV_int (l : List Nat) : nV l = (ci l).map V.int := by
  unfold nV ci
  rw [List.map_map]
  rfl
theorem inV_nat {l : List Nat} {i : Nat} :
    inV (.int (i : Nat)) (nV l) = decide (i ∈ l) := by
  unfold nV
  induction l with
  | nil => rfl
  | cons x r ih =>
    show (eqV (.int (x : Nat)) (.int (i : Nat)) ||
      inV (.int (i : Nat)) (r.map fun i => V.int (i : Nat))) = _
    rw [ih]
    have e : eqV (.int (x : Nat)) (.int (i : Nat)) = decide (i = x) := by
      show ((x : Int) == (i : Int)) = decide (i = x)
      by_cases h : i = x
      · subst h; simp
      · have h' : ¬ ((x : Int) = (i : Int)) := by omega
        simp [h, h']
    rw [e]
    by_cases h1 : i = x
    · simp [h1]
    · by_cases h2 : i ∈ r
      · simp [h2]
      · simp [h1, h2]
theorem flat_nat (l : List Nat) : (nV l).all flatV = true := by
  rw [List.all_eq_true]
  intro x hx
  obtain ⟨i, _, rfl⟩ := List.mem_map.mp hx
  rfl
theorem nV_len (l : List Nat) : (nV l).length = l.length :=
  List.length_map ..
theorem nV_app (l m : List Nat) : nV (l ++ m) = nV l ++ nV m :=
  List.map_append ..
theorem nV_take (l : List Nat) (k : Nat) :
    (nV l).take k = nV (l.take k) := List.map_take.symm
theorem nV_drop (l : List Nat) (k : Nat) :
    (nV l).drop k = nV (l.drop k) := List.map_drop.symm
theorem nV_get {l : List Nat} {i : Nat} {x : V} (h : (nV l)[i]? = some x) :
    ∃ s, l[i]? = some s ∧ x = .int (s : Nat) := map_get h
theorem mem_ci {l : List Nat} {i : Nat} : (i : Int) ∈ ci l ↔ i ∈ l := by
  unfold ci
  constructor
  · intro h
    obtain ⟨j, hj, e⟩ := List.mem_map.mp h
    have : j = i := by omega
    subst this; exact hj
  · intro h; exact List.mem_map.mpr ⟨i, h, rfl⟩
theorem perm_cast {ys : List Int} {l : List Nat} (h : ys.Perm (ci l)) :
    ∃ ms : List Nat, ys = ci ms ∧ ms.Perm l := by
  refine ⟨ys.map Int.toNat, ?_, ?_⟩
  · unfold ci
    rw [List.map_map]
    have : ∀ y ∈ ys, ((fun i : Nat => (i : Int)) ∘ Int.toNat) y = y := by
      intro y hy
      obtain ⟨i, _, e⟩ := List.mem_map.mp (h.mem_iff.mp hy)
      show ((y.toNat : Nat) : Int) = y
      omega
    rw [List.map_congr_left this, List.map_id']
  · have := h.map Int.toNat
    unfold ci at this
    rw [List.map_map] at this
    have e : (Int.toNat ∘ fun i : Nat => (i : Int)) = id := by
      funext i; rfl
    rw [e, List.map_id] at this
    exact this
theorem cut_take (xs : List V) (n : Nat) :
    cutV xs none (some (n : Int)) = xs.take n := by
  unfold cutV
  rw [show HT.sIx xs.length 0 none = 0 from HT.sIx_none ..,
    show HT.sIx xs.length xs.length (some (n : Int)) =
      min n xs.length from HT.sIx_nat ..]
  show List.take (min n xs.length - 0) (xs.drop 0) = xs.take n
  rw [Nat.sub_zero, List.drop_zero, List.take_eq_take_iff]
  omega
theorem cut_drop (xs : List V) (n : Nat) :
    cutV xs (some (n : Int)) none = xs.drop n := by
  unfold cutV
  rw [show HT.sIx xs.length xs.length none = xs.length from
      HT.sIx_none ..,
    show HT.sIx xs.length 0 (some (n : Int)) =
      min n xs.length from HT.sIx_nat ..]
  rcases Nat.le_total n xs.length with h | h
  · rw [Nat.min_eq_left h]
    refine List.take_of_length_le ?_
    rw [List.length_drop]; exact Nat.le_refl _
  · rw [Nat.min_eq_right h, Nat.sub_self, List.take_zero,
      List.drop_eq_nil_of_le h]
theorem dpN {K : PySem.W.Frag} {H : Hp} {a : Addr} {l : List Nat}
    (h : SqL K H a (nV l)) :
    Dp K H (.ref a) (.list ((ci l).map PyData.int)) := by
  rw [nV_int] at h; exact dpL h
theorem rg_nat (n : Nat) : rgV 0 (n : Int) = nV (List.range n) := by
  unfold rgV nV
  rw [show ((n : Int) - 0).toNat = n by omega]
  refine List.map_congr_left fun i _ => ?_
  show V.int (0 + (i : Int)) = V.int (i : Int)
  rw [Int.zero_add]
theorem nV_nodup_lt {m : List Nat} {l : List Nat}
    (srt : (ci m).Pairwise (· ≤ ·)) (pm : m.Perm l) (nd : l.Nodup) :
    m.Pairwise (· < ·) := by
  have h1 : m.Pairwise (· ≤ ·) := by
    unfold ci at srt
    rw [List.pairwise_map] at srt
    refine srt.imp ?_
    intro x y h
    omega
  have h2 : m.Pairwise (· ≠ ·) := pm.nodup_iff.mpr nd
  refine (h1.and h2).imp ?_
  intro x y h
  omega

def bl (n : Nat) : Nat := Builtin.Int.intBits (n : Int)

/-! ### the pen: cells, begun, left -/
theorem ne_cb : ¬ ((Sum.inr ("cells" : Str) : Key) = Sum.inr ("turn" : Str)) := by
  decide +kernel
theorem ne_cl : ¬ ((Sum.inr ("cells" : Str) : Key) = Sum.inr ("left" : Str)) := by
  decide +kernel
theorem ne_bl : ¬ ((Sum.inr ("turn" : Str) : Key) = Sum.inr ("left" : Str)) := by
  decide +kernel
theorem ne_bc : ¬ ((Sum.inr ("turn" : Str) : Key) = Sum.inr ("cells" : Str)) :=
  fun h => ne_cb h.symm
theorem ne_lb : ¬ ((Sum.inr ("left" : Str) : Key) = Sum.inr ("turn" : Str)) :=
  fun h => ne_bl h.symm
theorem ne_lc : ¬ ((Sum.inr ("left" : Str) : Key) = Sum.inr ("cells" : Str)) :=
  fun h => ne_cl h.symm
def penKvs (c : Addr) (b l : Int) : List (Key × V) :=
  [(Sum.inr "cells", .ref c), (Sum.inr "turn", .int b),
    (Sum.inr "left", .int l)]
theorem kvs_cells (c : Addr) (b l : Int) :
    valV (penKvs c b l) (Sum.inr "cells") = some (.ref c) :=
  valV_pos rfl
theorem kvs_begun (c : Addr) (b l : Int) :
    valV (penKvs c b l) (Sum.inr "turn") = some (.int b) :=
  (valV_neg ne_cb).trans (valV_pos rfl)
theorem kvs_left (c : Addr) (b l : Int) :
    valV (penKvs c b l) (Sum.inr "left") = some (.int l) :=
  (valV_neg ne_cl).trans ((valV_neg ne_bl).trans (valV_pos rfl))
theorem put_begun (c : Addr) (b l x : Int) :
    putK (penKvs c b l) (Sum.inr "turn") (.int x) = penKvs c x l := by
  unfold putK
  rw [if_pos (by rw [valV_any, kvs_begun]; rfl)]
  unfold penKvs
  simp only [List.map_cons, List.map_nil, if_neg ne_cb, if_neg ne_lb,
    if_pos]
theorem put_left (c : Addr) (b l x : Int) :
    putK (penKvs c b l) (Sum.inr "left") (.int x) = penKvs c b x := by
  unfold putK
  rw [if_pos (by rw [valV_any, kvs_left]; rfl)]
  unfold penKvs
  simp only [List.map_cons, List.map_nil, if_neg ne_cl, if_neg ne_bl,
    if_pos]
theorem merge_pen (c : Addr) (b l : Int) :
    mergeK [] (penKvs c b l) = penKvs c b l := by
  let kc : Key := Sum.inr "cells"
  let kb : Key := Sum.inr "turn"
  let kl : Key := Sum.inr "left"
  have e1 : putK ([] : List (Key × V)) kc (V.ref c) =
      [(kc, V.ref c)] := putK_new _ valV_nil
  have e2 : putK ([(kc, V.ref c)] : List (Key × V)) kb (V.int b) =
      [(kc, V.ref c), (kb, V.int b)] :=
    putK_new _ ((valV_neg ne_cb).trans valV_nil)
  have e3 : putK ([(kc, V.ref c), (kb, V.int b)] : List (Key × V))
      kl (V.int l) = [(kc, V.ref c), (kb, V.int b), (kl, V.int l)] :=
    putK_new _ ((valV_neg ne_cl).trans ((valV_neg ne_bl).trans valV_nil))
  show putK (putK (putK [] kc (V.ref c)) kb (V.int b)) kl (V.int l) = _
  rw [e1, e2, e3]
  rfl
section
variable {H : Hp} {p c : Addr} {b l : Int}
theorem get_cells (h : H p = some (.dK (penKvs c b l))) :
    DGet H p (.str "cells") (some (.ref c)) := by
  have z := DGet.k (k := Sum.inr "cells") h
  rw [kvs_cells] at z; exact z
theorem get_begun (h : H p = some (.dK (penKvs c b l))) :
    DGet H p (.str "turn") (some (.int b)) := by
  have z := DGet.k (k := Sum.inr "turn") h
  rw [kvs_begun] at z; exact z
theorem get_left (h : H p = some (.dK (penKvs c b l))) :
    DGet H p (.str "left") (some (.int l)) := by
  have z := DGet.k (k := Sum.inr "left") h
  rw [kvs_left] at z; exact z
theorem dput_begun (h : H p = some (.dK (penKvs c b l))) (x : Int) :
    DPut H p (.str "turn") (.int x)
      (upd H p (.dK (penKvs c x l))) := by
  have z := DPut.k (k := Sum.inr "turn") (v := .int x) h
    (by show 3 < sizeLine; decide)
  rw [put_begun] at z; exact z
theorem dput_left (h : H p = some (.dK (penKvs c b l))) (x : Int) :
    DPut H p (.str "left") (.int x)
      (upd H p (.dK (penKvs c b x))) := by
  have z := DPut.k (k := Sum.inr "left") (v := .int x) h
    (by show 3 < sizeLine; decide)
  rw [put_left] at z; exact z
end
/-- the pen p, its cells at c, at most n of them begun -/
structure Pen (H : Hp) (p c : Addr) (n : Nat) : Prop where
  ex : ∃ (cs : List Int) (b : Nat) (l : Int),
    H p = some (.dK (penKvs c b l)) ∧ H c = some (.lst (cs.map V.int)) ∧
    cs.length ≤ 63 ∧ (∀ z ∈ cs, BB 1048576 z) ∧ b ≤ n ∧ BB 1048576 l
theorem Pen.mono {H : Hp} {p c : Addr} {n m : Nat} (h : Pen H p c n)
    (l : n ≤ m) : Pen H p c m := by
  obtain ⟨cs, b, x, h1, h2, h3, h4, h5, h6⟩ := h.ex
  exact ⟨cs, b, x, h1, h2, h3, h4, by omega, h6⟩
theorem Pen.p {H : Hp} {p c : Addr} {n : Nat} (h : Pen H p c n) :
    ∃ k, H p = some (.dK k) := by
  obtain ⟨cs, b, x, h1, h2, h3, h4, h5, h6⟩ := h.ex
  exact ⟨_, h1⟩
theorem Pen.c {H : Hp} {p c : Addr} {n : Nat} (h : Pen H p c n) :
    ∃ k, H c = some (.lst k) := by
  obtain ⟨cs, b, x, h1, h2, h3, h4, h5, h6⟩ := h.ex
  exact ⟨_, h2⟩
theorem Pen.same {H H' : Hp} {p c : Addr} {n : Nat} (h : Pen H p c n)
    (s : Same H H') : Pen H' p c n := by
  obtain ⟨cs, b, x, h1, h2, h3, h4, h5, h6⟩ := h.ex
  exact ⟨cs, b, x, s _ _ h1, s _ _ h2, h3, h4, h5, h6⟩
theorem Pen.new {H : Hp} {p c q : Addr} {n : Nat} {o : HO}
    (h : Pen H p c n) (hq : H q = none) : Pen (upd H q o) p c n :=
  h.same (same_new (Same.refl H) hq)
theorem Pen.set {H : Hp} {p c q : Addr} {n : Nat} {o : HO}
    (h : Pen H p c n) (np : q ≠ p) (nc : q ≠ c) :
    Pen (upd H q o) p c n := by
  obtain ⟨cs, b, x, h1, h2, h3, h4, h5, h6⟩ := h.ex
  refine ⟨cs, b, x, ?_, ?_, h3, h4, h5, h6⟩
  · rw [upd_ne (Ne.symm np)]; exact h1
  · rw [upd_ne (Ne.symm nc)]; exact h2
theorem Pen.nep {H : Hp} {p c q : Addr} {n : Nat} (h : Pen H p c n)
    (hq : H q = none) : q ≠ p := by
  obtain ⟨k, e⟩ := h.p
  exact (ne_of_none e hq).symm
theorem Pen.nec {H : Hp} {p c q : Addr} {n : Nat} (h : Pen H p c n)
    (hq : H q = none) : q ≠ c := by
  obtain ⟨k, e⟩ := h.c
  exact (ne_of_none e hq).symm
/-- no list is the pen -/
theorem Pen.nel {H : Hp} {p c q : Addr} {n : Nat} {k : List V}
    (h : Pen H p c n) (hq : H q = some (.lst k)) : q ≠ p := by
  obtain ⟨z, e⟩ := h.p
  exact ne_of hq e (by intro y; cases y)
def spDraw : Sp := fun vs H Q _ => ∃ (p c : Addr) (n : Nat) (m : Int),
  vs = [.ref p, .int m] ∧ 0 < m ∧ BB 8000 m ∧ Pen H p c n ∧
  n < 1000000000000000000 ∧ ∀ H' d, Keep p H H' → Pen H' p c (n + 1) →
    0 ≤ d → d < m → Q (.int d) H'
theorem BB.abs {k : Nat} {z : Int} (h : BB k z) :
    BB k (if z < 0 then -z else z) := by
  refine h.le ?_
  split <;> omega
theorem mix_eq (x a : Int) (y : Int) : x + a = y → x = y - a := by
  omega
section
variable {K : PySem.W.Frag}
def spPen (K : PySem.W.Frag) : Sp := fun vs H Q _ =>
  ∃ (a : Addr) (ns : List Int), vs = [.ref a] ∧
    SqL K H a (ns.map V.int) ∧ ns.length ≤ 63 ∧
    (∀ z ∈ ns, BB 1048576 z) ∧ ∀ H' p c, Same H H' → H p = none →
      H c = none → Pen H' p c 0 → Q (.ref p) H'
theorem cut_to (xs : List V) (n : Nat) (h : xs.length ≤ n) :
    cutV xs none (some (n : Int)) = xs := by
  unfold cutV
  rw [show HT.sIx xs.length 0 none = 0 from HT.sIx_none ..,
    show HT.sIx xs.length xs.length (some (n : Int)) =
      min n xs.length from HT.sIx_nat ..]
  rw [Nat.min_eq_right h]
  show List.take (xs.length - 0) xs = xs
  rw [Nat.sub_zero]
  exact List.take_length
def spPick (K : PySem.W.Frag) : Sp := fun vs H Q _ =>
  ∃ (p c a : Addr) (n : Nat) (xs : List V), vs = [.ref p, .ref a] ∧
    SqL K H a xs ∧ 0 < xs.length ∧ xs.length ≤ 1000000 ∧ Pen H p c n ∧
    n < 1000000000000000000 ∧ ∀ H' v, Keep p H H' →
      Pen H' p c (n + 1) → v ∈ xs → Q v H'
end

/-! ### things in the heap, each apart from all others -/
/-- a thing of one's own kind: what it says of some addresses, all there -/
structure RsT where
  P : Hp → List Addr → Prop
  al : ∀ H F, P H F → ∀ a ∈ F, ∃ o, H a = some o
  lo : ∀ H H' F, P H F → (∀ a ∈ F, H' a = H a) → P H' F
inductive Res where
  | own (t : RsT)
  | obj (a : Addr) (o : HO)
  | pen (p : Addr) (n : Nat)
  | sql (K : PySem.W.Frag) (a : Addr) (xs : List V)
def Res.P : Res → Hp → List Addr → Prop
  | .own t, H, F => t.P H F
  | .obj a o, H, F => F = [a] ∧ H a = some o
  | .pen p n, H, F => ∃ c, F = [p, c] ∧ Pen H p c n
  | .sql K a xs, H, F => (F = [a] ∧ Rd H a (.lst xs)) ∨
    (F = [] ∧ ∀ H', SqL K H' a xs)
theorem Pen.loc {H H' : Hp} {p c : Addr} {n : Nat} (h : Pen H p c n)
    (e1 : H' p = H p) (e2 : H' c = H c) : Pen H' p c n := by
  have e : ∃ G : Hp, G = (fun a => if a = p ∨ a = c then H a else none) := ⟨_, rfl⟩
  obtain ⟨G, eG⟩ := e
  obtain ⟨kk, hk⟩ := h.p
  obtain ⟨kc, hc⟩ := h.c
  obtain ⟨h⟩ := h
  constructor
  simp only [e1, e2]
  exact h
theorem Res.al {r : Res} {H : Hp} {F : List Addr} (h : r.P H F) :
    ∀ a ∈ F, ∃ o, H a = some o := by
  cases r with
  | own t => exact t.al H F h
  | obj a o =>
    obtain ⟨rfl, e⟩ := h
    intro b hb
    rw [List.mem_singleton] at hb
    subst hb; exact ⟨_, e⟩
  | pen p n =>
    obtain ⟨c, rfl, P⟩ := h
    intro b hb
    rcases List.mem_cons.mp hb with e | hb
    · obtain ⟨k, e'⟩ := P.p
      subst e; exact ⟨_, e'⟩
    · rw [List.mem_singleton] at hb
      obtain ⟨k, e'⟩ := P.c
      subst hb; exact ⟨_, e'⟩
  | sql K a xs =>
    intro b hb
    rcases h with ⟨rfl, e⟩ | ⟨rfl, _⟩
    · rw [List.mem_singleton] at hb
      subst hb
      rcases e with e | ⟨o, e⟩ <;> exact ⟨_, e⟩
    · cases hb
theorem Res.lo {r : Res} {H H' : Hp} {F : List Addr} (h : r.P H F)
    (k : ∀ a ∈ F, H' a = H a) : r.P H' F := by
  cases r with
  | own t => exact t.lo H H' F h k
  | obj a o =>
    obtain ⟨rfl, e⟩ := h
    exact ⟨rfl, by rw [k a (List.mem_singleton.mpr rfl)]; exact e⟩
  | pen p n =>
    obtain ⟨c, rfl, P⟩ := h
    exact ⟨c, rfl, P.loc (k p (by simp)) (k c (by simp))⟩
  | sql K a xs =>
    rcases h with ⟨rfl, e⟩ | ⟨rfl, e⟩
    · have ea : H' a = H a := k a (List.mem_singleton.mpr rfl)
      refine .inl ⟨rfl, ?_⟩
      rcases e with e | ⟨o, e⟩
      · exact .inl (ea.trans e)
      · exact .inr ⟨o, ea.trans e⟩
    · exact .inr ⟨rfl, e⟩
def SepU (H : Hp) : List Res → List Addr → Prop
  | [], _ => True
  | r :: rs, U => ∃ F, r.P H F ∧ (∀ a ∈ F, a ∉ U) ∧ SepU H rs (F ++ U)
structure Sep (H : Hp) (rs : List Res) : Prop where
  ex : SepU H rs []
/-- another heap, other things that were used -/
theorem SepU.to {H H' : Hp} : ∀ {rs : List Res} {U U' : List Addr},
    SepU H rs U → (∀ a ∈ U', a ∈ U ∨ H a = none) →
    (∀ a o, H a = some o → a ∉ U → H' a = some o) → SepU H' rs U'
  | [], _, _, _, _, _ => trivial
  | r :: rs, U, U', ⟨F, h1, h2, h3⟩, hu, k => by
    have al := Res.al h1
    have e : ∀ a ∈ F, H' a = H a := fun a ha => by
      obtain ⟨o, e⟩ := al a ha
      rw [k a o e (h2 a ha), e]
    refine ⟨F, Res.lo h1 e, fun a ha hu' => ?_, h3.to ?_ ?_⟩
    · rcases hu a hu' with z | z
      · exact h2 a ha z
      · obtain ⟨o, e⟩ := al a ha
        rw [z] at e; cases e
    · intro a ha
      rcases List.mem_append.mp ha with z | z
      · exact .inl (List.mem_append.mpr (.inl z))
      · rcases hu a z with z | z
        · exact .inl (List.mem_append.mpr (.inr z))
        · exact .inr z
    · intro a o e1 hn
      exact k a o e1 fun z => hn (List.mem_append.mpr (.inr z))
theorem SepU.less {H : Hp} {rs : List Res} {U U' : List Addr}
    (h : SepU H rs U) (s : ∀ a ∈ U', a ∈ U) : SepU H rs U' :=
  h.to (fun a ha => .inl (s a ha)) fun _ _ e _ => e
inductive Pick : Res → List Res → List Res → Prop
  | here {r : Res} {t : List Res} : Pick r (r :: t) t
  | there {r x : Res} {t u : List Res} : Pick r t u → Pick r (x :: t) (x :: u)
theorem SepU.front {H : Hp} {r : Res} {rs t : List Res} (p : Pick r rs t) :
    ∀ {U : List Addr}, SepU H rs U → SepU H (r :: t) U := by
  induction p with
  | here => exact fun h => h
  | there p ih =>
    rintro U ⟨F, h1, h2, h3⟩
    obtain ⟨G, g1, g2, g3⟩ := ih h3
    refine ⟨G, g1, fun a ha hu => g2 a ha (List.mem_append.mpr (.inr hu)), F,
      h1, fun a ha hu => ?_, g3.less fun a ha => ?_⟩
    · rcases List.mem_append.mp hu with z | z
      · exact g2 a z (List.mem_append.mpr (.inl ha))
      · exact h2 a ha z
    · simp only [List.mem_append] at ha ⊢
      rcases ha with z | z | z
      · exact .inr (.inl z)
      · exact .inl z
      · exact .inr (.inr z)
inductive Sub : List Res → List Res → Prop
  | refl {t : List Res} : Sub t t
  | nil {t : List Res} : Sub [] t
  | cons {r : Res} {t s u : List Res} : Pick r s u → Sub t u → Sub (r :: t) s
  | pen {p : Addr} {n m : Nat} {t s u : List Res} : Pick (.pen p n) s u →
      n ≤ m → Sub t u → Sub (.pen p m :: t) s
  | drop {x : Res} {t s : List Res} : Sub t s → Sub t (x :: s)
theorem SepU.sub {H : Hp} {t s : List Res} (p : Sub t s) :
    ∀ {U : List Addr}, SepU H s U → SepU H t U := by
  induction p with
  | refl => exact fun h => h
  | nil => exact fun _ => trivial
  | cons p _ ih =>
    intro U h
    obtain ⟨F, h1, h2, h3⟩ := SepU.front p h
    exact ⟨F, h1, h2, ih h3⟩
  | pen p l _ ih =>
    intro U h
    obtain ⟨F, ⟨c, e, P⟩, h2, h3⟩ := SepU.front p h
    exact ⟨F, ⟨c, e, P.mono l⟩, h2, ih h3⟩
  | drop _ ih =>
    rintro U ⟨F, h1, h2, h3⟩
    exact ih (h3.less fun a ha => List.mem_append.mpr (.inr ha))
def New (H : Hp) (q : Addr) (o : HO) (H' : Hp) : Prop :=
  H q = none ∧ H' = upd H q o
section
variable {H H' : Hp} {r r' : Res} {rs t s : List Res} {a q : Addr} {o o' : HO}
theorem Sep.nil : Sep H [] := ⟨trivial⟩
theorem Sep.sub (h : Sep H s) (p : Sub t s) : Sep H t := ⟨h.ex.sub p⟩
theorem Sep.same (h : Sep H s) (k : Same H H') : Sep H' s :=
  ⟨h.ex.to (fun a z => nomatch z) fun a o e _ => k a o e⟩
theorem Sep.front (h : Sep H s) (p : Pick r s t) : Sep H (r :: t) :=
  ⟨h.ex.front p⟩
/-- a call changes the first thing: what stands elsewhere stays -/
theorem Sep.call (h : Sep H (r :: rs)) : ∃ F, r.P H F ∧
    ∀ H' r' F', (∀ a o, H a = some o → a ∉ F → H' a = some o) →
      (∀ a ∈ F', a ∈ F ∨ H a = none) → r'.P H' F' → Sep H' (r' :: rs) := by
  obtain ⟨F, h1, h2, h3⟩ := h.ex
  rw [List.append_nil] at h3
  refine ⟨F, h1, fun H' r' F' k u p => ⟨F', p, fun a _ z => (nomatch z), ?_⟩⟩
  rw [List.append_nil]
  exact h3.to u k
/-- a thing more, made of what is new -/
theorem Sep.more (h : Sep H rs) {F' : List Addr} (k : Same H H')
    (u : ∀ a ∈ F', H a = none) (p : r'.P H' F') : Sep H' (r' :: rs) := by
  refine ⟨F', p, fun a _ z => (nomatch z), ?_⟩
  rw [List.append_nil]
  exact h.ex.to (fun a ha => .inr (u a ha)) fun a o e _ => k a o e
theorem Sep.new (h : Sep H rs) (n : New H q o H') :
    Sep H' (.obj q o :: rs) := by
  obtain ⟨nq, rfl⟩ := n
  exact h.more (F' := [q]) (same_new (Same.refl H) nq)
    (fun a ha => by rw [List.mem_singleton] at ha; subst ha; exact nq)
    ⟨rfl, upd_same⟩
theorem Sep.new' (h : Sep H rs) (nq : H q = none) :
    Sep (upd H q o) (.obj q o :: rs) := h.new ⟨nq, rfl⟩
theorem Sep.at (h : Sep H s) (p : Pick (.obj a o) s t) : H a = some o := by
  obtain ⟨F, ⟨_, e⟩, _⟩ := h.ex.front p
  exact e
theorem Sep.set (h : Sep H (.obj a o :: rs)) :
    Sep (upd H a o') (.obj a o' :: rs) := by
  obtain ⟨F, ⟨e, _⟩, k⟩ := h.call
  subst e
  refine k _ (.obj a o') [a] (fun b u e hb => ?_) (fun b hb => .inl hb)
    ⟨rfl, upd_same⟩
  rw [upd_ne (fun z => hb (by rw [z]; simp))]; exact e
theorem Sep.sq {K : PySem.W.Frag} {xs : List V} (h : Sep H s)
    (p : Pick (.obj a (.lst xs)) s t) : SqL K H a xs := .of (h.at p)
theorem Sep.sqS {K : PySem.W.Frag} {xs : List V} (h : Sep H s)
    (p : Pick (.sql K a xs) s t) : SqL K H a xs := by
  obtain ⟨F, h, _⟩ := h.ex.front p
  rcases h with ⟨_, e⟩ | ⟨_, e⟩
  · exact .inl e
  · exact e H
theorem Sep.sql0 {K : PySem.W.Frag} {xs : List V} (h : SqL K H a xs) :
    Sep H [.sql K a xs] := by
  rcases h with h | h
  · exact ⟨[a], .inl ⟨rfl, h⟩, (fun b _ z => nomatch z), trivial⟩
  · exact ⟨[], .inr ⟨rfl, fun H' => .inr h⟩, (fun b z => nomatch z), trivial⟩
theorem Sep.st {K : PySem.W.Frag} {xs : List V} (h : Sep H s)
    (p : Pick (.obj a (.tup xs)) s t) : SqT K H a xs := .of (h.at p)
theorem Sep.re {xs : List V} (h : Sep H (.obj a (.lst xs) :: rs))
    (ys : List V) (e : xs = ys := by rfl) : Sep H (.obj a (.lst ys) :: rs) :=
  e ▸ h
end
/-! ### loops -/
structure RaP (J : Nat → L2.St → List Res → Prop) (i : Nat) (σ : L2.St)
    (H : Hp) : Prop where
  ex : ∃ rs, J i σ rs ∧ Sep H rs
theorem RaP.mk' {J : Nat → L2.St → List Res → Prop} {i : Nat} {σ : L2.St}
    {H : Hp} {rs : List Res} (hc : Sep H rs) (h : J i σ rs) : RaP J i σ H :=
  ⟨rs, h, hc⟩
theorem forR {n : Nat} {g : TG} {tb : TS} {D : Ends} {σ : L2.St}
    {H : Hp} (J : Nat → L2.St → List Res → Prop) (h0 : RaP J 0 σ H)
    (hs : ∀ i σ rs H, i < n → J i σ rs → Sep H rs → g (.int (i : Nat)) σ H
      fun σ2 H2 => tb { D with nx := RaP J (i + 1), ct := RaP J (i + 1), bk := D.nx } σ2 H2)
    (hd : ∀ σ rs H, J n σ rs → Sep H rs → D.nx σ H) :
    ∃ W : Nat → Nat → L2.St → Hp → Prop, (∃ m, W 0 m σ H) ∧
      ∀ i m σ H, W i m σ H →
      ((Itr 0 n).stop i H ∧ D.nx σ H) ∨ ((Itr 0 n).go i H ∧
        ∃ N : L2.St → Hp → Prop,
        (∀ σ' H', N σ' H' → ∃ m', m' < m ∧ W (i + 1) m' σ' H') ∧
        ∀ x H', (Itr 0 n).yld i H x H' → g x σ H' fun σ2 H2 =>
          tb { D with nx := N, ct := N, bk := D.nx } σ2 H2) :=
  for_range (RaP J) h0 (fun i σ H hi ⟨⟨rs, h, hc⟩⟩ => by
      rw [Int.zero_add]; exact hs i σ rs H hi h hc)
    fun σ H ⟨⟨rs, h, hc⟩⟩ => hd σ rs H h hc
theorem forR2 {lo : Nat} {n : Nat} {g : TG} {tb : TS} {D : Ends} {σ : L2.St}
    {H : Hp} (J : Nat → L2.St → List Res → Prop) (h0 : RaP J 0 σ H)
    (hs : ∀ i σ rs H, i < n → J i σ rs → Sep H rs →
      g (.int (lo + i : Nat)) σ H
      fun σ2 H2 => tb { D with nx := RaP J (i + 1), ct := RaP J (i + 1), bk := D.nx } σ2 H2)
    (hd : ∀ σ rs H, J n σ rs → Sep H rs → D.nx σ H) :
    ∃ W : Nat → Nat → L2.St → Hp → Prop, (∃ m, W 0 m σ H) ∧
      ∀ i m σ H, W i m σ H →
      ((Itr (lo : Nat) n).stop i H ∧ D.nx σ H) ∨ ((Itr (lo : Nat) n).go i H ∧
        ∃ N : L2.St → Hp → Prop,
        (∀ σ' H', N σ' H' → ∃ m', m' < m ∧ W (i + 1) m' σ' H') ∧
        ∀ x H', (Itr (lo : Nat) n).yld i H x H' → g x σ H' fun σ2 H2 =>
          tb { D with nx := N, ct := N, bk := D.nx } σ2 H2) :=
  for_range (RaP J) h0 (fun i σ H hi ⟨⟨rs, h, hc⟩⟩ => hs i σ rs H hi h hc)
    fun σ H ⟨⟨rs, h, hc⟩⟩ => hd σ rs H h hc
theorem forL {K : PySem.W.Frag} {a : Addr} {xs : List V} {g : TG} {tb : TS}
    {D : Ends} {σ : L2.St} {H : Hp} (J : Nat → L2.St → List Res → Prop)
    (hl : ∀ i σ rs, J i σ rs → ∃ t, Pick (.obj a (.lst xs)) rs t)
    (h0 : RaP J 0 σ H)
    (hs : ∀ i x σ rs H, xs[i]? = some x → J i σ rs → Sep H rs → g x σ H
      fun σ2 H2 => tb { D with nx := RaP J (i + 1), ct := RaP J (i + 1), bk := D.nx } σ2 H2)
    (hd : ∀ σ rs H, J xs.length σ rs → Sep H rs → D.nx σ H) :
    ∃ W : Nat → Nat → L2.St → Hp → Prop, (∃ m, W 0 m σ H) ∧
      ∀ i m σ H, W i m σ H →
      ((Itl K a).stop i H ∧ D.nx σ H) ∨ ((Itl K a).go i H ∧
        ∃ N : L2.St → Hp → Prop,
        (∀ σ' H', N σ' H' → ∃ m', m' < m ∧ W (i + 1) m' σ' H') ∧
        ∀ x H', (Itl K a).yld i H x H' → g x σ H' fun σ2 H2 =>
          tb { D with nx := N, ct := N, bk := D.nx } σ2 H2) :=
  for_list (RaP J) h0 (fun i σ H _ ⟨⟨rs, h, hc⟩⟩ => by
      obtain ⟨t, p⟩ := hl i σ rs h
      exact hc.sq p)
    (fun i x σ H hx ⟨⟨rs, h, hc⟩⟩ => hs i x σ rs H hx h hc)
    fun σ H ⟨⟨rs, h, hc⟩⟩ => hd σ rs H h hc
theorem forT {K : PySem.W.Frag} {a : Addr} {xs : List V} {g : TG} {tb : TS}
    {D : Ends} {σ : L2.St} {H : Hp} (J : Nat → L2.St → List Res → Prop)
    (hl : ∀ i σ rs, J i σ rs → ∃ t, Pick (.obj a (.tup xs)) rs t)
    (h0 : RaP J 0 σ H)
    (hs : ∀ i x σ rs H, xs[i]? = some x → J i σ rs → Sep H rs → g x σ H
      fun σ2 H2 => tb { D with nx := RaP J (i + 1), ct := RaP J (i + 1), bk := D.nx } σ2 H2)
    (hd : ∀ σ rs H, J xs.length σ rs → Sep H rs → D.nx σ H) :
    ∃ W : Nat → Nat → L2.St → Hp → Prop, (∃ m, W 0 m σ H) ∧
      ∀ i m σ H, W i m σ H →
      ((Itt K a).stop i H ∧ D.nx σ H) ∨ ((Itt K a).go i H ∧
        ∃ N : L2.St → Hp → Prop,
        (∀ σ' H', N σ' H' → ∃ m', m' < m ∧ W (i + 1) m' σ' H') ∧
        ∀ x H', (Itt K a).yld i H x H' → g x σ H' fun σ2 H2 =>
          tb { D with nx := N, ct := N, bk := D.nx } σ2 H2) :=
  for_tup (RaP J) h0 (fun i σ H _ ⟨⟨rs, h, hc⟩⟩ => by
      obtain ⟨t, p⟩ := hl i σ rs h
      exact hc.st p)
    (fun i x σ H hx ⟨⟨rs, h, hc⟩⟩ => hs i x σ rs H hx h hc)
    fun σ H ⟨⟨rs, h, hc⟩⟩ => hd σ rs H h hc
/-- comprehensions: what is made so far is acc, at D -/
structure LcP (D : Addr) (I : Nat → List V → List Res → Prop) (i : Nat)
    (H : Hp) : Prop where
  ex : ∃ acc rs, I i acc rs ∧ Sep H (.obj D (.lst acc) :: rs)
theorem LcP.mk' {D : Addr} {I : Nat → List V → List Res → Prop} {i : Nat}
    {H : Hp} {acc : List V} {rs : List Res}
    (hc : Sep H (.obj D (.lst acc) :: rs)) (h : I i acc rs) : LcP D I i H :=
  ⟨acc, rs, h, hc⟩
theorem LcP.app {D : Addr} {I : Nat → List V → List Res → Prop} {i : Nat}
    {H : Hp} {acc : List V} {rs : List Res} {y : V}
    (hc : Sep H (.obj D (.lst acc) :: rs)) (hl : acc.length < 16777216)
    (h : I i (acc ++ [y]) rs) :
    ∃ acc, H D = some (.lst acc) ∧ acc.length < sizeLine ∧
      LcP D I i (upd H D (.lst (acc ++ [y]))) :=
  ⟨acc, hc.at .here, by rw [sizeLine_eq]; exact hl, ⟨_, rs, h, hc.set⟩⟩
theorem lcR {n : Nat} {g : TG} {tt : TT} {te : TE} {vs : List Nat}
    {σ : L2.St} {H1 : Hp} {D : Addr} {Qd : Hp → Prop} {rs0 : List Res}
    (nD : H1 D = none) (h0 : Sep H1 rs0)
    (I : Nat → List V → List Res → Prop) (hI : I 0 [] rs0)
    (hs : ∀ i acc rs H, i < n → I i acc rs → Sep H (.obj D (.lst acc) :: rs) →
      g (.int (i : Nat)) (wipe σ vs) H fun σ2 H2 => wipe σ2 vs = wipe σ vs ∧
        tt σ2 H2 fun b H3 => if b = true then te σ2 H3 fun y H4 =>
          ∃ acc, H4 D = some (.lst acc) ∧ acc.length < sizeLine ∧
            LcP D I (i + 1) (upd H4 D (.lst (acc ++ [y])))
        else LcP D I (i + 1) H3)
    (hd : ∀ acc rs H, I n acc rs → Sep H (.obj D (.lst acc) :: rs) → Qd H) :
    ∃ W : Nat → Nat → Hp → Prop, (∃ m, W 0 m (upd H1 D (.lst []))) ∧
      ∀ i m H, W i m H →
      ((Itr 0 n).stop i H ∧ Qd H) ∨ ((Itr 0 n).go i H ∧
        ∃ Nx : Hp → Prop, (∀ H', Nx H' → ∃ m', m' < m ∧ W (i + 1) m' H') ∧
        ∀ x H', (Itr 0 n).yld i H x H' → g x (wipe σ vs) H' fun σ2 H2 =>
          wipe σ2 vs = wipe σ vs ∧ tt σ2 H2 fun b H3 =>
          if b = true then te σ2 H3 fun y H4 => ∃ acc,
            H4 D = some (.lst acc) ∧ acc.length < sizeLine ∧
            Nx (upd H4 D (.lst (acc ++ [y])))
          else Nx H3) :=
  lc_range (LcP D I) ⟨[], rs0, hI, h0.new' nD⟩
    (fun i H hi ⟨⟨acc, rs, h, hc⟩⟩ => by
      rw [Int.zero_add]; exact hs i acc rs H hi h hc)
    fun H ⟨⟨acc, rs, h, hc⟩⟩ => hd acc rs H h hc
theorem lcR2 {lo n : Nat} {g : TG} {tt : TT} {te : TE} {vs : List Nat}
    {σ : L2.St} {H1 : Hp} {D : Addr} {Qd : Hp → Prop} {rs0 : List Res}
    (nD : H1 D = none) (h0 : Sep H1 rs0)
    (I : Nat → List V → List Res → Prop) (hI : I 0 [] rs0)
    (hs : ∀ i acc rs H, i < n → I i acc rs → Sep H (.obj D (.lst acc) :: rs) →
      g (.int (lo + i : Nat)) (wipe σ vs) H fun σ2 H2 => wipe σ2 vs = wipe σ vs ∧
        tt σ2 H2 fun b H3 => if b = true then te σ2 H3 fun y H4 =>
          ∃ acc, H4 D = some (.lst acc) ∧ acc.length < sizeLine ∧
            LcP D I (i + 1) (upd H4 D (.lst (acc ++ [y])))
        else LcP D I (i + 1) H3)
    (hd : ∀ acc rs H, I n acc rs → Sep H (.obj D (.lst acc) :: rs) → Qd H) :
    ∃ W : Nat → Nat → Hp → Prop, (∃ m, W 0 m (upd H1 D (.lst []))) ∧
      ∀ i m H, W i m H →
      ((Itr (lo : Nat) n).stop i H ∧ Qd H) ∨ ((Itr (lo : Nat) n).go i H ∧
        ∃ Nx : Hp → Prop, (∀ H', Nx H' → ∃ m', m' < m ∧ W (i + 1) m' H') ∧
        ∀ x H', (Itr (lo : Nat) n).yld i H x H' → g x (wipe σ vs) H' fun σ2 H2 =>
          wipe σ2 vs = wipe σ vs ∧ tt σ2 H2 fun b H3 =>
          if b = true then te σ2 H3 fun y H4 => ∃ acc,
            H4 D = some (.lst acc) ∧ acc.length < sizeLine ∧
            Nx (upd H4 D (.lst (acc ++ [y])))
          else Nx H3) :=
  lc_range (LcP D I) ⟨[], rs0, hI, h0.new' nD⟩
    (fun i H hi ⟨⟨acc, rs, h, hc⟩⟩ => hs i acc rs H hi h hc)
    fun H ⟨⟨acc, rs, h, hc⟩⟩ => hd acc rs H h hc
theorem lcL {K : PySem.W.Frag} {a : Addr} {xs : List V} {g : TG} {tt : TT}
    {te : TE} {vs : List Nat}
    {σ : L2.St} {H1 : Hp} {D : Addr} {Qd : Hp → Prop} {rs0 : List Res}
    (nD : H1 D = none) (h0 : Sep H1 rs0)
    (I : Nat → List V → List Res → Prop)
    (hl : ∀ i acc rs, I i acc rs → ∃ t, Pick (.obj a (.lst xs)) rs t)
    (hI : I 0 [] rs0)
    (hs : ∀ i x acc rs H, xs[i]? = some x → I i acc rs →
      Sep H (.obj D (.lst acc) :: rs) →
      g x (wipe σ vs) H fun σ2 H2 => wipe σ2 vs = wipe σ vs ∧
        tt σ2 H2 fun b H3 => if b = true then te σ2 H3 fun y H4 =>
          ∃ acc, H4 D = some (.lst acc) ∧ acc.length < sizeLine ∧
            LcP D I (i + 1) (upd H4 D (.lst (acc ++ [y])))
        else LcP D I (i + 1) H3)
    (hd : ∀ acc rs H, I xs.length acc rs → Sep H (.obj D (.lst acc) :: rs) →
      Qd H) :
    ∃ W : Nat → Nat → Hp → Prop, (∃ m, W 0 m (upd H1 D (.lst []))) ∧
      ∀ i m H, W i m H →
      ((Itl K a).stop i H ∧ Qd H) ∨ ((Itl K a).go i H ∧
        ∃ Nx : Hp → Prop, (∀ H', Nx H' → ∃ m', m' < m ∧ W (i + 1) m' H') ∧
        ∀ x H', (Itl K a).yld i H x H' → g x (wipe σ vs) H' fun σ2 H2 =>
          wipe σ2 vs = wipe σ vs ∧ tt σ2 H2 fun b H3 =>
          if b = true then te σ2 H3 fun y H4 => ∃ acc,
            H4 D = some (.lst acc) ∧ acc.length < sizeLine ∧
            Nx (upd H4 D (.lst (acc ++ [y])))
          else Nx H3) :=
  lc_list (LcP D I) ⟨[], rs0, hI, h0.new' nD⟩
    (fun i H _ ⟨⟨acc, rs, h, hc⟩⟩ => by
      obtain ⟨t, p⟩ := hl i acc rs h
      exact hc.sq (.there p))
    (fun i x H hx ⟨⟨acc, rs, h, hc⟩⟩ => hs i x acc rs H hx h hc)
    fun H ⟨⟨acc, rs, h, hc⟩⟩ => hd acc rs H h hc
theorem lcT {K : PySem.W.Frag} {a : Addr} {xs : List V} {g : TG} {tt : TT}
    {te : TE} {vs : List Nat}
    {σ : L2.St} {H1 : Hp} {D : Addr} {Qd : Hp → Prop} {rs0 : List Res}
    (nD : H1 D = none) (h0 : Sep H1 rs0)
    (I : Nat → List V → List Res → Prop)
    (hl : ∀ i acc rs, I i acc rs → ∃ t, Pick (.obj a (.tup xs)) rs t)
    (hI : I 0 [] rs0)
    (hs : ∀ i x acc rs H, xs[i]? = some x → I i acc rs →
      Sep H (.obj D (.lst acc) :: rs) →
      g x (wipe σ vs) H fun σ2 H2 => wipe σ2 vs = wipe σ vs ∧
        tt σ2 H2 fun b H3 => if b = true then te σ2 H3 fun y H4 =>
          ∃ acc, H4 D = some (.lst acc) ∧ acc.length < sizeLine ∧
            LcP D I (i + 1) (upd H4 D (.lst (acc ++ [y])))
        else LcP D I (i + 1) H3)
    (hd : ∀ acc rs H, I xs.length acc rs → Sep H (.obj D (.lst acc) :: rs) →
      Qd H) :
    ∃ W : Nat → Nat → Hp → Prop, (∃ m, W 0 m (upd H1 D (.lst []))) ∧
      ∀ i m H, W i m H →
      ((Itt K a).stop i H ∧ Qd H) ∨ ((Itt K a).go i H ∧
        ∃ Nx : Hp → Prop, (∀ H', Nx H' → ∃ m', m' < m ∧ W (i + 1) m' H') ∧
        ∀ x H', (Itt K a).yld i H x H' → g x (wipe σ vs) H' fun σ2 H2 =>
          wipe σ2 vs = wipe σ vs ∧ tt σ2 H2 fun b H3 =>
          if b = true then te σ2 H3 fun y H4 => ∃ acc,
            H4 D = some (.lst acc) ∧ acc.length < sizeLine ∧
            Nx (upd H4 D (.lst (acc ++ [y])))
          else Nx H3) :=
  lc_tup (LcP D I) ⟨[], rs0, hI, h0.new' nD⟩
    (fun i H _ ⟨⟨acc, rs, h, hc⟩⟩ => by
      obtain ⟨t, p⟩ := hl i acc rs h
      exact hc.st (.there p))
    (fun i x H hx ⟨⟨acc, rs, h, hc⟩⟩ => hs i x acc rs H hx h hc)
    fun H ⟨⟨acc, rs, h, hc⟩⟩ => hd acc rs H h hc

/-! ### the pen among other things -/
theorem fnLess {P : Program} {w : World} {K : PySem.W.Frag}
    {mg : Str → Option Value} {base : Heap} {CX : CXT} {k : Nat} {f : Addr}
    {fd : FuncData} {ps : List Str} {sp sp' : Sp}
    (F : FnOk P w K mg base CX k f fd ps sp)
    (m : ∀ vs H Q E, sp' vs H Q E → sp vs H Q E) :
    FnOk P w K mg base CX k f fd ps sp' :=
  ⟨fun vs H Q E h => F.len vs H Q E (m _ _ _ _ h),
    fun A outer s H args us vs Q E hr en bd rv h =>
      F.run A outer s H args us vs Q E hr en bd rv (m _ _ _ _ h)⟩
theorem Sep.penE {H : Hp} {p : Addr} {n : Nat} {rs : List Res}
    (hc : Sep H (.pen p n :: rs)) : ∃ c, Pen H p c n ∧
      ∀ H' m, Keep p H H' → Pen H' p c m → Sep H' (.pen p m :: rs) := by
  obtain ⟨F, ⟨c, rfl, P⟩, k⟩ := hc.call
  refine ⟨c, P, fun H' m kp P' => k H' (.pen p m) [p, c] (fun a o e hn => ?_)
    (fun a ha => .inl ha) ⟨c, rfl, P'⟩⟩
  exact kp a o e fun z => hn (by rw [z]; simp)
structure sp_draw3 (vs : List V) (H : Hp) (Q : VK) (E : XK) : Prop where
  ex : ∃ (p : Addr) (n m : Nat) (rs : List Res),
    vs = [.ref p, .int (m : Nat)] ∧ Sep H (.pen p n :: rs) ∧
    (0 < m ∧ m < 18446744073709551616 ∧ n < 1000000000000000000) ∧
    ∀ H' (d : Nat), Sep H' (.pen p (n + 1) :: rs) → d < m →
      Q (.int (d : Nat)) H'
structure sp_pick3 (K : PySem.W.Frag) (vs : List V) (H : Hp) (Q : VK)
    (E : XK) : Prop where
  ex : ∃ (p a : Addr) (n : Nat) (rs : List Res) (xs : List V),
    vs = [.ref p, .ref a] ∧ Sep H (.pen p n :: rs) ∧ SqL K H a xs ∧
    (0 < xs.length ∧ xs.length ≤ 1000000 ∧ n < 1000000000000000000) ∧
    ∀ H' v, Sep H' (.pen p (n + 1) :: rs) → v ∈ xs → Q v H'
structure sp_pen3 (K : PySem.W.Frag) (vs : List V) (H : Hp) (Q : VK)
    (E : XK) : Prop where
  ex : ∃ (a : Addr) (ns : List Int), vs = [.ref a] ∧
    SqL K H a (ns.map V.int) ∧ ns.length ≤ 63 ∧
    (∀ z ∈ ns, BB 1048576 z) ∧
    ∀ H' p, Sep H' [.pen p 0, .sql K a (ns.map V.int)] → Q (.ref p) H'
theorem mem_nV {v : V} {l : List Nat} (h : v ∈ nV l) :
    ∃ y ∈ l, v = .int (y : Nat) := by
  obtain ⟨y, hy, rfl⟩ := List.mem_map.mp h
  exact ⟨y, hy, rfl⟩

def spLaw (K : PySem.W.Frag) : Sp := fun vs H Q _ =>
  ∃ (a : Addr) (ns : List Int), vs = [.ref a] ∧
    SqL K H a (ns.map V.int) ∧ ns.length ≤ 63 ∧
    (∀ z ∈ ns, BB 1048576 z) ∧ ∀ H', Q (.bl true) H'

/-! ### natural numbers, and objects that are new -/
section
variable {X : Cx}
theorem OpR.mono {f : Value → Value → Sem Value} {r r' : R2}
    (h : OpR X f r) (m : ∀ x y H Q, r' x y H Q → r x y H Q) : OpR X f r' :=
  fun pins s σ H x y v u Q I rx ry q => h pins s σ H x y v u Q I rx ry (m _ _ _ _ q)
theorem PE.mono {e : Expr} {t t' : TE} (h : PE X e t)
    (m : ∀ σ H Q, t' σ H Q → t σ H Q) : PE X e t' :=
  ⟨fun pins s σ H Q I q => h.run pins s σ H Q I (m _ _ _ q)⟩
/-- a written number -/
theorem pe_nat {n : Nat} (m : Nat) (h : n = m := by rfl) {j pos} :
    PE X (.Constant (.int (n : Nat)) j pos) (tC (.int (m : Nat))) :=
  h ▸ pe_int
def rAddN : R2 := fun x y H Q => ∃ n m : Nat, x = .int (n : Nat) ∧
  y = .int (m : Nat) ∧ Q (.int (n + m : Nat)) H
theorem op_addN : OpR X (binaryOp .Add) rAddN :=
  OpR.mono op_add fun x y H Q ⟨n, m, e1, e2, q⟩ => ⟨_, _, e1, e2, q⟩
def rXorNN : R2 := fun x y H Q => ∃ n m : Nat, x = .int (n : Nat) ∧
  y = .int (m : Nat) ∧ Q (.int (n ^^^ m : Nat)) H
theorem op_xorNN : OpR X (binaryOp .BitXor) rXorNN :=
  OpR.mono op_xorN fun x y H Q ⟨n, m, e1, e2, q⟩ => ⟨_, _, e1, e2, q⟩
def rOrNN : R2 := fun x y H Q => ∃ n m : Nat, x = .int (n : Nat) ∧
  y = .int (m : Nat) ∧ Q (.int (n ||| m : Nat)) H
theorem op_orNN : OpR X (binaryOp .BitOr) rOrNN :=
  OpR.mono op_orN fun x y H Q ⟨n, m, e1, e2, q⟩ => ⟨_, _, e1, e2, q⟩
def rAndNN : R2 := fun x y H Q => ∃ n m : Nat, x = .int (n : Nat) ∧
  y = .int (m : Nat) ∧ Q (.int (n &&& m : Nat)) H
theorem op_andNN : OpR X (binaryOp .BitAnd) rAndNN :=
  OpR.mono op_andN fun x y H Q ⟨n, m, e1, e2, q⟩ => ⟨_, _, e1, e2, q⟩
def rShrNN : R2 := fun x y H Q => ∃ n m : Nat, x = .int (n : Nat) ∧
  y = .int (m : Nat) ∧ Q (.int (n / 2 ^ m : Nat)) H
theorem op_shrNN : OpR X (binaryOp .RShift) rShrNN :=
  OpR.mono op_shrM fun x y H Q ⟨n, m, e1, e2, q⟩ => ⟨_, _, e1, e2, q⟩
def rSubN : R2 := fun x y H Q => ∃ n m : Nat, x = .int (n : Nat) ∧
  y = .int (m : Nat) ∧ m ≤ n ∧ Q (.int (n - m : Nat)) H
theorem op_subN : OpR X (binaryOp .Sub) rSubN :=
  OpR.mono op_sub fun x y H Q ⟨n, m, e1, e2, l, q⟩ =>
    ⟨_, _, e1, e2, by
      show Q (.int ((n : Int) - (m : Int))) H
      rw [← Int.ofNat_sub l]; exact q⟩
/-- two numbers whose bits together are no more than may be -/
def MulN (n m : Nat) : Prop := ∃ j k, n < 2 ^ j ∧ m < 2 ^ k ∧ j + k ≤ 134217728
def rMulN : R2 := fun x y H Q => ∃ n m : Nat, x = .int (n : Nat) ∧
  y = .int (m : Nat) ∧ MulN n m ∧ Q (.int (n * m : Nat)) H
theorem op_mulN : OpR X (binaryOp .Mult) rMulN :=
  OpR.mono op_mulX fun x y H Q ⟨n, m, e1, e2, ⟨j, k, h1, h2, h3⟩, q⟩ =>
    ⟨_, _, e1, e2, mulx_ok (a := j) (b := k) h1 h2 h3, q⟩
def rDivN : R2 := fun x y H Q => ∃ n m : Nat, x = .int (n : Nat) ∧
  y = .int (m : Nat) ∧ (0 < m ∧ m < 1000000000000000000) ∧ Q (.int (n / m : Nat)) H
theorem op_fdivN : OpR X (binaryOp .FloorDiv) rDivN :=
  OpR.mono op_fdivW fun x y H Q ⟨n, m, e1, e2, ⟨h1, h2⟩, q⟩ =>
    ⟨_, _, e1, e2, wide_div (b := 60) (by omega) (by show m < 2 ^ 60; omega) (by decide) (by decide), q⟩
def rModN : R2 := fun x y H Q => ∃ n m : Nat, x = .int (n : Nat) ∧
  y = .int (m : Nat) ∧ 0 < m ∧ Q (.int (n % m : Nat)) H
theorem op_modNN : OpR X (binaryOp .Mod) rModN :=
  OpR.mono op_mod fun x y H Q ⟨n, m, e1, e2, h, q⟩ =>
    ⟨_, _, e1, e2, show (0 : Int) < m by omega, q⟩
def rOddN : R2 := fun x y H Q => ∃ n : Nat, x = .int (n : Nat) ∧
  y = .int (1 : Nat) ∧ Q (.int (n % 2 : Nat)) H
theorem op_oddN : OpR X (binaryOp .BitAnd) rOddN :=
  OpR.mono op_odd fun x y H Q ⟨n, e1, e2, q⟩ => ⟨n, e1, e2, q⟩
def rOneN : R2 := fun x y H Q => ∃ k : Nat, x = .int (1 : Nat) ∧
  y = .int (k : Nat) ∧ k ≤ 134217727 ∧ Q (.int (2 ^ k : Nat)) H
theorem op_oneN : OpR X (binaryOp .LShift) rOneN :=
  OpR.mono op_one fun x y H Q ⟨k, e1, e2, h, q⟩ => ⟨k, e1, e2, h, q⟩
theorem decI (a b : Nat) : decide (V.int (a : Nat) = V.int (b : Nat)) =
    decide (a = b) := by
  rw [dec_int]
  by_cases h : a = b
  · subst h; simp
  · have h' : ¬ ((a : Int) = (b : Int)) := by omega
    simp [h, h']
theorem decLt (a b : Nat) : decide ((a : Int) < (b : Int)) = decide (a < b) := by
  by_cases h : a < b
  · have h' : (a : Int) < (b : Int) := by omega
    simp [h, h']
  · have h' : ¬ (a : Int) < (b : Int) := by omega
    simp [h, h']
theorem decLe (a b : Nat) : decide ((a : Int) ≤ (b : Int)) = decide (a ≤ b) := by
  by_cases h : a ≤ b
  · have h' : (a : Int) ≤ (b : Int) := by omega
    simp [h, h']
  · have h' : ¬ (a : Int) ≤ (b : Int) := by omega
    simp [h, h']
def rEqNN : R2 := fun x y H Q => ∃ n m : Nat, x = .int (n : Nat) ∧
  y = .int (m : Nat) ∧ Q (.bl (decide (n = m))) H
theorem op_eqN : OpR X (compareOp .Eq) rEqNN :=
  OpR.mono op_eq fun x y H Q ⟨n, m, e1, e2, q⟩ => by
    subst e1 e2; exact ⟨rfl, by rw [decI]; exact q⟩
def rNeNN : R2 := fun x y H Q => ∃ n m : Nat, x = .int (n : Nat) ∧
  y = .int (m : Nat) ∧ Q (.bl (!decide (n = m))) H
theorem op_neN : OpR X (compareOp .NotEq) rNeNN :=
  OpR.mono op_ne fun x y H Q ⟨n, m, e1, e2, q⟩ => by
    subst e1 e2; exact ⟨rfl, by rw [decI]; exact q⟩
def rLtNN : R2 := fun x y H Q => ∃ n m : Nat, x = .int (n : Nat) ∧
  y = .int (m : Nat) ∧ Q (.bl (decide (n < m))) H
theorem op_ltN : OpR X (compareOp .Lt) rLtNN :=
  OpR.mono op_lt fun x y H Q ⟨n, m, e1, e2, q⟩ =>
    ⟨_, _, e1, e2, by dsimp only; rw [decLt]; exact q⟩
def rLeNN : R2 := fun x y H Q => ∃ n m : Nat, x = .int (n : Nat) ∧
  y = .int (m : Nat) ∧ Q (.bl (decide (n ≤ m))) H
theorem op_leN : OpR X (compareOp .LtE) rLeNN :=
  OpR.mono op_le fun x y H Q ⟨n, m, e1, e2, q⟩ =>
    ⟨_, _, e1, e2, by dsimp only; rw [decLe]; exact q⟩
def rGtNN : R2 := fun x y H Q => ∃ n m : Nat, x = .int (n : Nat) ∧
  y = .int (m : Nat) ∧ Q (.bl (decide (m < n))) H
theorem op_gtN : OpR X (compareOp .Gt) rGtNN :=
  OpR.mono op_gt fun x y H Q ⟨n, m, e1, e2, q⟩ =>
    ⟨_, _, e1, e2, by dsimp only; rw [decLt]; exact q⟩
def rGeNN : R2 := fun x y H Q => ∃ n m : Nat, x = .int (n : Nat) ∧
  y = .int (m : Nat) ∧ Q (.bl (decide (m ≤ n))) H
theorem op_geN : OpR X (compareOp .GtE) rGeNN :=
  OpR.mono op_ge fun x y H Q ⟨n, m, e1, e2, q⟩ =>
    ⟨_, _, e1, e2, by dsimp only; rw [decLe]; exact q⟩
/-- objects that are new -/
def tLst' (t : TA) : TE := fun σ H Q => t σ H fun xs H1 =>
  xs.length ≤ 16777216 ∧ ∀ p H', New H1 p (.lst xs) H' → Q (.ref p) H'
def tTup' (t : TA) : TE := fun σ H Q => t σ H fun xs H1 =>
  xs.length ≤ 16777216 ∧ ∀ p H', New H1 p (.tup xs) H' → Q (.ref p) H'
end
/-- argument lists go on to the end -/
structure TAm (t : TA) : Prop where
  m : ∀ σ H (Q Q' : List V → Hp → Prop), (∀ vs H1, Q vs H1 → Q' vs H1) →
    t σ H Q → t σ H Q'
section
variable {X : Cx} {e : Expr} {es : List Expr} {pos : Pos} {t : TA}
theorem pe_lst' (h : PA X es t) : PE X (.List es pos) (tLst' t) := by
  refine ⟨fun pins s σ H Q I hq => ?_⟩
  refine wpAny_List_spliced (thn (h.run pos pins s σ H _ I hq) fun us s1 ⟨xs, H1, I1, r, z, q⟩ => ⟨by rw [← r.length, sizeLine_eq]; exact z, ?_⟩)
  have hf : H1 s1.heap.objs.size = none := I1.hok.fresh (Nat.le_refl _)
  refine ⟨.ref s1.heap.objs.size, upd H1 s1.heap.objs.size (.lst xs), I1.laid (t' := s1.toks) (fun b u e => Heap.get?_push_of_some _ e) (Nat.le_refl _) ?_, rfl, q _ _ ⟨hf, rfl⟩⟩
  exact ⟨by rw [sizeLine_eq]; exact z, us, 0, r, Heap.get?_push_size _ rfl⟩
theorem pe_tup' {x1} (h : PA X es t) : PE X (.Tuple es x1 pos) (tTup' t) := by
  refine ⟨fun pins s σ H Q I hq => ?_⟩
  refine wpAny_Tuple_spliced (thn (h.run pos pins s σ H _ I hq) fun us s1 ⟨xs, H1, I1, r, z, q⟩ => ⟨by rw [← r.length, sizeLine_eq]; exact z, ?_⟩)
  have hf : H1 s1.heap.objs.size = none := I1.hok.fresh (Nat.le_refl _)
  refine ⟨.ref s1.heap.objs.size, upd H1 s1.heap.objs.size (.tup xs), I1.laid (t' := s1.toks) (fun b u e => Heap.get?_push_of_some _ e) (Nat.le_refl _) ?_, rfl, q _ _ ⟨hf, rfl⟩⟩
  exact ⟨by rw [sizeLine_eq]; exact z, us, r, ⟨_, Heap.get?_push_size _ rfl, rfl, _, rfl⟩⟩
def rCat' : R2 := fun x y H Q => ∃ l b xs zs, x = .ref l ∧ y = .ref b ∧
  H l = some (.lst xs) ∧ H b = some (.lst zs) ∧
  xs.length + zs.length ≤ 16777216 ∧
  ∀ p H', New H p (.lst (xs ++ zs)) H' → Q (.ref p) H'
theorem op_cat' : OpR X (binaryOp .Add) rCat' :=
  OpR.mono op_cat fun x y H Q ⟨l, b, xs, zs, e1, e2, h1, h2, z, q⟩ =>
    ⟨l, b, xs, zs, e1, e2, h1, h2, by rw [sizeLine_eq]; exact z,
      fun p np => q p _ ⟨np, rfl⟩⟩
end
/-! ### tests -/
theorem iteD {p A B : Prop} [Decidable p] (h1 : p → A) (h2 : ¬ p → B) :
    if decide p = true then A else B := by
  by_cases h : p
  · rw [if_pos (decide_eq_true h)]; exact h1 h
  · rw [if_neg (by simpa using h)]; exact h2 h
theorem iteDT {p A B : Prop} [Decidable p] (hp : p) (h : A) :
    if decide p = true then A else B := by
  rw [if_pos (decide_eq_true hp)]; exact h
theorem iteDF {p A B : Prop} [Decidable p] (hp : ¬ p) (h : B) :
    if decide p = true then A else B := by
  rw [if_neg (by simpa using hp)]; exact h
theorem iteN {p A B : Prop} [Decidable p] (h1 : ¬ p → A) (h2 : p → B) :
    if (!decide p) = true then A else B := by
  by_cases h : p
  · rw [if_neg (by simpa using h)]; exact h2 h
  · rw [if_pos (by simpa using h)]; exact h1 h
theorem iteNT {p A B : Prop} [Decidable p] (hp : p) (h : B) :
    if (!decide p) = true then A else B := by
  rw [if_neg (by simpa using hp)]; exact h
theorem iteNF {p A B : Prop} [Decidable p] (hp : ¬ p) (h : A) :
    if (!decide p) = true then A else B := by
  rw [if_pos (by simpa using hp)]; exact h
theorem iteB {b : Bool} {A B : Prop} (h1 : b = true → A) (h2 : b = false → B) :
    if b = true then A else B := by
  cases b
  · rw [if_neg Bool.false_ne_true]; exact h2 rfl
  · rw [if_pos rfl]; exact h1 rfl
/-! ### more of these -/
section
variable {X : Cx} {K : PySem.W.Frag}
theorem CallR.mono {f : Value} {r r' : List V → Hp → VK → Prop}
    (h : CallR X f r) (m : ∀ xs H Q, r' xs H Q → r xs H Q) : CallR X f r' := by
  intro pins s σ H xs us Q I rx q
  exact h pins s σ H xs us Q I rx (m _ _ _ q)
theorem IxR.mono {r r' : R2}
    (h : IxR X r) (m : ∀ x y H Q, r' x y H Q → r x y H Q) : IxR X r' := by
  intro value slice pins s σ H x y v u Q I rx ry q hs
  exact h value slice pins s σ H x y v u Q I rx ry (m _ _ _ _ q) hs
theorem SlR.mono {r r' : V → Option Int → Option Int → Hp → VK → Prop}
    (h : SlR X r) (m : ∀ x lo hi H Q, r' x lo hi H Q → r x lo hi H Q) :
    SlR X r' := by
  intro pins s σ H x v vl vu lo hi sl Q I rx hs pl pu q
  exact h pins s σ H x v vl vu lo hi sl Q I rx hs pl pu (m _ _ _ _ _ q)
def rIxN (K : PySem.W.Frag) : R2 := fun x y H Q => ∃ (p : Addr) (xs : List V)
  (i : Nat) (v : V), x = .ref p ∧ y = .int (i : Nat) ∧ SqL K H p xs ∧
  xs[i]? = some v ∧ Q v H
theorem at_nn {xs : List V} {i : Nat} {v : V} (h : xs[i]? = some v) :
    atI xs (i : Int) = some v := at_of rfl h
theorem ix_listN (h : X.K = K := by rfl) : IxR X (rIxN K) :=
  IxR.mono (h ▸ ix_list : IxR X (rIxL K)) fun x y H Q ⟨p, xs, i, v, e1, e2, h1, h2, q⟩ =>
    ⟨p, xs, i, v, e1, e2, h1, at_nn h2, q⟩
def rIxTN (K : PySem.W.Frag) : R2 := fun x y H Q => ∃ (p : Addr) (xs : List V)
  (i : Nat) (v : V), x = .ref p ∧ y = .int (i : Nat) ∧ SqT K H p xs ∧
  xs[i]? = some v ∧ Q v H
theorem ix_tupN (h : X.K = K := by rfl) : IxR X (rIxTN K) :=
  IxR.mono (h ▸ ix_tup : IxR X (rIxT K)) fun x y H Q ⟨p, xs, i, v, e1, e2, h1, h2, q⟩ =>
    ⟨p, xs, i, v, e1, e2, h1, at_nn h2, q⟩
def rSlN (K : PySem.W.Frag) : V → Option Int → Option Int → Hp → VK → Prop :=
  fun x lo hi H Q => ∃ a xs, x = .ref a ∧ SqL K H a xs ∧ ∀ p H',
    New H p (.lst (cutV xs lo hi)) H' → Q (.ref p) H'
theorem sl_listN (h : X.K = K := by rfl) : SlR X (rSlN K) :=
  SlR.mono (h ▸ sl_list : SlR X (rSlL K)) fun x lo hi H Q ⟨a, xs, e, h1, q⟩ =>
    ⟨a, xs, e, h1, fun p np => q p _ ⟨np, rfl⟩⟩
def rLen (K : PySem.W.Frag) : List V → Hp → VK → Prop := fun xs H Q =>
  ∃ p ys, xs = [.ref p] ∧ (SqL K H p ys ∨ SqT K H p ys) ∧
    Q (.int (ys.length : Nat)) H
theorem call_lenN (h : X.K = K := by rfl) :
    CallR X (.builtin "len") (rLen K) := h ▸ call_len_seq
def rListOf (K : PySem.W.Frag) : List V → Hp → VK → Prop := fun xs H Q =>
  ∃ p ys, xs = [.ref p] ∧ (SqL K H p ys ∨ SqT K H p ys) ∧ ∀ l H',
    New H l (.lst ys) H' → Q (.ref l) H'
theorem call_listN (h : X.K = K := by rfl) :
    CallR X (.type "list") (rListOf K) := by
  subst h
  exact CallR.mono call_list_of fun xs H Q ⟨p, ys, e, h1, q⟩ =>
    ⟨p, ys, e, h1, fun l nl => q l _ ⟨nl, rfl⟩⟩
def rSortN (K : PySem.W.Frag) : List V → Hp → VK → Prop := fun vs H Q =>
  ∃ (a : Addr) (l : List Nat), vs = [V.ref a] ∧ SqL K H a (nV l) ∧
    ∀ (m : List Nat) p H', m.Perm l → m.Pairwise (· ≤ ·) →
      New H p (.lst (nV m)) H' → Q (.ref p) H'
theorem cr_sortN (h : X.K = K := by rfl) :
    CallR X (.builtin "sorted") (rSortN K) := by
  subst h
  refine CallR.mono cr_sortedI fun xs H Q ⟨a, l, e, h1, q⟩ =>
    ⟨a, ci l, e, by rw [← nV_int]; exact h1, fun ns' p pm pw np => ?_⟩
  obtain ⟨m, rfl, pm2⟩ := perm_cast pm
  have e2 : nV m = (ci m).map V.int := nV_int m
  rw [← e2]
  refine q m p _ pm2 ?_ ⟨np, rfl⟩
  unfold ci at pw
  rw [List.pairwise_map] at pw
  exact pw.imp fun {a b} h => by omega
theorem sum_ci : ∀ l : List Nat, (ci l).sum = ((l.sum : Nat) : Int)
  | [] => rfl
  | x :: l => by
    show ((x : Int) + (ci l).sum) = _
    rw [sum_ci l, List.sum_cons]; omega
def rSumN (K : PySem.W.Frag) : List V → Hp → VK → Prop := fun vs H Q =>
  ∃ (a : Addr) (l : List Nat), vs = [V.ref a] ∧ SqL K H a (nV l) ∧
    Q (.int (l.sum : Nat)) H
theorem cr_sumN (hc : X.calm = true) (h : X.K = K := by rfl) :
    CallR X (.builtin "sum") (rSumN K) := by
  subst h
  exact CallR.mono (cr_sum hc) fun xs H Q ⟨a, l, e, h1, q⟩ =>
    ⟨a, ci l, e, by rw [← nV_int]; exact h1, by rw [sum_ci]; exact q⟩
def rMaxN (K : PySem.W.Frag) : List V → Hp → VK → Prop := fun vs H Q =>
  ∃ (a : Addr) (l : List Nat), vs = [V.ref a] ∧ SqL K H a (nV l) ∧
    0 < l.length ∧ ∀ m : Nat, m ∈ l → (∀ y ∈ l, y ≤ m) → Q (.int (m : Nat)) H
theorem cr_maxN (hc : X.calm = true) (h : X.K = K := by rfl) :
    CallR X (.builtin "max") (rMaxN K) := by
  subst h
  refine CallR.mono (cr_max hc) fun xs H Q ⟨a, l, e, h1, h2, q⟩ =>
    ⟨a, ci l, e, by rw [← nV_int]; exact h1, by unfold ci; rw [List.length_map]; exact h2, fun m hm hy => ?_⟩
  obtain ⟨n, hn, rfl⟩ := List.mem_map.mp hm
  exact q n hn fun y hy' => by
    have := hy y (mem_ci.mpr hy'); omega
def rMinN (K : PySem.W.Frag) : List V → Hp → VK → Prop := fun vs H Q =>
  ∃ (a : Addr) (l : List Nat), vs = [V.ref a] ∧ SqL K H a (nV l) ∧
    0 < l.length ∧ ∀ m : Nat, m ∈ l → (∀ y ∈ l, m ≤ y) → Q (.int (m : Nat)) H
theorem cr_minN (hc : X.calm = true) (h : X.K = K := by rfl) :
    CallR X (.builtin "min") (rMinN K) := by
  subst h
  refine CallR.mono (cr_min hc) fun xs H Q ⟨a, l, e, h1, h2, q⟩ =>
    ⟨a, ci l, e, by rw [← nV_int]; exact h1, by unfold ci; rw [List.length_map]; exact h2, fun m hm hy => ?_⟩
  obtain ⟨n, hn, rfl⟩ := List.mem_map.mp hm
  exact q n hn fun y hy' => by
    have := hy y (mem_ci.mpr hy'); omega
/-- a number in a list of numbers -/
def rInN (K : PySem.W.Frag) : R2 := fun x y H Q =>
  ∃ (p : Addr) (n : Nat) (l : List Nat), x = .int (n : Nat) ∧ y = .ref p ∧
    (SqL K H p (nV l) ∨ SqT K H p (nV l)) ∧ Q (.bl (decide (n ∈ l))) H
def rNiN (K : PySem.W.Frag) : R2 := fun x y H Q =>
  ∃ (p : Addr) (n : Nat) (l : List Nat), x = .int (n : Nat) ∧ y = .ref p ∧
    (SqL K H p (nV l) ∨ SqT K H p (nV l)) ∧ Q (.bl (!decide (n ∈ l))) H
theorem op_inN (h : X.K = K := by rfl) : OpR X (compareOp .In) (rInN K) := by
  subst h
  exact OpR.mono op_in_seq fun x y H Q ⟨p, n, l, e1, e2, h1, q⟩ =>
    ⟨p, nV l, e2, h1, by rw [e1]; rfl, flat_nat l, by rw [e1, inV_nat]; exact q⟩
theorem op_niN (h : X.K = K := by rfl) : OpR X (compareOp .NotIn) (rNiN K) := by
  subst h
  exact OpR.mono op_notIn_seq fun x y H Q ⟨p, n, l, e1, e2, h1, q⟩ =>
    ⟨p, nV l, e2, h1, by rw [e1]; rfl, flat_nat l, by rw [e1, inV_nat]; exact q⟩
theorem eqvN (l m : List Nat) : PyData.eqv (.list ((ci l).map .int))
    (.list ((ci m).map .int)) = decide (l = m) := by
  rw [eqvL]
  have inj : ci l = ci m ↔ l = m := by
    constructor
    · intro h
      have := congrArg (List.map Int.toNat) h
      unfold ci at this
      rw [List.map_map, List.map_map] at this
      have e : (Int.toNat ∘ fun i : Nat => (i : Int)) = id := by funext i; rfl
      rw [e, List.map_id, List.map_id] at this
      exact this
    · intro h; rw [h]
  by_cases h : l = m
  · rw [decide_eq_true h, decide_eq_true (inj.mpr h)]
  · rw [decide_eq_false h, decide_eq_false fun z => h (inj.mp z)]
/-- lists of numbers beside one another -/
def rEqL (K : PySem.W.Frag) : R2 := fun x y H Q =>
  ∃ (a b : Addr) (l m : List Nat), x = .ref a ∧ y = .ref b ∧
    SqL K H a (nV l) ∧ SqL K H b (nV m) ∧ Q (.bl (decide (l = m))) H
def rNeL (K : PySem.W.Frag) : R2 := fun x y H Q =>
  ∃ (a b : Addr) (l m : List Nat), x = .ref a ∧ y = .ref b ∧
    SqL K H a (nV l) ∧ SqL K H b (nV m) ∧ Q (.bl (!decide (l = m))) H
theorem op_eqL (hu : X.A.units + 64 < cLine) (h : X.K = K := by rfl) :
    OpR X (compareOp .Eq) (rEqL K) := by
  subst h
  exact OpR.mono (op_eqD hu) fun x y H Q ⟨a, b, l, m, e1, e2, h1, h2, q⟩ =>
    ⟨.list ((ci l).map .int), .list ((ci m).map .int), by rw [e1]; exact dpN h1, by rw [e2]; exact dpN h2,
      shapedL _, shapedL _, by rw [eqvN]; exact q⟩
theorem op_neL (hu : X.A.units + 64 < cLine) (h : X.K = K := by rfl) :
    OpR X (compareOp .NotEq) (rNeL K) := by
  subst h
  exact OpR.mono (op_neD hu) fun x y H Q ⟨a, b, l, m, e1, e2, h1, h2, q⟩ =>
    ⟨.list ((ci l).map .int), .list ((ci m).map .int), by rw [e1]; exact dpN h1, by rw [e2]; exact dpN h2,
      shapedL _, shapedL _, by rw [eqvN]; exact q⟩
def rRepN : R2 := fun x y H Q => ∃ (l : Addr) (k : Nat) (xs : List V),
  x = .ref l ∧ y = .int (k : Nat) ∧ H l = some (.lst xs) ∧ k < 2 ^ 62 ∧
  xs.length * k ≤ 16777216 ∧ ∀ p H',
    New H p (.lst (List.replicate k xs).flatten) H' → Q (.ref p) H'
theorem op_repN : OpR X (binaryOp .Mult) rRepN :=
  OpR.mono op_rep fun x y H Q ⟨l, k, xs, e1, e2, h1, h2, h3, q⟩ =>
    ⟨l, k, xs, e1, e2, h1, by omega, by omega, by rw [sizeLine_eq]; exact h3,
      fun p np => q p _ ⟨np, rfl⟩⟩
/-- over range(n), range(m, n), numbers -/
def iRgN1 (ta : TA) : TI := fun σ H R => ta σ H fun vs H1 => ∃ j : Nat,
  vs = [.int (j : Nat)] ∧ j < 2 ^ 62 ∧ R (Itr 0 j) H1
def iRgN2 (ta : TA) : TI := fun σ H R => ta σ H fun vs H1 => ∃ i j : Nat,
  vs = [.int (i : Nat), .int (j : Nat)] ∧ (i < 2 ^ 62 ∧ j < 2 ^ 62) ∧
  R (Itr (i : Nat) (j - i)) H1
end
structure TAmono (ta : TA) : Prop where
  m : ∀ σ H (Q Q' : List V → Hp → Prop), (∀ vs H1, Q vs H1 → Q' vs H1) →
    ta σ H Q → ta σ H Q'
section
variable {X : Cx} {tg : Expr}
theorem PA.weak {es : List Expr} {ta ta' : TA} (h : PA X es ta)
    (m : ∀ σ H Q, ta' σ H Q → ta σ H Q) : PA X es ta' :=
  ⟨fun pos pins s σ H Q I q => h.run pos pins s σ H Q I (m _ _ _ q)⟩
theorem pi_rgN1 {a : Expr} {ta : TA} {p pos : Pos} (hg : Gl X "range") (hm : X.mg "range" = none) (ha : PA X [a] ta) (hs : starEach [a] X.env = [(false, eval a X.env)] := by rfl) : PI X tg (.Call (.Name "range" p) [a] [] pos) (iRgN1 ta) := by
  refine ⟨fun pins s σ H R I h => ?_⟩
  have ha' : PA X [a] (fun σ H Q => ∃ Q', ta σ H Q' ∧ ∀ vs H1, Q' vs H1 → Q vs H1) :=
    ⟨fun pos pins s σ H Q I ⟨Q', h1, h2⟩ => thn (ha.run pos pins s σ H Q' I h1)
      fun us s1 ⟨vs, H1, I1, r, q⟩ => ⟨vs, H1, I1, r, h2 _ _ q⟩⟩
  refine (pi_range1 hg hm ha' hs).run pins s σ H R I ?_
  exact ⟨_, h, fun vs H1 ⟨j, e, h1, q⟩ => ⟨j, e, by omega, by omega, q⟩⟩
theorem pi_rgN2 {a b : Expr} {ta : TA} {p pos : Pos} (hg : Gl X "range") (hm : X.mg "range" = none) (ha : PA X [a, b] ta) (hs : starEach [a, b] X.env = [(false, eval a X.env), (false, eval b X.env)] := by rfl) (hs2 : starEach [b] X.env = [(false, eval b X.env)] := by rfl) :
    PI X tg (.Call (.Name "range" p) [a, b] [] pos) (iRgN2 ta) := by
  refine ⟨fun pins s σ H R I h => ?_⟩
  have ha' : PA X [a, b] (fun σ H Q => ∃ Q', ta σ H Q' ∧ ∀ vs H1, Q' vs H1 → Q vs H1) :=
    ⟨fun pos pins s σ H Q I ⟨Q', h1, h2⟩ => thn (ha.run pos pins s σ H Q' I h1)
      fun us s1 ⟨vs, H1, I1, r, q⟩ => ⟨vs, H1, I1, r, h2 _ _ q⟩⟩
  refine (pi_range2 hg hm ha' hs hs2).run pins s σ H R I ?_
  refine ⟨_, h, fun vs H1 ⟨i, j, e, ⟨h1, h2⟩, q⟩ => ⟨i, j, e, ⟨by omega, by omega, by omega, by omega⟩, ?_⟩⟩
  have : ((j : Int) - (i : Int)).toNat = j - i := by omega
  rw [this]; exact q
end
section
variable {X : Cx} {K : PySem.W.Frag}
def tRevN (K : PySem.W.Frag) (te : TE) : TE := fun σ H Q => te σ H fun x H1 =>
  ∃ a xs, x = .ref a ∧ SqL K H1 a xs ∧ ∀ p H', New H1 p (.lst xs.reverse) H' →
    Q (.ref p) H'
/-- readings go on to the end -/
structure TEm (t : TE) : Prop where
  m : ∀ σ H (Q Q' : VK), (∀ v H1, Q v H1 → Q' v H1) → t σ H Q → t σ H Q'
/-- an expression whose reading is strengthened behind -/
theorem behind {e : Expr} {te : TE} (he : PE X e te) :
    PE X e (fun σ H Q => ∃ Q', te σ H Q' ∧ ∀ v H1, Q' v H1 → Q v H1) :=
  ⟨fun pins s σ H Q I ⟨Q', h1, h2⟩ => thn (he.run pins s σ H Q' I h1)
    fun u s1 ⟨v, H1, I1, r, q⟩ => ⟨v, H1, I1, r, h2 _ _ q⟩⟩
theorem pe_revN {e : Expr} {te : TE} {k : Nat} {p1 p2 p3 pos : Pos} (he : PE X e te)
    (h : X.K = K := by rfl) : PE X (.Subscript e (.Slice none none (some (.UnaryOp .USub (.Constant (.int 1) k p1) p2)) p3) pos) (tRevN K te) := by
  subst h
  exact PE.mono (pe_revL (behind he)) fun σ H Q h =>
    ⟨_, h, fun v H1 ⟨a, xs, e1, h1, q⟩ => ⟨a, xs, e1, h1, fun p np => q p _ ⟨np, rfl⟩⟩⟩
def rMin2N : List V → Hp → VK → Prop := fun xs H Q => ∃ i j : Nat,
  xs = [.int (i : Nat), .int (j : Nat)] ∧ Q (.int (min i j : Nat)) H
def rMax2N : List V → Hp → VK → Prop := fun xs H Q => ∃ i j : Nat,
  xs = [.int (i : Nat), .int (j : Nat)] ∧ Q (.int (max i j : Nat)) H
theorem call_min2N (hc : X.calm = true) : CallR X (.builtin "min") rMin2N :=
  CallR.mono (call_min2 hc) fun xs H Q ⟨i, j, e, q⟩ => ⟨i, j, e, by
    have : (if (j : Int) < (i : Int) then (j : Int) else (i : Int)) = ((min i j : Nat) : Int) := by
      split <;> omega
    rw [this]; exact q⟩
theorem call_max2N (hc : X.calm = true) : CallR X (.builtin "max") rMax2N :=
  CallR.mono (call_max2 hc) fun xs H Q ⟨i, j, e, q⟩ => ⟨i, j, e, by
    have : (if (j : Int) > (i : Int) then (j : Int) else (i : Int)) = ((max i j : Nat) : Int) := by
      split <;> omega
    rw [this]; exact q⟩
/-- int of a truth -/
def rIntB : List V → Hp → VK → Prop := fun xs H Q => ∃ k : Bool,
  xs = [.bl k] ∧ Q (.int ((if k = true then 1 else 0 : Nat) : Nat)) H
theorem call_intB : CallR X (.type "int") rIntB :=
  CallR.mono call_int1 fun xs H Q ⟨k, e, q⟩ => .inr ⟨k, e, by cases k <;> exact q⟩
/-- a number as a test -/
def tIntN (ta : TE) : TT := fun σ H Q =>
  ta σ H fun x H' => ∃ n : Nat, x = .int (n : Nat) ∧ Q (!decide (n = 0)) H'
theorem pt_intN {a : Expr} {ta : TE} (ha : PE X a ta)
    (he : ∀ whole, isTrue a X.env whole =
      (do let v ← whole; standAt a.pos; holding [v] (truthy v))) :
    PT X a (tIntN ta) := by
  refine ⟨fun pins s σ H Q I h => ?_⟩
  refine (pt_int (behind ha) he).run pins s σ H Q I ?_
  refine ⟨_, h, fun v H1 ⟨n, e, q⟩ => ⟨(n : Nat), e, ?_⟩⟩
  have : ((n : Int) != 0) = !decide (n = 0) := by
    by_cases h : n = 0
    · subst h; rfl
    · have h' : (n : Int) ≠ 0 := by omega
      simp [h, h']
  rw [this]; exact q
end
theorem Sep.put {H H' : Hp} {s t : List Res} {a : Addr} {o o' : HO}
    (h : Sep H s) (p : Pick (.obj a o) s t) (e : H' = upd H a o') :
    Sep H' (.obj a o' :: t) := e ▸ (h.front p).set
/-- xs.append(e) -/
def tApp (to te : TE) : TE := fun σ H Q => to σ H fun x H1 => ∃ l,
  x = .ref l ∧ (∃ xs, H1 l = some (.lst xs)) ∧ te σ H1 fun y H2 => ∃ xs,
  H2 l = some (.lst xs) ∧ xs.length < 16777216 ∧
  ∀ H3, H3 = upd H2 l (.lst (xs ++ [y])) → Q .non H3
section
variable {X : Cx} {o e : Expr} {to te : TE} {apos cpos : Pos}
theorem pe_app (ho : PE X o to) (he : PE X e te)
    (hbase : attributeBase o "append" X.env (eval o X.env) = eval o X.env := by rfl)
    (hfew : ((backTo cpos (starEach [e] X.env)).all (fun x => !x.1) && (backToKw cpos (keywordEach [] X.env)).all (fun x => x.1.isSome)
      && decide (([e] : List Expr).length + ([] : List Keyword).length + (if ([] : List Keyword).isEmpty then 0 else 1) < 30)) = true := by rfl)
    (hline : (apos.endLine == cpos.line) = true := by rfl) (hs : starEach [e] X.env = (false, eval e X.env) :: starEach [] X.env := by rfl) (hplain : (backTo cpos (starEach [] X.env)).any (·.1) = false := by rfl) :
    PE X (.Call (.Attribute o "append" apos) [e] [] cpos) (tApp to te) := by
  refine PE.mono (pe_bm PySem.F.plainAttrs_list PySem.F.slot_list_append PySem.F.type_list_append mt_append (behind ho) (pa_cons (behind he) pa_nil hs) hbase hfew hline hs hplain) ?_
  intro σ H Q h
  refine ⟨_, h, fun x H1 ⟨l, ex, ⟨xs, h1⟩, h2⟩ => ?_⟩
  subst ex
  refine ⟨.inl ⟨rfl, _, .of h1⟩, _, h2, fun y H2 ⟨ys, g1, g2, q⟩ => ?_⟩
  exact ⟨l, ys, y, rfl, rfl, g1, by rw [sizeLine_eq]; exact g2, q _ rfl⟩
end
/-! ### isinstance of numbers and lists -/
section
variable {X : Cx} {K : PySem.W.Frag}
def rIsiInt : List V → Hp → VK → Prop := fun xs H Q => ∃ i : Int,
  xs = [.int i, .ty "int"] ∧ Q (.bl true) H
def rIsiBool : List V → Hp → VK → Prop := fun xs H Q => ∃ i : Int,
  xs = [.int i, .ty "bool"] ∧ Q (.bl false) H
def rIsiList : List V → Hp → VK → Prop := fun xs H Q => ∃ a ys,
  xs = [.ref a, .ty "list"] ∧ H a = some (.lst ys) ∧ Q (.bl true) H
theorem call_isiInt : CallR X (.builtin "isinstance") rIsiInt :=
  CallR.mono call_isi fun xs H Q ⟨i, e, q⟩ => ⟨.int i, .ty "int", .type "int",
    .type "int", true, e, .ty _, .base (.int _), kit_ty (by decide +kernel), q⟩
theorem call_isiBool : CallR X (.builtin "isinstance") rIsiBool :=
  CallR.mono call_isi fun xs H Q ⟨i, e, q⟩ => ⟨.int i, .ty "bool", .type "int",
    .type "bool", false, e, .ty _, .base (.int _), kit_ty (by decide +kernel), q⟩
theorem call_isiList : CallR X (.builtin "isinstance") rIsiList :=
  CallR.mono call_isi fun xs H Q ⟨a, ys, e, h, q⟩ => ⟨.ref a, .ty "list", .type "list",
    .type "list", true, e, .ty _, .base (.lst h), kit_ty (by decide +kernel), q⟩
end
theorem nV_at3 {l : List Nat} {i x : Nat} (h : l[i]? = some x) :
    (nV l)[i]? = some (.int (x : Nat)) := by
  unfold nV
  rw [List.getElem?_map, h]; rfl
theorem pickN {l : List Nat} {d : Nat} (h : d < l.length) {p : Nat → Prop}
    (hp : ∀ x ∈ l, p x) : ∃ x : Nat, (nV l)[d]? = some (.int (x : Nat)) ∧ p x :=
  ⟨l[d], nV_at3 (List.getElem?_eq_getElem h), hp _ (List.getElem_mem h)⟩
theorem rmap_succ (f : Nat → Nat) (i : Nat) :
    nV ((List.range i).map f) ++ [.int (f i : Nat)] =
      nV ((List.range (i + 1)).map f) := by
  rw [List.range_succ, List.map_append, nV_app]; rfl
theorem rmap_at {f : Nat → Nat} {n i : Nat} (h : i < n) :
    (nV ((List.range n).map f))[i]? = some (.int (f i : Nat)) :=
  nV_at3 (by rw [List.getElem?_map, List.getElem?_range h]; rfl)
section
variable {X : Cx}
def rPowN : R2 := fun x y H Q => ∃ n m : Nat, x = .int (n : Nat) ∧
  y = .int (m : Nat) ∧ bl n * m ≤ 134217728 ∧ Q (.int (n ^ m : Nat)) H
theorem op_powN : OpR X (binaryOp .Pow) rPowN :=
  OpR.mono op_powX fun x y H Q ⟨n, m, e1, e2, h, q⟩ =>
    ⟨_, _, e1, e2, ⟨by omega, by
      have e : ((Builtin.Int.intBits (n : Int) : Nat) : Int) * (m : Int) = ((bl n * m : Nat) : Int) := by
        unfold bl; rw [Int.natCast_mul]
      have : (2 : Int) ^ 27 = 134217728 := by decide
      rw [e, this]; omega⟩, by
      dsimp only
      rw [Int.toNat_natCast, ← Int.natCast_pow]; exact q⟩
end
theorem itNt {A B : Prop} (h : B) : if (!true) = true then A else B := by
  rw [if_neg (by decide)]; exact h
theorem itNf {A B : Prop} (h : A) : if (!false) = true then A else B := by
  rw [if_pos (by decide)]; exact h
theorem itT {A B : Prop} (h : A) : if true = true then A else B := by
  rw [if_pos rfl]; exact h
theorem itF {A B : Prop} (h : B) : if false = true then A else B := by
  rw [if_neg Bool.false_ne_true]; exact h
theorem sortedN : ∀ {l m : List Nat}, l.Pairwise (· ≤ ·) →
    m.Pairwise (· ≤ ·) → l.Perm m → l = m
  | [], m, _, _, p => p.nil_eq
  | a :: l, [], _, _, p => (p.symm.nil_eq).symm
  | a :: l, b :: m, hl, hm', p => by
    obtain ⟨h1, h2⟩ := List.pairwise_cons.mp hl
    obtain ⟨h3, h4⟩ := List.pairwise_cons.mp hm'
    have e : a = b := by
      have ha : a ∈ b :: m := p.mem_iff.mp (List.mem_cons_self ..)
      have hb : b ∈ a :: l := p.mem_iff.mpr (List.mem_cons_self ..)
      rcases List.mem_cons.mp ha with h | h
      · exact h
      · rcases List.mem_cons.mp hb with g | g
        · exact g.symm
        · have := h3 a h
          have := h1 b g
          omega
    subst e
    rw [sortedN h2 h4 p.cons_inv]
structure TupC (K : PySem.W.Frag) (mg : Str → Option Value) (x : Str)
    (l : List Nat) : Prop where
  ex : ∃ a, mg x = some (.ref a) ∧ ∀ H, SqT K H a (nV l)
section
variable {X : Cx} {K : PySem.W.Frag}
theorem idx_at {l : List Nat} {n : Nat} (h : n ∈ l) : l[l.idxOf n]? = some n := by
  have h1 := List.idxOf_lt_length_of_mem h
  rw [List.getElem?_eq_getElem h1]
  exact congrArg some (List.getElem_idxOf h1)
def rIndexN (K : PySem.W.Frag) : V → List V → Hp → VK → Prop := fun x xs H Q =>
  ∃ (a : Addr) (l : List Nat) (n : Nat), x = V.ref a ∧ xs = [.int (n : Nat)] ∧
    SqL K H a (nV l) ∧ n ∈ l ∧ Q (.int (l.idxOf n : Nat)) H
end
section
variable {X : Cx} {K : PySem.W.Frag}
theorem mt_indexN (h : X.K = K := by rfl) : MtR X "list.index" (rIndexN K) := by
  subst h
  intro pins s σ H x xs v us Q I rx rv ⟨a, l, n, e1, e2, hs, hn, q⟩
  refine mt_index pins s σ H x xs v us Q I rx rv ⟨a, nV l, .int (n : Nat), l.idxOf n,
    .int (n : Nat), e1, e2, hs, rfl, flat_nat l, nV_at3 (idx_at hn), ?_, ?_, q⟩
  · show ((n : Int) == (n : Int)) = true
    simp
  · intro m z hm hz
    obtain ⟨y, hy, rfl⟩ := nV_get hz
    have hne : y ≠ n := fun e => by
      subst e
      have := List.not_of_lt_findIdx (xs := l) (p := (· == y)) (by unfold List.idxOf at hm; exact hm)
      obtain ⟨hml, hy⟩ := List.getElem?_eq_some_iff.mp hy
      simp [hy] at this
    show ((y : Int) == (n : Int)) = false
    have : ¬ ((y : Int) = (n : Int)) := by omega
    simpa using this
end
section
variable {X : Cx}
def rEqB : R2 := fun x y H Q => ∃ a b : Bool, x = .bl a ∧ y = .bl b ∧ Q (.bl (a == b)) H
def rNeB : R2 := fun x y H Q => ∃ a b : Bool, x = .bl a ∧ y = .bl b ∧ Q (.bl (a != b)) H
theorem decBl (a b : Bool) : decide (V.bl a = V.bl b) = (a == b) := by
  cases a <;> cases b <;> simp
theorem op_eqB : OpR X (compareOp .Eq) rEqB :=
  OpR.mono op_eq fun x y H Q ⟨a, b, e1, e2, q⟩ => by
    subst e1 e2; exact ⟨rfl, by rw [decBl]; exact q⟩
theorem op_neB : OpR X (compareOp .NotEq) rNeB :=
  OpR.mono op_ne fun x y H Q ⟨a, b, e1, e2, q⟩ => by
    subst e1 e2; exact ⟨rfl, by rw [decBl]; exact q⟩
end
theorem iteNeB {a b : Bool} {A B : Prop} (h : a = b) (q : B) :
    if (a != b) = true then A else B := by
  subst h; rw [if_neg (by simp)]; exact q
theorem iteF' {c : Bool} {A B : Prop} (h : c = false) (q : B) :
    if c = true then A else B := by
  subst h; rw [if_neg Bool.false_ne_true]; exact q
theorem iteT' {c : Bool} {A B : Prop} (h : c = true) (q : A) :
    if c = true then A else B := by
  subst h; rw [if_pos rfl]; exact q
theorem iteNT' {c : Bool} {A B : Prop} (h : c = true) (q : B) :
    if (!c) = true then A else B := by
  subst h; rw [if_neg (by decide)]; exact q
theorem len_tm (f : Nat → Nat) (l : List Nat) (i : Nat) :
    (nV ((l.take i).map f)).length ≤ l.length := by
  rw [nV_len, List.length_map, List.length_take]; omega
/-! ### repr of a number, of None, of a truth -/
inductive ShowV : V → Str → Prop where
  | non : ShowV .non PyData.none.shown
  | nat {n : Nat} (h : NB 1900 n) : ShowV (.int (n : Nat)) (PyData.int (n : Nat)).shown
  | bl (b : Bool) : ShowV (.bl b) (PyData.bool b).shown
def rReprS : List V → Hp → VK → Prop := fun xs H Q => ∃ v s, xs = [v] ∧
  ShowV v s ∧ Q (.str s) H
section
variable {X : Cx}
theorem call_reprS (gd : X.A.guards = some []) (hu : X.A.units + 64 < cLine) :
    CallR X (.builtin "repr") rReprS :=
  CallR.mono (call_reprD gd hu) fun xs H Q ⟨v, s, e, h, q⟩ => by
    cases h with
    | non =>
      obtain ⟨h1, h2, h3, h4⟩ := sl_none.ok (by decide) (by decide)
      exact ⟨_, _, e, .non, h1, h2, h3, h4, q⟩
    | nat h =>
      obtain ⟨h1, h2, h3, h4⟩ := (sl_int (i := (_ : Nat)) h).ok (by decide) (by decide)
      exact ⟨_, _, e, .int _, h1, h2, h3, h4, q⟩
    | bl b =>
      obtain ⟨h1, h2, h3, h4⟩ := (sl_bool b).ok (by decide) (by decide)
      exact ⟨_, _, e, .bl b, h1, h2, h3, h4, q⟩
def rEqS : R2 := fun x y H Q => ∃ a b : Str, x = .str a ∧ y = .str b ∧ Q (.bl (decide (a = b))) H
def rNeS : R2 := fun x y H Q => ∃ a b : Str, x = .str a ∧ y = .str b ∧ Q (.bl (!decide (a = b))) H
theorem decS (a b : Str) : decide (V.str a = V.str b) = decide (a = b) := by
  by_cases h : a = b
  · subst h; simp
  · simp [h]
theorem op_eqS : OpR X (compareOp .Eq) rEqS :=
  OpR.mono op_eq fun x y H Q ⟨a, b, e1, e2, q⟩ => by
    subst e1 e2; exact ⟨rfl, by rw [decS]; exact q⟩
theorem op_neS : OpR X (compareOp .NotEq) rNeS :=
  OpR.mono op_ne fun x y H Q ⟨a, b, e1, e2, q⟩ => by
    subst e1 e2; exact ⟨rfl, by rw [decS]; exact q⟩
end

/-! ### walks over dicts, two lists, a list from behind -/
theorem forI {d : Addr} {o : Obj} {kvs : List (Key × V)} {g : TG} {tb : TS}
    {D : Ends} {σ : L2.St} {H : Hp} (J : Nat → L2.St → List Res → Prop)
    (hl : ∀ i σ rs, J i σ rs → ∃ t, Pick (.obj d (.frz o (.dK kvs))) rs t)
    (h0 : RaP J 0 σ H)
    (hs : ∀ i k v T σ rs H, kvs[i]? = some (k, v) → J i σ rs →
      Sep H (.obj T (.tup [kV k, v]) :: rs) → g (.ref T) σ H
      fun σ2 H2 => tb { D with nx := RaP J (i + 1), ct := RaP J (i + 1), bk := D.nx } σ2 H2)
    (hd : ∀ σ rs H, J kvs.length σ rs → Sep H rs → D.nx σ H) :
    ∃ W : Nat → Nat → L2.St → Hp → Prop, (∃ m, W 0 m σ H) ∧
      ∀ i m σ H, W i m σ H →
      ((Iti d o kvs).stop i H ∧ D.nx σ H) ∨ ((Iti d o kvs).go i H ∧
        ∃ N : L2.St → Hp → Prop,
        (∀ σ' H', N σ' H' → ∃ m', m' < m ∧ W (i + 1) m' σ' H') ∧
        ∀ x H', (Iti d o kvs).yld i H x H' → g x σ H' fun σ2 H2 =>
          tb { D with nx := N, ct := N, bk := D.nx } σ2 H2) := by
  refine ⟨fun i m σ H => m = kvs.length - i ∧ i ≤ kvs.length ∧ RaP J i σ H,
    ⟨kvs.length, by simp, Nat.zero_le _, h0⟩, ?_⟩
  rintro i m σ H ⟨rfl, hi, ⟨rs, hj, hc⟩⟩
  obtain ⟨t, p⟩ := hl i σ rs hj
  have q := hc.at p
  by_cases hlt : i < kvs.length
  · refine .inr ⟨⟨q, hlt⟩, RaP J (i + 1), ?_, ?_⟩
    · intro σ' H' p'
      exact ⟨kvs.length - (i + 1), by omega, rfl, hlt, p'⟩
    · rintro x H' ⟨T, k, v, e, rfl, nT, rfl⟩
      exact hs i k v T σ rs _ e hj (hc.new' nT)
  · have e : i = kvs.length := by omega
    subst e
    exact .inl ⟨⟨q, Nat.le_refl _⟩, hd σ rs H hj hc⟩
theorem forZ {K : PySem.W.Frag} {a b : Addr} {xs ys : List V} {g : TG} {tb : TS}
    {D : Ends} {σ : L2.St} {H : Hp} (J : Nat → L2.St → List Res → Prop)
    (hn : xs.length ≤ ys.length)
    (hl : ∀ i σ rs, J i σ rs → (∃ t, Pick (.obj a (.lst xs)) rs t) ∧ ∃ t, Pick (.obj b (.lst ys)) rs t)
    (h0 : RaP J 0 σ H)
    (hs : ∀ i x y T σ rs H, xs[i]? = some x → ys[i]? = some y → J i σ rs →
      Sep H (.obj T (.tup [x, y]) :: rs) → g (.ref T) σ H
      fun σ2 H2 => tb { D with nx := RaP J (i + 1), ct := RaP J (i + 1), bk := D.nx } σ2 H2)
    (hd : ∀ σ rs H, J xs.length σ rs → Sep H rs → D.nx σ H) :
    ∃ W : Nat → Nat → L2.St → Hp → Prop, (∃ m, W 0 m σ H) ∧
      ∀ i m σ H, W i m σ H →
      ((Itz K a b).stop i H ∧ D.nx σ H) ∨ ((Itz K a b).go i H ∧
        ∃ N : L2.St → Hp → Prop,
        (∀ σ' H', N σ' H' → ∃ m', m' < m ∧ W (i + 1) m' σ' H') ∧
        ∀ x H', (Itz K a b).yld i H x H' → g x σ H' fun σ2 H2 =>
          tb { D with nx := N, ct := N, bk := D.nx } σ2 H2) := by
  refine ⟨fun i m σ H => m = xs.length - i ∧ i ≤ xs.length ∧ RaP J i σ H,
    ⟨xs.length, by simp, Nat.zero_le _, h0⟩, ?_⟩
  rintro i m σ H ⟨rfl, hi, ⟨rs, hj, hc⟩⟩
  obtain ⟨⟨t, p⟩, ⟨t2, p2⟩⟩ := hl i σ rs hj
  have q1 : SqL K H a xs := hc.sq p
  have q2 : SqL K H b ys := hc.sq p2
  by_cases hlt : i < xs.length
  · refine .inr ⟨⟨xs, ys, xs[i], ys[i], q1, q2, List.getElem?_eq_getElem hlt,
      List.getElem?_eq_getElem (by omega)⟩, RaP J (i + 1), ?_, ?_⟩
    · intro σ' H' p'
      exact ⟨xs.length - (i + 1), by omega, rfl, hlt, p'⟩
    · rintro x H' ⟨T, x1, y1, rfl, nT, rfl, fx, fy⟩
      exact hs i x1 y1 T σ rs _ (fx xs q1) (fy ys q2) hj (hc.new' nT)
  · have e : i = xs.length := by omega
    subst e
    exact .inl ⟨⟨xs, ys, q1, q2, .inl (Nat.le_refl _)⟩, hd σ rs H hj hc⟩
theorem forV {K : PySem.W.Frag} {a : Addr} {xs : List V} {g : TG} {tb : TS}
    {D : Ends} {σ : L2.St} {H : Hp} (J : Nat → L2.St → List Res → Prop)
    (hl : ∀ i σ rs, J i σ rs → ∃ t, Pick (.obj a (.lst xs)) rs t)
    (h0 : RaP J 0 σ H)
    (hs : ∀ i x σ rs H, i < xs.length → xs[xs.length - 1 - i]? = some x → J i σ rs → Sep H rs → g x σ H
      fun σ2 H2 => tb { D with nx := RaP J (i + 1), ct := RaP J (i + 1), bk := D.nx } σ2 H2)
    (hd : ∀ σ rs H, J xs.length σ rs → Sep H rs → D.nx σ H) :
    ∃ W : Nat → Nat → L2.St → Hp → Prop, (∃ m, W 0 m σ H) ∧
      ∀ i m σ H, W i m σ H →
      ((Itv K a xs.length).stop i H ∧ D.nx σ H) ∨ ((Itv K a xs.length).go i H ∧
        ∃ N : L2.St → Hp → Prop,
        (∀ σ' H', N σ' H' → ∃ m', m' < m ∧ W (i + 1) m' σ' H') ∧
        ∀ x H', (Itv K a xs.length).yld i H x H' → g x σ H' fun σ2 H2 =>
          tb { D with nx := N, ct := N, bk := D.nx } σ2 H2) := by
  refine ⟨fun i m σ H => m = xs.length - i ∧ i ≤ xs.length ∧ RaP J i σ H,
    ⟨xs.length, by simp, Nat.zero_le _, h0⟩, ?_⟩
  rintro i m σ H ⟨rfl, hi, ⟨rs, hj, hc⟩⟩
  obtain ⟨t, p⟩ := hl i σ rs hj
  have q1 : SqL K H a xs := hc.sq p
  by_cases hlt : i < xs.length
  · refine .inr ⟨⟨hlt, xs, xs[xs.length - 1 - i], q1, List.getElem?_eq_getElem (by omega)⟩, RaP J (i + 1), ?_, ?_⟩
    · intro σ' H' p'
      exact ⟨xs.length - (i + 1), by omega, rfl, hlt, p'⟩
    · rintro x H' ⟨rfl, fx⟩
      exact hs i x σ rs _ hlt (fx xs q1) hj hc
  · have e : i = xs.length := by omega
    subst e
    exact .inl ⟨Nat.le_refl _, hd σ rs H hj hc⟩
theorem Pick.back {r : Res} {s t : List Res} (p : Pick r s t) : Sub s (r :: t) := by
  induction p with
  | here => exact .refl
  | there p ih => exact .cons (.there .here) ih
/-! ### dicts of numbers -/
def nD (m : List (Nat × Nat)) : List (Key × V) :=
  m.map fun p => (Sum.inl (p.1 : Int), V.int (p.2 : Nat))
theorem inl_eq {a b : Nat} : ((Sum.inl (a : Int) : Key) = Sum.inl (b : Int)) ↔ a = b := by
  constructor
  · intro h; have := Sum.inl.inj h; omega
  · intro h; rw [h]
theorem nD_val (m : List (Nat × Nat)) (k : Nat) :
    valV (nD m) (Sum.inl (k : Int)) = (dlk m k).map fun v => V.int (v : Nat) := by
  induction m with
  | nil => rfl
  | cons p r ih =>
    show valV ((Sum.inl (p.1 : Int), V.int (p.2 : Nat)) :: nD r) _ = (if p.1 = k then some p.2 else dlk r k).map _
    by_cases h : p.1 = k
    · rw [if_pos h, valV_pos (inl_eq.mpr h)]; rfl
    · rw [if_neg h, valV_neg fun z => h (inl_eq.mp z)]; exact ih
theorem nD_get (m : List (Nat × Nat)) (k z : Nat) :
    (valV (nD m) (Sum.inl (k : Int))).getD (.int (z : Nat)) = .int (dget m k z : Nat) := by
  rw [nD_val]
  unfold dget
  cases dlk m k <;> rfl
theorem nD_map {m : List (Nat × Nat)} {k v : Nat} (h : k ∉ m.map (·.1)) :
    ((nD m).map fun kv => if kv.1 = (Sum.inl (k : Int) : Key) then (kv.1, V.int (v : Nat)) else kv) = nD m := by
  unfold nD
  rw [List.map_map]
  refine List.map_congr_left fun p hp => ?_
  show (if (Sum.inl (p.1 : Int) : Key) = Sum.inl (k : Int) then _ else _) = _
  rw [if_neg fun z => h (by rw [← inl_eq.mp z]; exact List.mem_map.mpr ⟨p, hp, rfl⟩)]
theorem nD_put {m : List (Nat × Nat)} (h : (m.map (·.1)).Nodup) (k v : Nat) :
    putK (nD m) (Sum.inl (k : Int)) (.int (v : Nat)) = nD (dput m k v) := by
  unfold putK
  rw [valV_any, nD_val]
  induction m with
  | nil => rfl
  | cons p r ih =>
    have h1 := List.nodup_cons.mp (show (p.1 :: r.map (·.1)).Nodup from h)
    unfold dput
    show (if ((if p.1 = k then some p.2 else dlk r k).map _).isSome = true then _ else _) = _
    by_cases hp : p.1 = k
    · rw [if_pos hp, if_pos hp]
      show (if true = true then _ else _) = _
      rw [if_pos rfl]
      show (if (Sum.inl (p.1 : Int) : Key) = Sum.inl (k : Int) then _ else _) :: _ = _
      rw [if_pos (inl_eq.mpr hp)]
      have := nD_map (m := r) (k := k) (v := v) (by rw [← hp]; exact h1.1)
      show ((Sum.inl (p.1 : Int) : Key), V.int (v : Nat)) :: _ = _
      rw [hp]
      exact congrArg _ this
    · rw [if_neg hp, if_neg hp]
      have ih := ih h1.2
      by_cases hs : ((dlk r k).map fun v => V.int (v : Nat)).isSome = true
      · rw [if_pos hs] at ih ⊢
        show (if (Sum.inl (p.1 : Int) : Key) = Sum.inl (k : Int) then _ else _) :: _ = _
        rw [if_neg fun z => hp (inl_eq.mp z)]
        exact congrArg _ ih
      · rw [if_neg hs] at ih ⊢
        exact congrArg _ ih
theorem nD_len (m : List (Nat × Nat)) : (nD m).length = m.length := List.length_map ..
section
variable {X : Cx}
def tGetN (td te tf : TE) : TE := fun σ H Q => td σ H fun x H1 => ∃ a m,
  x = .ref a ∧ H1 a = some (.dK (nD m)) ∧ te σ H1 fun y H2 => tf σ H2 fun z H3 =>
  ∃ k z' : Nat, y = .int (k : Nat) ∧ z = .int (z' : Nat) ∧ H3 a = some (.dK (nD m)) ∧
    Q (.int (dget m k z' : Nat)) H3
theorem pe_getN {o e f : Expr} {td te tf : TE} {apos cpos : Pos} (hu : X.A.units + 1 < cLine) (ho : PE X o td) (he : PE X e te) (hf : PE X f tf) (m : M2 X o "get" apos e f cpos) : PE X (.Call (.Attribute o "get" apos) [e, f] [] cpos) (tGetN td te tf) := by
  refine PE.mono (pe_dget2 hu (behind ho) (behind he) (behind hf) m) fun σ H Q h => ?_
  refine ⟨_, h, fun x H1 ⟨a, m, e1, h1, h2⟩ => ⟨a, e1, .inl ⟨_, .inl h1⟩, _, h2, fun y H2 h3 => ⟨_, h3, fun z H3 ⟨k, z', e2, e3, h4, q⟩ => ?_⟩⟩⟩
  subst e2 e3
  exact ⟨_, .inl ⟨nD m, Sum.inl (k : Int), .inl h4, rfl, rfl⟩, by rw [nD_get]; exact q⟩
def sPutN (td te tv : TE) : TS := fun D σ H => tv σ H fun v H1 => td σ H1 fun x H2 =>
  te σ H2 fun y H3 => ∃ (a : Addr) (k v' : Nat) (m : List (Nat × Nat)), x = .ref a ∧ y = .int (k : Nat) ∧
    v = .int (v' : Nat) ∧ H3 a = some (.dK (nD m)) ∧ ((m.map (·.1)).Nodup ∧ m.length < 16777216) ∧
    ∀ H4, H4 = upd H3 a (.dK (nD (dput m k v'))) → D.nx σ H4
theorem PS.mono {st : Stmt} {t t' : TS} (h : PS X st t)
    (m : ∀ D σ H, t' D σ H → t D σ H) : PS X st t' :=
  ⟨fun pins s σ H D I q => h.run pins s σ H D I (m _ _ _ q)⟩
theorem ps_putN {o i value : Expr} {td te tv : TE} {pos pos' : Pos} (hu : X.A.units + 1 < cLine) (ho : PE X o td) (hi : PE X i te) (hv : PE X value tv) (hs : swapsWith value (some (.Subscript o i pos')) pos.line X.env = pure false) :
    PS X (.Assign [.Subscript o i pos'] value pos) (sPutN td te tv) := by
  refine PS.mono (ps_dput hu (behind ho) (behind hi) (behind hv) hs) fun D σ H h => ?_
  refine ⟨_, h, fun v H1 h1 => ⟨_, h1, fun x H2 h2 => ⟨_, h2, fun y H3 ⟨a, k, v', m, e1, e2, e3, h3, ⟨h4, h5⟩, q⟩ => ?_⟩⟩⟩
  subst e1 e2 e3
  refine ⟨a, _, rfl, .inl ⟨nD m, Sum.inl (k : Int), h3, rfl, by rw [nD_len, sizeLine_eq]; exact h5, rfl⟩, ?_⟩
  rw [nD_put h4]
  exact q _ rfl
end
/-! ### the last item -/
theorem at_lastI {xs : List V} {x : V} : atI (xs ++ [x]) (-1) = some x := by
  unfold atI ixN
  have h1 : ¬ (0 : Int) ≤ -1 := by decide
  have h2 : -(((xs ++ [x]).length : Nat) : Int) ≤ -1 := by rw [List.length_append, List.length_singleton]; omega
  rw [if_neg h1, if_pos h2, List.length_append, List.length_singleton]
  have : ((-1 : Int) + ((xs.length + 1 : Nat) : Int)).toNat = xs.length := by omega
  rw [this]
  simp
theorem cut_init (xs : List V) (x : V) : cutV (xs ++ [x]) none (some (-1)) = xs := by
  unfold cutV
  rw [show HT.sIx (xs ++ [x]).length 0 none = 0 from rfl]
  have e : HT.sIx (xs ++ [x]).length (xs ++ [x]).length (some (-1)) = xs.length := by
    show (if (-1 : Int) < 0 then ((-1 : Int) + (((xs ++ [x]).length : Nat) : Int)).toNat else min (-1 : Int).toNat (xs ++ [x]).length) = _
    rw [if_pos (by decide), List.length_append, List.length_singleton]
    omega
  rw [e, List.drop_zero, Nat.sub_zero]
  simp
theorem get_rev {α : Type} {l : List α} {i : Nat} (h : i < l.length) :
    l.reverse[i]? = l[l.length - 1 - i]? := by
  rw [List.getElem?_reverse h]

/-! ### set of a list of numbers, one that can be sorted -/
abbrev soNew (u : World) : Obj :=
  { cls := .type "set", dict := none,
    data := .set #[] 0 (.fresh 0 0 (!u.params.followText "set-order")) }
section
variable {P : Program} {u : World} {B : Around} {E : Value → Shared → Prop}
variable {z : Shared}
set_option maxRecDepth 100000 in
set_option maxHeartbeats 3200000 in
theorem set_of_list {l : Addr} {its : Array Value} (ks : List Int)
    {Q : Value → Shared → Prop} (calm : B.handled = none)
    (isl : z.heap.IsList l its) (hin : IntsAre its.toList ks)
    (room : ks.length + 1 < scanBound)
    (fin : ∀ (g : Heap) (tk c : Nat),
      SetR u g z.heap.objs.size (fun j => decide (j ∈ ks)) c →
      c ≤ ks.length →
      (∀ b o, z.heap.get? b = some o → g.get? b = some o) →
      Q (.ref z.heap.objs.size) { z with heap := g, toks := tk }) :
    wpAny (model P u) B (call (.type "set") [.ref l]) Q E z := by
  have sz : its.size = ks.length := by
    have e := IntsAre.length hin
    rwa [Array.length_toList] at e
  obtain ⟨c0, tl0, mro⟩ := F.called_set.mro
  have made := F.called_set.made
  have subs := F.called_set.sub
  refine wpAny_call (codeAny_of_tree ?_)
  show wpAny _ _ (callAny (.type "set") _)
    _ _ _
  refine wpAny_pure ⟨Code.quiet_builtin _
    (by decide +kernel), codeAny_builtin F.entry_type_call ?_⟩
  rw [Around.under_plain
    (weight_type_call_type "set" [.ref l] []) rfl]
  have a1 := F.called_set.notType
  have a2 := F.called_set.canCreate
  have a3 := F.typeCall_set_1 (.ref l)
  repeat (any_goals (first
    | assumption
    | wp_step))
  refine codeAny_mono (code_set_led1 (.ref l) (E := E)
    (Q₁ := fun ob z1 => ob = .ref z.heap.objs.size ∧
      z1 = { z with heap := z.heap.push (soNew u) })
    ⟨rfl, rfl⟩) fun r z1 hr => ?_
  cases r with
  | error e => exact hr
  | ok fl =>
    cases fl with
    | ret ob =>
      obtain ⟨rfl, rfl⟩ := hr
      have at0 : (z.heap.push (soNew u)).get? z.heap.objs.size =
        some (soNew u) := Heap.get?_push_size _ rfl
      have ty0 : Shared.TypeIs { z with heap := z.heap.push (soNew u) }
        (.ref z.heap.objs.size) "set" := ⟨_, at0, rfl⟩
      have i1 := F.called_set.init.lookup
      have i2 := F.called_set.init.bind
        (.ref z.heap.objs.size)
      repeat (any_goals (first
        | assumption
        | wp_step))
      refine codeAny_mono (codeAny_call_builtin
        (R := wants (fun r z2 => r = .none ∧ ∃ g tk c,
          z2 = { z with heap := g, toks := tk } ∧
          SetR u g z.heap.objs.size (fun j => decide (j ∈ ks)) c ∧
          c ≤ ks.length ∧
          ∀ b o, z.heap.get? b = some o → g.get? b = some o) E)
        F.called_set.init.plain F.entry_set_init
        (check_set_init_1 ty0 ?_)) fun r2 z2 hr2 => ?_
      · obtain ⟨ol, g0, g1, nl, g2⟩ := isl
        obtain ⟨oc, od, oda, osl⟩ := ol
        simp only at g1 g2
        subst g1
        subst g2
        have at1 : (z.heap.push (soNew u)).get? l = some
          { cls := .type "list", dict := od, data := .seq its nl,
            slots := osl } := Heap.get?_push_of_some _ g0
        have s1 := F.sub_list_set
        have s2 := F.sub_list_frozenset
        have s3 : (Value.type "list" == Value.type "dict") =
          false := by decide
        have li : (z.heap.push (soNew u)).IsList l its :=
          ⟨_, at1, rfl, nl, rfl⟩
        unfold Builtin.«set.__init__» noKeywords
          Builtin.Frozenset.updateFrom
        generalize gp : pyIter = PI
        wp_walk
        subst gp
        refine wpAny_pyIter_list li ?_
        refine wpAny_bind (wpAny_runValue ?_)
        have ll : l < z.heap.objs.size := Heap.lt_size g0
        have calm3 : B.in1.in1.in1.handled = none := by simp [calm]
        have size1 : (z.heap.push (soNew u)).objs.size =
          z.heap.objs.size + 1 := Heap.size_push ..
        have ne1 : l ≠ (z.heap.push (soNew u)).objs.size := by
          rw [size1]
          exact Nat.ne_of_lt (Nat.lt_succ_of_lt ll)
        have ne2 : z.heap.objs.size ∉
            [(z.heap.push (soNew u)).objs.size, l] := by
          intro y
          rw [size1] at y
          simp only [List.mem_cons, List.not_mem_nil, or_false] at y
          rcases y with y | y
          · exact Nat.ne_of_lt (Nat.lt_succ_self _) y
          · exact Nat.ne_of_lt ll y.symm
        have val : ∀ (i : Nat) (v : Value), its[i]? = some v →
            ∃ k t, ks[i]? = some k ∧ v = .int k t := by
          intro i v hv
          have hi : i < ks.length := by
            have := (Array.getElem?_eq_some_iff.mp hv).1
            omega
          obtain ⟨t, e⟩ := PyProof.Rows.IntsAre.int_at hin i v
            (by rw [Array.getElem?_toList]; exact hv)
          refine ⟨ks[i], t, List.getElem?_eq_getElem hi, ?_⟩
          rw [e, List.getD_eq_getElem?_getD,
            List.getElem?_eq_getElem hi]
          rfl
        refine set_update_ints
          ((Walks.list calm3 _ l ne1 its).toS) z.heap.objs.size
          ne2 ks sz room val (its.size - 0) 0 _ (by omega)
          (Nat.zero_le _)
          ⟨⟨_, Heap.get?_push_size _ rfl, rfl, rfl⟩,
            (li.push _)⟩ ?first ?last
        case first =>
          exact ⟨0, Nat.le_refl 0, setR_new_at
            (Heap.get?_push_of_some _ at0)⟩
        case last =>
          intro z3 c3 mv c3le R3
          obtain ⟨h3, gn, dr, tk3, os3⟩ := z3
          have e1 : gn = z.gens := mv.gens
          have e2 : dr = z.drawn := mv.drawn
          have e3 : os3 = z.os := mv.os
          subst e1
          subst e2
          subst e3
          show wpAny _ _ _ _
            _ _
          refine wpAny_pure ?_
          show wpAny _ _
            (ret Value.none) _ _ _
          refine wpAny_pure ⟨rfl, h3, tk3, c3, rfl, R3,
            by omega, fun b o e => ?_⟩
          have b0 : b < z.heap.objs.size := Heap.lt_size e
          refine mv.heap b o (fun y => ?_)
            (Heap.get?_push_of_some _
              (Heap.get?_push_of_some _ e))
          rw [size1] at y
          simp only [List.mem_cons, List.not_mem_nil, or_false] at y
          rcases y with y | y
          · exact Nat.ne_of_lt b0 y
          · exact Nat.ne_of_lt (Nat.lt_succ_of_lt b0) y
      · cases r2 with
        | error e => exact hr2
        | ok f2 =>
          cases f2 with
          | ret r =>
            obtain ⟨rfl, g, tk, c, rfl, R, cl, kp⟩ := hr2
            repeat (any_goals (first
              | assumption
              | wp_step))
            exact fin _ _ _ R cl kp
          | _ => exact hr2.elim
    | _ => exact hr.elim
end
/-- sorted(set(xs)), fewer than 64 of them -/
def rSetO (K : PySem.W.Frag) (u : World) : List V → Hp → VK → Prop := fun vs H Q =>
  ∃ (a : Addr) (l : List Nat), vs = [.ref a] ∧ SqL K H a (nV l) ∧ l.length < 60 ∧
    ∀ p n H', n ≤ l.length → New H p (SetO u p (fun j => decide (j ∈ ci l)) n) H' →
      Q (.ref p) H'
def rSortO (u : World) : List V → Hp → VK → Prop := fun vs H Q =>
  ∃ (a : Addr) (l : List Nat) (n : Nat), vs = [.ref a] ∧
    H a = some (SetO u a (fun j => decide (j ∈ ci l)) n) ∧ n < 64 ∧
    ∀ (m : List Nat) p H', m.Pairwise (· < ·) → (∀ k, k ∈ m ↔ k ∈ l) →
      New H p (.lst (nV m)) H' → Q (.ref p) H'
section
variable {X : Cx} {K : PySem.W.Frag}
theorem cr_setO (hc : X.calm = true) (h : X.K = K := by rfl) :
    CallR X (.type "set") (rSetO K X.w) := by
  subst h
  intro pins s σ H xs us Q I r hq
  obtain ⟨a, l, rfl, hl, hn, q⟩ := hq
  rw [nV_int] at hl
  obtain ⟨u, rfl, rx⟩ := vals1 r
  cases rx
  obtain ⟨its, rv, pl, hz⟩ := I.list hl
  have hlen := rv.length
  rw [List.length_map] at hlen
  have hci : (ci l).length = l.length := List.length_map ..
  have hia : IntsAre its.toArray.toList (ci l) := by
    simpa using intsAre_of rv
  refine set_of_list (ci l) (I.ok.hd hc) pl.isList hia
    (by unfold scanBound; omega) ?_
  intro g tk c R cl kp
  have hn' : H s.heap.objs.size = none := I.hok.fresh (Nat.le_refl _)
  exact ⟨.ref s.heap.objs.size, upd H s.heap.objs.size (SetO X.w _ _ c),
    I.laid (t' := tk) (fun b o e => kp b o e)
      (Nat.le_refl _) (setO_new R),
    rfl, q _ c _ (by omega) ⟨hn', rfl⟩⟩
theorem cr_sortO (hc : X.calm = true) :
    CallR X (.builtin "sorted") (rSortO X.w) :=
  CallR.mono (cr_sortedSet hc) fun xs H Q ⟨a, l, n, e, h1, h2, q⟩ =>
    ⟨a, _, n, e, h1, h2, fun ns p pw hm _ np => by
      have pos : ∀ k ∈ ns, 0 ≤ k := fun k hk => by
        have := of_decide_eq_true ((hm k).mp hk)
        obtain ⟨j, _, rfl⟩ := List.mem_map.mp this
        omega
      have ens : ns = ci (ns.map Int.toNat) := by
        unfold ci
        rw [List.map_map]
        have : ∀ y ∈ ns, ((fun i : Nat => (i : Int)) ∘ Int.toNat) y = y := fun y hy => by
          have := pos y hy
          show ((y.toNat : Nat) : Int) = y
          omega
        rw [List.map_congr_left this, List.map_id']
      generalize ns.map Int.toNat = m at ens
      subst ens
      have e2 : (ci m).map V.int = nV m := (nV_int m).symm
      rw [e2]
      refine q m p _ ?_ (fun k => ?_) ⟨np, rfl⟩
      · unfold ci at pw
        rw [List.pairwise_map] at pw
        exact pw.imp fun {a b} h => by omega
      · rw [← mem_ci, ← mem_ci (l := l), hm, decide_eq_true_iff]⟩
end

/-! ### one shape of walk: the items are values, the heap stays -/
abbrev WV (J : It) (xs : List V) (G : Hp → Prop) : Prop := Walk J xs.length G (YAt xs)
section
variable {K : PySem.W.Frag} {a d : Addr} {xs : List V} {o : Obj} {kvs : List (Key × V)}
theorem wv_list : WV (Itl K a) xs (fun H => SqL K H a xs) := walk_list
theorem wv_tup : WV (Itt K a) xs (fun H => SqT K H a xs) := walk_tup
theorem wv_rg {n : Nat} : WV (Itr 0 n) (nV (List.range n)) (fun _ => True) := by
  have w : Walk (Itr 0 n) n (fun _ => True) (YAt (nV (List.range n))) :=
    (walk_range (lo := 0) (n := n)).mono (fun _ h => h) fun i H x H' hi _ ⟨e1, e2⟩ => by
      refine ⟨e1, ?_⟩
      rw [e2]; dsimp only; rw [Int.zero_add]
      exact nV_at3 (by rw [List.getElem?_range hi])
  have e : (nV (List.range n)).length = n := by rw [nV_len, List.length_range]
  unfold WV; rw [e]; exact w
theorem wv_rg2 {lo n : Nat} : WV (Itr (lo : Nat) n) (nV (List.range' lo n)) (fun _ => True) := by
  have w : Walk (Itr (lo : Nat) n) n (fun _ => True) (YAt (nV (List.range' lo n))) :=
    (walk_range (lo := (lo : Nat)) (n := n)).mono (fun _ h => h) fun i H x H' hi _ ⟨e1, e2⟩ => by
      refine ⟨e1, ?_⟩
      rw [e2]; dsimp only
      refine (nV_at3 (x := lo + i) (by rw [List.getElem?_range' hi, Nat.one_mul])).trans ?_
      rw [Int.natCast_add]
  have e : (nV (List.range' lo n)).length = n := by rw [nV_len, List.length_range']
  unfold WV; rw [e]; exact w
theorem wv_rev : WV (Itv K a xs.length) xs.reverse (fun H => SqL K H a xs) := by
  have w : Walk (Itv K a xs.length) xs.length (fun H => SqL K H a xs) (YAt xs.reverse) :=
    walk_rev.mono (fun _ h => h) fun i H x H' hi _ ⟨e1, e2⟩ => ⟨e1, by rw [List.getElem?_reverse hi]; exact e2⟩
  unfold WV; rw [List.length_reverse]; exact w
theorem wv_vals : WV (Itd d o kvs) (kvs.map (·.2)) (fun H => H d = some (.frz o (.dK kvs))) := by
  have w : Walk (Itd d o kvs) kvs.length (fun H => H d = some (.frz o (.dK kvs))) (YAt (kvs.map (·.2))) :=
    walk_values.mono (fun _ h => h) fun i H x H' hi _ ⟨e1, k, e2⟩ => ⟨e1, by rw [List.getElem?_map, e2]; rfl⟩
  unfold WV; rw [List.length_map]; exact w
theorem wv_keys : WV (Itk d o kvs) (kvs.map fun kv => kV kv.1) (fun H => H d = some (.frz o (.dK kvs))) := by
  have w : Walk (Itk d o kvs) kvs.length (fun H => H d = some (.frz o (.dK kvs))) (YAt (kvs.map fun kv => kV kv.1)) :=
    walk_keys.mono (fun _ h => h) fun i H x H' hi _ ⟨e1, k, v, e2, e3⟩ => ⟨e1, by rw [List.getElem?_map, e2, e3]; rfl⟩
  unfold WV; rw [List.length_map]; exact w
end
section
variable {J : It} {G : Hp → Prop} {α : Type} {e : α → V} {l : List α}
theorem forA (w : WV J (l.map e) G) {g : TG} {tb : TS} {D : Ends} {σ : L2.St} {H : Hp}
    (Jv : Nat → L2.St → List Res → Prop) (h0 : RaP Jv 0 σ H)
    (hG : ∀ i σ rs H, Jv i σ rs → Sep H rs → G H)
    (hs : ∀ i x σ rs H, l[i]? = some x → Jv i σ rs → Sep H rs → g (e x) σ H
      fun σ2 H2 => tb { D with nx := RaP Jv (i + 1), ct := RaP Jv (i + 1), bk := D.nx } σ2 H2)
    (hd : ∀ σ rs H, Jv l.length σ rs → Sep H rs → D.nx σ H) :
    ∃ W : Nat → Nat → L2.St → Hp → Prop, (∃ m, W 0 m σ H) ∧ ∀ i m σ H, W i m σ H →
      (J.stop i H ∧ D.nx σ H) ∨ (J.go i H ∧ ∃ N : L2.St → Hp → Prop, (∀ σ' H', N σ' H' → ∃ m', m' < m ∧ W (i + 1) m' σ' H') ∧ ∀ x H', J.yld i H x H' → g x σ H' fun σ2 H2 => tb { D with nx := N, ct := N, bk := D.nx } σ2 H2) :=
  for_it w (RaP Jv) h0 (fun i σ H _ ⟨⟨rs, h, hc⟩⟩ => hG i σ rs H h hc)
    (fun i x σ H H' _ ⟨⟨rs, h, hc⟩⟩ ⟨e1, e2⟩ => by
      subst e1
      obtain ⟨y, e3, rfl⟩ := map_get e2
      exact hs i y σ rs H' e3 h hc)
    fun σ H ⟨⟨rs, h, hc⟩⟩ => hd σ rs H (by rw [List.length_map] at h; exact h) hc
/-- a comprehension's list so far, each item kept as f tells -/
def IFm (f : α → Option V) (l : List α) (rs0 : List Res) : Nat → List V → List Res → Prop :=
  fun i acc rs => acc = (l.take i).filterMap f ∧ rs = rs0
theorem lcA (w : WV J (l.map e) G) {g : TG} {tt : TT} {te : TE} {vs : List Nat}
    {σ : L2.St} {H1 : Hp} {D : Addr} {Qd : Hp → Prop} {rs0 : List Res}
    (nD : H1 D = none) (h0 : Sep H1 rs0) (hG : ∀ H o, Sep H (o :: rs0) → G H)
    (f : α → Option V)
    (hs : ∀ i x H, l[i]? = some x → Sep H (.obj D (.lst ((l.take i).filterMap f)) :: rs0) →
      g (e x) (wipe σ vs) H fun σ2 H2 => wipe σ2 vs = wipe σ vs ∧
        tt σ2 H2 fun b H3 => if b = true then te σ2 H3 fun y H4 =>
          ∃ acc, H4 D = some (.lst acc) ∧ acc.length < sizeLine ∧
            LcP D (IFm f l rs0) (i + 1) (upd H4 D (.lst (acc ++ [y])))
        else LcP D (IFm f l rs0) (i + 1) H3)
    (hd : ∀ H, Sep H (.obj D (.lst (l.filterMap f)) :: rs0) → Qd H) :
    ∃ W : Nat → Nat → Hp → Prop, (∃ m, W 0 m (upd H1 D (.lst []))) ∧ ∀ i m H, W i m H →
      (J.stop i H ∧ Qd H) ∨ (J.go i H ∧ ∃ Nx : Hp → Prop, (∀ H', Nx H' → ∃ m', m' < m ∧ W (i + 1) m' H') ∧ ∀ x H', J.yld i H x H' → g x (wipe σ vs) H' fun σ2 H2 => wipe σ2 vs = wipe σ vs ∧ tt σ2 H2 fun b H3 =>
        if b = true then te σ2 H3 fun y H4 => ∃ acc, H4 D = some (.lst acc) ∧ acc.length < sizeLine ∧ Nx (upd H4 D (.lst (acc ++ [y]))) else Nx H3) :=
  lc_it w (LcP D (IFm f l rs0)) (⟨[], rs0, ⟨rfl, rfl⟩, h0.new' nD⟩)
    (fun i H _ ⟨⟨acc, rs, ⟨_, e2⟩, hc⟩⟩ => hG H _ (e2 ▸ hc))
    (fun i x H H' _ ⟨⟨acc, rs, ⟨ea, e2⟩, hc⟩⟩ ⟨e1, ex⟩ => by
      subst e1 e2 ea
      obtain ⟨y, e3, rfl⟩ := map_get ex
      exact hs i y H' e3 hc)
    fun H ⟨⟨acc, rs, ⟨ea, e2⟩, hc⟩⟩ => by
      subst e2 ea
      rw [List.length_map, List.take_length] at hc
      exact hd H hc
theorem fm_len {f : α → Option V} {i : Nat} {x : α} (ex : l[i]? = some x) (hl : l.length ≤ 16777216) :
    ((l.take i).filterMap f).length < sizeLine := by
  have h1 := List.length_filterMap_le f (l.take i)
  have h2 := (List.getElem?_eq_some_iff.mp ex).1
  rw [List.length_take] at h1
  rw [sizeLine_eq]; omega
theorem lcYes {f : α → Option V} {rs0 : List Res} {D : Addr} {i : Nat} {x : α} {H : Hp} {y : V}
    (hc : Sep H (.obj D (.lst ((l.take i).filterMap f)) :: rs0)) (ex : l[i]? = some x)
    (hl : l.length ≤ 16777216) (hf : f x = some y) :
    ∃ acc, H D = some (.lst acc) ∧ acc.length < sizeLine ∧
      LcP D (IFm f l rs0) (i + 1) (upd H D (.lst (acc ++ [y]))) :=
  ⟨_, hc.at .here, fm_len ex hl, ⟨_, rs0, ⟨by
    rw [List.take_add_one, ex, Option.toList_some, List.filterMap_append]
    simp [hf], rfl⟩, hc.set⟩⟩
theorem lcNo {f : α → Option V} {rs0 : List Res} {D : Addr} {i : Nat} {x : α} {H : Hp}
    (hc : Sep H (.obj D (.lst ((l.take i).filterMap f)) :: rs0)) (ex : l[i]? = some x)
    (hf : f x = none) : LcP D (IFm f l rs0) (i + 1) H :=
  ⟨_, rs0, ⟨by
    rw [List.take_add_one, ex, Option.toList_some, List.filterMap_append]
    simp [hf], rfl⟩, hc⟩
theorem fmN {h : α → Nat} : (l.filterMap fun s => some (V.int (h s : Nat))) = nV (l.map h) := by
  show l.filterMap (some ∘ fun s => V.int (h s : Nat)) = _
  rw [List.filterMap_eq_map, nV, List.map_map]; rfl
theorem fmV {h : α → V} : (l.filterMap fun s => some (h s)) = l.map h := by
  show l.filterMap (some ∘ h) = _
  rw [List.filterMap_eq_map]
theorem fmB {h : α → Bool} : (l.filterMap fun s => some (V.bl (h s))) = (l.map h).map V.bl := by
  show l.filterMap (some ∘ fun s => V.bl (h s)) = _
  rw [List.filterMap_eq_map, List.map_map]; rfl
end
theorem fmF {l : List Nat} {p : Nat → Bool} :
    (l.filterMap fun s => if p s = true then some (V.int (s : Nat)) else none) = nV (l.filter p) := by
  induction l with
  | nil => rfl
  | cons x l ih =>
    rw [List.filterMap_cons]
    by_cases h : p x = true
    · rw [if_pos h, List.filter_cons_of_pos h, ih]; rfl
    · rw [if_neg h, List.filter_cons_of_neg h, ih]
theorem fmFN {l : List Nat} {p : Nat → Bool} {h : Nat → Nat} :
    (l.filterMap fun s => if p s = true then some (V.int (h s : Nat)) else none) = nV ((l.filter p).map h) := by
  induction l with
  | nil => rfl
  | cons x l ih =>
    rw [List.filterMap_cons]
    by_cases hp : p x = true
    · rw [if_pos hp, List.filter_cons_of_pos hp, ih]; rfl
    · rw [if_neg hp, List.filter_cons_of_neg hp, ih]
theorem rg_get {n i s : Nat} (h : (List.range n)[i]? = some s) : i < n ∧ s = i := by
  have h1 := (List.getElem?_eq_some_iff.mp h).1
  rw [List.length_range] at h1
  rw [List.getElem?_range h1] at h
  exact ⟨h1, (Option.some.inj h).symm⟩
theorem rg_get2 {lo n i s : Nat} (h : (List.range' lo n)[i]? = some s) : i < n ∧ s = lo + i := by
  have h1 := (List.getElem?_eq_some_iff.mp h).1
  rw [List.length_range'] at h1
  rw [List.getElem?_range' h1] at h
  refine ⟨h1, ?_⟩
  have := Option.some.inj h
  omega
/-- numbers -/
abbrev eN : Nat → V := fun i => V.int (i : Nat)
/-! ### a dict that is only gone through, from here on -/
section
variable {X : Cx}
def tFrz (td : TE) : TE := fun σ H Q => td σ H fun x H1 => ∃ d u, x = .ref d ∧ H1 d = some u ∧
  Mut (some u) ∧ ∀ od H2, H2 = upd H1 d (.frz od u) → Q x H2
theorem pe_frz {e : Expr} {td : TE} (he : PE X e td) : PE X e (tFrz td) :=
  ⟨fun pins s σ H Q I h => thn (he.run pins s σ H _ I h)
    fun v s1 ⟨x, H1, I1, r, d, u, ex, hd, mu, q⟩ => by
      obtain ⟨od, I2⟩ := I1.lock hd mu
      exact ⟨x, _, I2, r, q od _ rfl⟩⟩
end
/-! ### {k: v for x in a tuple} -/
structure DcP (D : Addr) (I : Nat → List (Nat × Nat) → List Res → Prop) (i : Nat) (H : Hp) : Prop where
  ex : ∃ m rs, I i m rs ∧ Sep H (.obj D (.dK (nD m)) :: rs)
theorem dcT {K : PySem.W.Frag} {a : Addr} {xs : List V} {g : TG} {tt : TT} {tk tv : TE} {vs : List Nat}
    {σ : L2.St} {H1 : Hp} {D : Addr} {Qd : Hp → Prop} {rs0 : List Res}
    (nD' : H1 D = none) (h0 : Sep H1 rs0)
    (I : Nat → List (Nat × Nat) → List Res → Prop)
    (hl : ∀ i acc rs, I i acc rs → ∃ t, Pick (.obj a (.tup xs)) rs t)
    (hI : I 0 [] rs0)
    (hs : ∀ i x m rs H, xs[i]? = some x → I i m rs → Sep H (.obj D (.dK (nD m)) :: rs) →
      g x (wipe σ vs) H fun σ2 H2 => wipe σ2 vs = wipe σ vs ∧ tt σ2 H2 fun b H3 =>
        if b = true then tk σ2 H3 fun y H4 => tv σ2 H4 fun z H5 => ∃ kvs k, y = kV k ∧
          H5 D = some (.dK kvs) ∧ kvs.length < sizeLine ∧ DcP D I (i + 1) (upd H5 D (.dK (putK kvs k z)))
        else DcP D I (i + 1) H3)
    (hd : ∀ m rs H, I xs.length m rs → Sep H (.obj D (.dK (nD m)) :: rs) → Qd H) :
    ∃ W : Nat → Nat → Hp → Prop, (∃ m, W 0 m (upd H1 D (.dK []))) ∧ ∀ i m H, W i m H →
      ((Itt K a).stop i H ∧ Qd H) ∨ ((Itt K a).go i H ∧ ∃ Nx : Hp → Prop, (∀ H', Nx H' → ∃ m', m' < m ∧ W (i + 1) m' H') ∧ ∀ x H', (Itt K a).yld i H x H' → g x (wipe σ vs) H' fun σ2 H2 => wipe σ2 vs = wipe σ vs ∧ tt σ2 H2 fun b H3 =>
        if b = true then tk σ2 H3 fun y H4 => tv σ2 H4 fun z H5 => ∃ kvs k, y = kV k ∧ H5 D = some (.dK kvs) ∧ kvs.length < sizeLine ∧ Nx (upd H5 D (.dK (putK kvs k z))) else Nx H3) :=
  dc_tup (DcP D I) ⟨⟨[], rs0, hI, h0.new' nD'⟩⟩
    (fun i H _ ⟨⟨m, rs, h, hc⟩⟩ => by
      obtain ⟨t, p⟩ := hl i m rs h
      exact hc.st (.there p))
    (fun i x H hx ⟨⟨m, rs, h, hc⟩⟩ => hs i x m rs H hx h hc)
    fun H ⟨⟨m, rs, h, hc⟩⟩ => hd m rs H h hc
theorem DcP.put {D : Addr} {I : Nat → List (Nat × Nat) → List Res → Prop} {i : Nat} {H : Hp}
    {m : List (Nat × Nat)} {rs : List Res} {k v : Nat} (hc : Sep H (.obj D (.dK (nD m)) :: rs))
    (hm : (m.map (·.1)).Nodup) (hl : m.length < 16777216) (h : I i (dput m k v) rs) :
    ∃ kvs key, V.int (k : Nat) = kV key ∧ H D = some (.dK kvs) ∧ kvs.length < sizeLine ∧
      DcP D I i (upd H D (.dK (putK kvs key (.int (v : Nat))))) :=
  ⟨_, Sum.inl (k : Int), rfl, hc.at .here, by rw [nD_len, sizeLine_eq]; exact hl, ⟨⟨_, rs, h, by
    rw [nD_put hm]; exact hc.set⟩⟩⟩
theorem NB.byte {n : Nat} (h : n < 256) : NB 8 n := h
theorem NB.w {j n : Nat} (h : NB j n) : n < 2 ^ j := h
/-! ### d[k] of numbers, also while it is gone through -/
section
variable {X : Cx}
def tIxD (td ty : TE) : TE := fun σ H Q => td σ H fun x H1 => ty σ H1 fun y H2 =>
  ∃ (a : Addr) (m : List (Nat × Nat)) (k v : Nat), x = .ref a ∧ y = .int (k : Nat) ∧
    Rd H2 a (.dK (nD m)) ∧ dlk m k = some v ∧ Q (.int (v : Nat)) H2
theorem pe_ixD {o i : Expr} {td te : TE} {pos : Pos} (hu : X.A.units + 1 < cLine) (ho : PE X o td)
    (hi : PE X i te) (hs : NoSl i) : PE X (.Subscript o i pos) (tIxD td te) := by
  refine PE.mono (pe_dget hu (behind ho) (behind hi) hs) fun σ H Q h => ?_
  refine ⟨_, h, fun x H1 h1 => ⟨_, h1, fun y H2 ⟨a, m, k, v, e1, e2, h3, h4, q⟩ => ?_⟩⟩
  subst e1 e2
  exact ⟨a, .int (v : Nat), rfl, .inl ⟨nD m, Sum.inl (k : Int), h3, rfl, by rw [nD_val, h4]; rfl⟩, q⟩
end
theorem wv_keysN {d : Addr} {o : Obj} {m : List (Nat × Nat)} : WV (Itk d o (nD m)) ((m.map (·.1)).map eN)
    (fun H => H d = some (.frz o (.dK (nD m)))) := by
  have e : (nD m).map (fun kv => kV kv.1) = (m.map (·.1)).map eN := by
    unfold nD
    rw [List.map_map, List.map_map]; rfl
  exact e ▸ (wv_keys (kvs := nD m) (d := d) (o := o))
theorem dlk_get {m : List (Nat × Nat)} {k : Nat} (h : k ∈ m.map (·.1)) : dlk m k = some (dget m k 0) := by
  induction m with
  | nil => cases h
  | cons p r ih =>
    unfold dget dlk
    by_cases e : p.1 = k
    · rw [if_pos e]; rfl
    · rw [if_neg e]
      rw [List.map_cons, List.mem_cons] at h
      have := ih (h.resolve_left fun z => e z.symm)
      rw [this]; rfl
theorem NB.w32 {n : Nat} (h : n < 4294967296) : NB 32 n := h
/-! ### callable defs that may ask for reprs -/
structure DdG (P : Program) (w : World) (K : PySem.W.Frag)
    (mg : Str → Option Value) (base : Heap) (x : Str) (k : Nat)
    (ps : List Str) (sp : Sp) : Prop where
  ok : ∃ f fd, mg x = some (.ref f) ∧
    PySem.W.keepIn K (.ref f) = true ∧ Binds K fd ps [] ∧
    FnG P w K mg base CX0 k f fd ps sp
section
variable {X : Cx} {x : Str} {k : Nat} {ps : List Str} {sp : Sp}
variable {p pos : Pos} {e : Expr} {es : List Expr} {t : TA}
theorem pe_dg (D : DdG X.prog X.w X.K X.mg X.base x k ps sp) (gd : X.A.guards = some [])
    (hr : Room k X.A) (hg : Gl X x) (ha : PA X (e :: es) t)
    (hdb : (x == ("__debug__" : Str)) = false := by decide)
    (he : starEach (e :: es) X.env =
      (false, eval e X.env) :: starEach es X.env := by rfl)
    (hpl : (backTo pos (starEach es X.env)).any (·.1) = false := by
      rfl) :
    PE X (.Call (.Name x p) (e :: es) [] pos)
      (tCall sp [] E0 t) := by
  obtain ⟨f, fd, m, kp, b, G⟩ := D.ok
  refine ⟨fun pins s σ H Q I h => ?_⟩
  refine wpAny_Call_Name_kw (ld_glob I hg m ?_ hdb)
  refine PySem.W.callWith_K (h₀ := X.base) I.ok.mod.kin kp (thn (ha.run pos pins s σ H _ I h) fun us s1 ⟨vs, H1, I1, r, q⟩ => ⟨I1.kIn, ?_⟩) he hpl
  have q' : sp (vs ++ []) H1 Q E0 := q
  rw [List.append_nil] at q'
  exact run_fnG G gd hr b pass0 I1 r q'
end
/-! ### things of any kind -/
def thTy (rs : List Res) (v : V) (n : String) : Prop :=
  match v with
  | .non => n = "NoneType"
  | .bl _ => n = "bool"
  | .int _ => n = "int"
  | .str _ => n = "str"
  | .ref a => (n = "list" ∧ ∃ xs t, Pick (.obj a (.lst xs)) rs t) ∨ (n = "tuple" ∧ ∃ xs t, Pick (.obj a (.tup xs)) rs t) ∨
      (n = "dict" ∧ ∃ kvs t, Pick (.obj a (.dK kvs)) rs t)
  | _ => False
structure ThR (rs : List Res) (v : V) : Prop where
  ex : ∃ n, thTy rs v n
theorem thTy.of {K : PySem.W.Frag} {H : Hp} {rs : List Res} {v : V} {n : String} (hc : Sep H rs) (h : thTy rs v n) :
    TyOf K H v (.type n) := by
  cases v with
  | non => cases (show n = _ from h); exact .non
  | bl b => cases (show n = _ from h); exact .bl b
  | int i => cases (show n = _ from h); exact .int i
  | str s => cases (show n = _ from h); exact .str s
  | ref a =>
    rcases (show _ ∨ _ ∨ _ from h) with ⟨e, xs, t, p⟩ | ⟨e, xs, t, p⟩ | ⟨e, xs, t, p⟩
    · subst e; exact .lst (hc.at p)
    · subst e; exact .tup (hc.at p)
    · subst e; exact .dK (hc.at p)
  | _ => exact (show False from h).elim
theorem ThR.int {rs : List Res} {i : Int} : ThR rs (.int i) := ⟨_, rfl⟩
theorem ThR.bl {rs : List Res} {b : Bool} : ThR rs (.bl b) := ⟨_, rfl⟩
theorem ThR.non {rs : List Res} : ThR rs .non := ⟨_, rfl⟩
theorem ThR.str {rs : List Res} {s : Str} : ThR rs (.str s) := ⟨_, rfl⟩
theorem ThR.lst {rs t : List Res} {a : Addr} {xs : List V} (p : Pick (.obj a (.lst xs)) rs t) : ThR rs (.ref a) := ⟨"list", .inl ⟨rfl, _, _, p⟩⟩
theorem ThR.tup {rs t : List Res} {a : Addr} {xs : List V} (p : Pick (.obj a (.tup xs)) rs t) : ThR rs (.ref a) := ⟨"tuple", .inr (.inl ⟨rfl, _, _, p⟩)⟩
theorem ThR.dK {rs t : List Res} {a : Addr} {kvs : List (Key × V)} (p : Pick (.obj a (.dK kvs)) rs t) : ThR rs (.ref a) := ⟨"dict", .inr (.inr ⟨rfl, _, _, p⟩)⟩
theorem thTy.more {rs : List Res} {v : V} {n : String} {r : Res} (h : thTy rs v n) : thTy (r :: rs) v n := by
  cases v with
  | ref a =>
    rcases (show _ ∨ _ ∨ _ from h) with ⟨e, xs, t, p⟩ | ⟨e, xs, t, p⟩ | ⟨e, xs, t, p⟩
    · exact .inl ⟨e, xs, _, .there p⟩
    · exact .inr (.inl ⟨e, xs, _, .there p⟩)
    · exact .inr (.inr ⟨e, xs, _, .there p⟩)
  | _ => exact h
theorem ThR.more {rs : List Res} {v : V} {r : Res} (h : ThR rs v) : ThR (r :: rs) v := ⟨h.ex.choose, h.ex.choose_spec.more⟩
def isNumV : V → Bool
  | .int i => decide (0 ≤ i)
  | _ => false
theorem isNumV_nat (n : Nat) : isNumV (.int (n : Nat)) = true := decide_eq_true (Int.natCast_nonneg n)
theorem isNumV_of {v : V} (h : isNumV v = true) : ∃ n : Nat, v = .int (n : Nat) := by
  cases v with
  | int i =>
    have := of_decide_eq_true (show decide (0 ≤ i) = true from h)
    exact ⟨i.toNat, by rw [Int.toNat_of_nonneg this]⟩
  | _ => cases (show false = true from h)
/-- no int, no truth -/
theorem thTy.noInt {rs : List Res} {v : V} {n : String} (h : thTy rs v n) (h1 : ∀ i, v ≠ .int i) (h2 : ∀ b, v ≠ .bl b) :
    kitB n "int" = some false ∧ kitB n "bool" = some false ∧ isNumV v = false := by
  cases v with
  | int i => exact absurd rfl (h1 i)
  | bl b => exact absurd rfl (h2 b)
  | non => cases (show n = _ from h); exact ⟨by decide +kernel, by decide +kernel, rfl⟩
  | str s => cases (show n = _ from h); exact ⟨by decide +kernel, by decide +kernel, rfl⟩
  | ref a =>
    rcases (show _ ∨ _ ∨ _ from h) with ⟨e, _⟩ | ⟨e, _⟩ | ⟨e, _⟩ <;> subst e <;>
      exact ⟨by decide +kernel, by decide +kernel, rfl⟩
  | _ => exact (show False from h).elim
theorem vint {n d : Nat} (e : V.int (n : Nat) = V.int (d : Nat)) : d = n := by
  injection e with e; omega

end My
namespace My
/-! ### the least one beside a list -/
def mexF (l : List Nat) : Nat → Nat → Nat
  | 0, k => k
  | f + 1, k => if k ∈ l then mexF l f (k + 1) else k
def mex (l : List Nat) : Nat := mexF l (l.length + 1) 0
theorem nodup_lt : ∀ (k : Nat) (l : List Nat), l.Nodup →
    (∀ i ∈ l, i < k) → l.length ≤ k
  | 0, [], _, _ => Nat.le_refl _
  | 0, x :: _, _, h => absurd (h x (List.mem_cons_self ..))
    (Nat.not_lt_zero _)
  | k + 1, l, nd, h => by
    by_cases hk : k ∈ l
    · have h1 := nodup_lt k (l.erase k) (nd.erase k) fun i hi => by
        have h2 := (nd.mem_erase_iff).mp hi
        have h3 := h i h2.2
        omega
      rw [List.length_erase_of_mem hk] at h1
      omega
    · have h1 := nodup_lt k l nd fun i hi => by
        have h3 := h i hi
        have h4 : i ≠ k := fun z => hk (z ▸ hi)
        omega
      omega
theorem pigeon : ∀ (k : Nat) (l : List Nat), (∀ i, i < k → i ∈ l) →
    k ≤ l.length
  | 0, _, _ => Nat.zero_le _
  | k + 1, l, h => by
    have hk := h k (Nat.lt_succ_self k)
    have h1 := pigeon k (l.erase k) fun i hi =>
      (List.mem_erase_of_ne (show i ≠ k by omega)).mpr
        (h i (Nat.lt_succ_of_lt hi))
    rw [List.length_erase_of_mem hk] at h1
    have := List.length_pos_of_mem hk
    omega
theorem mexF_spec (l : List Nat) : ∀ (f k : Nat), k + f = l.length + 1 →
    (∀ i, i < k → i ∈ l) → mexF l f k ∉ l ∧
      ∀ i, i < mexF l f k → i ∈ l
  | 0, k, e, h => by
    exfalso
    have := pigeon k l h
    omega
  | f + 1, k, e, h => by
    show (if k ∈ l then mexF l f (k + 1) else k) ∉ l ∧ ∀ i,
      i < (if k ∈ l then mexF l f (k + 1) else k) → i ∈ l
    by_cases hk : k ∈ l
    · rw [if_pos hk]
      refine mexF_spec l f (k + 1) (by omega) fun i hi => ?_
      by_cases e : i = k
      · rw [e]; exact hk
      · exact h i (by omega)
    · rw [if_neg hk]
      exact ⟨hk, h⟩
theorem mex_not (l : List Nat) : mex l ∉ l :=
  (mexF_spec l _ 0 (by omega) (fun i hi => absurd hi (Nat.not_lt_zero i))).1
theorem mex_lt (l : List Nat) {i : Nat} (h : i < mex l) : i ∈ l :=
  (mexF_spec l _ 0 (by omega)
    (fun i hi => absurd hi (Nat.not_lt_zero i))).2 i h
theorem mex_le (l : List Nat) : mex l ≤ l.length :=
  pigeon _ l fun _ h => mex_lt l h
theorem mex_eq {l : List Nat} {m : Nat} (h1 : m ∉ l)
    (h2 : ∀ i, i < m → i ∈ l) : mex l = m := by
  rcases Nat.lt_trichotomy (mex l) m with h | h | h
  · exact absurd (h2 _ h) (mex_not l)
  · exact h
  · exact absurd (mex_lt l h) h1
theorem mex_congr {l m : List Nat} (h : ∀ i, i ∈ l ↔ i ∈ m) :
    mex l = mex m :=
  mex_eq (fun z => mex_not m ((h _).mp z))
    fun _ hi => (h _).mpr (mex_lt m hi)
/-! ### books by homes -/
end My

namespace My
/-! ### lists that are picked out of a range -/
theorem filt_at (p : Nat → Bool) : ∀ (u k y : Nat), ((List.range u).filter p)[k]? = some y →
    y < u ∧ p y = true ∧ ((List.range y).filter p).length = k
  | 0, k, y, h => by simp at h
  | u + 1, k, y, h => by
    rw [List.range_succ, List.filter_append] at h
    rcases Nat.lt_or_ge k ((List.range u).filter p).length with g | g
    · rw [List.getElem?_append_left g] at h
      obtain ⟨h1, h2, h3⟩ := filt_at p u k y h
      exact ⟨by omega, h2, h3⟩
    · rw [List.getElem?_append_right g] at h
      by_cases hp : p u = true
      · rw [List.filter_cons_of_pos hp] at h
        have h0 : k - ((List.range u).filter p).length = 0 := by
          have := (List.getElem?_eq_some_iff.mp h).1
          simp at this; omega
        rw [h0] at h
        have e : u = y := by simpa using h
        subst e
        exact ⟨by omega, hp, by omega⟩
      · rw [List.filter_cons_of_neg hp] at h
        simp at h
theorem filt_lt (p : Nat → Bool) {u x : Nat} (h : x ≤ u) :
    ((List.range u).filter p).filter (fun y => decide (y < x)) = (List.range x).filter p := by
  induction u with
  | zero => have : x = 0 := by omega
            subst this; rfl
  | succ u ih =>
    rcases Nat.lt_or_ge u x with g | g
    · have : x = u + 1 := by omega
      subst this
      rw [List.filter_eq_self]
      intro y hy
      have := List.mem_range.mp (List.mem_filter.mp hy).1
      simpa using this
    · rw [List.range_succ, List.filter_append, List.filter_append, ih g]
      have : (List.filter p [u]).filter (fun y => decide (y < x)) = [] := by
        rw [List.filter_eq_nil_iff]
        intro y hy
        have : y = u := by simpa using (List.mem_filter.mp hy).1
        simp; omega
      rw [this, List.append_nil]
theorem filt_gt (p : Nat → Bool) {u x : Nat} (h : x ≤ u) :
    ((List.range u).filter p).filter (fun y => !decide (y < x)) = ((List.range u).filter p).drop ((List.range x).filter p).length := by
  have h1 : ((List.range u).filter p) = ((List.range x).filter p) ++ ((List.range' x (u - x)).filter p) := by
    rw [← List.filter_append]
    congr 1
    have e := List.range'_append_1 (s := 0) (m := x) (n := u - x)
    rw [Nat.zero_add, show x + (u - x) = u by omega] at e
    rw [List.range_eq_range', List.range_eq_range', e]
  rw [h1, List.filter_append, List.drop_left]
  have a : ((List.range x).filter p).filter (fun y => !decide (y < x)) = [] := by
    rw [List.filter_eq_nil_iff]
    intro y hy
    have := List.mem_range.mp (List.mem_filter.mp hy).1
    simpa using this
  have b : ((List.range' x (u - x)).filter p).filter (fun y => !decide (y < x)) = (List.range' x (u - x)).filter p := by
    rw [List.filter_eq_self]
    intro y hy
    have := List.mem_range'_1.mp (List.mem_filter.mp hy).1
    simp; omega
  rw [a, b]; rfl
theorem last_at {α : Type} {l : List α} {x : α} (h : l ≠ []) : ∃ y, l[l.length - 1]? = some y := by
  have : l.length - 1 < l.length := by have := List.length_pos_iff.mpr h; omega
  exact ⟨l[l.length - 1], List.getElem?_eq_getElem this⟩
end My

namespace My
/-! ### length: numbers without a greatest sign -/
def PR : List Nat := [3, 5, 7, 11, 13, 17, 19, 23, 29, 31, 37, 41, 43, 47, 53, 59, 61, 67, 71, 73, 79, 83, 89, 97]
theorem PR_bd : ∀ p ∈ PR, 3 ≤ p ∧ p ≤ 97 := by decide
theorem PR_inv : ∀ p ∈ PR, ∀ d, d < p → d ≠ 0 → ∃ t, t < p ∧ d * t % p = 1 := by
  have h : (PR.all fun p => (List.range p).all fun d => d == 0 ||
      (List.range p).any fun t => d * t % p == 1) = true := by decide +kernel
  intro p hp d hd d0
  have h1 := List.all_eq_true.mp h p hp
  have h2 := List.all_eq_true.mp h1 d (List.mem_range.mpr hd)
  rw [Bool.or_eq_true] at h2
  rcases h2 with h2 | h2
  · exact absurd (by simpa using h2) d0
  · obtain ⟨t, ht, e⟩ := List.any_eq_true.mp h2
    exact ⟨t, List.mem_range.mp ht, by simpa using e⟩
/-- the number that signs write by a base -/
def rd (b : Nat) (l : List Nat) : Nat := l.foldl (fun a s => a * b + s) 0
theorem rd_app (b : Nat) (l : List Nat) (s : Nat) : rd b (l ++ [s]) = rd b l * b + s := by
  unfold rd; rw [List.foldl_append]; rfl
theorem sgs_app {b m d : Nat} (hb : 2 ≤ b) (hd : d < b) (h : b * m + d ≠ 0) :
    sgs b (b * m + d) = sgs b m ++ [d] := by
  have e1 : (b * m + d) / b = m := by
    rw [Nat.mul_add_div (by omega), Nat.div_eq_of_lt hd, Nat.add_zero]
  have e2 : (b * m + d) % b = d := by
    rw [Nat.mul_add_mod, Nat.mod_eq_of_lt hd]
  rw [sgs_pos hb h, e1, e2]
theorem rd_sgs {b : Nat} (hb : 2 ≤ b) (n : Nat) : rd b (sgs b n) = n := by
  induction n using Nat.strongRecOn with
  | ind n ih =>
    by_cases h : n = 0
    · subst h; rw [sgs_zero]; rfl
    · rw [sgs_pos hb h, rd_app, ih (n / b) (Nat.div_lt_self (by omega) (by omega))]
      have := Nat.div_add_mod n b
      rw [Nat.mul_comm]; exact this
theorem rd_take_pos {b : Nat} (hb : 2 ≤ b) (n : Nat) : ∀ i, i < (sgs b n).length →
    0 < rd b ((sgs b n).take (i + 1)) := by
  induction n using Nat.strongRecOn with
  | ind n ih =>
    intro i hi
    by_cases h : n = 0
    · subst h; rw [sgs_zero] at hi; cases hi
    · rw [sgs_pos hb h] at hi ⊢
      rw [List.length_append, List.length_singleton] at hi
      by_cases g : i < (sgs b (n / b)).length
      · rw [List.take_append_of_le_length (by omega)]
        exact ih _ (Nat.div_lt_self (by omega) (by omega)) i g
      · rw [List.take_of_length_le (by rw [List.length_append, List.length_singleton]; omega), ← sgs_pos hb h, rd_sgs hb]
        omega
def tk (p n : Nat) : Bool := decide (p - 1 ∉ sgs p n)
theorem tk_zero (p : Nat) : tk p 0 = true := by
  unfold tk; rw [sgs_zero]; simp
theorem tk_step {p m d : Nat} (hp : 2 ≤ p) (hd : d < p) :
    tk p (p * m + d) = (tk p m && decide (d ≠ p - 1)) := by
  by_cases h : p * m + d = 0
  · have h2 : d = 0 := by omega
    have h1 : m = 0 := by
      rcases Nat.eq_zero_or_pos m with h | h
      · exact h
      · have := Nat.mul_le_mul hp h
        omega
    subst h1 h2
    rw [Nat.mul_zero, Nat.add_zero, tk_zero]
    have : (0 : Nat) ≠ p - 1 := by omega
    simp [this]
  · unfold tk
    rw [sgs_app hp hd h]
    by_cases h1 : p - 1 ∈ sgs p m
    · simp [h1]
    · by_cases h2 : d = p - 1
      · simp [h2]
      · have : ¬ p - 1 = d := fun z => h2 z.symm
        simp [h1, h2, this]
theorem dm {p n : Nat} (hp : 2 ≤ p) : n = p * (n / p) + n % p ∧ n % p < p :=
  ⟨(Nat.div_add_mod n p).symm, Nat.mod_lt _ (by omega)⟩
/-- by the last sign -/
theorem dig {p : Nat} (hp : 2 ≤ p) {P : Nat → Prop} (h0 : P 0)
    (hs : ∀ m d, d < p → p * m + d ≠ 0 → P m → P (p * m + d)) (n : Nat) : P n := by
  induction n using Nat.strongRecOn with
  | ind n ih =>
    by_cases h : n = 0
    · rw [h]; exact h0
    · obtain ⟨e, l⟩ := dm (n := n) hp
      have := hs (n / p) (n % p) l (by omega) (ih _ (Nat.div_lt_self (by omega) (by omega)))
      rw [← e] at this; exact this
def lnth (p j : Nat) : Nat := rd p (sgs (p - 1) j)
theorem lnth_zero (p : Nat) : lnth p 0 = 0 := by unfold lnth; rw [sgs_zero]; rfl
theorem lnth_step {p a d : Nat} (hp : 3 ≤ p) (hd : d < p - 1) :
    lnth p ((p - 1) * a + d) = p * lnth p a + d := by
  by_cases h : (p - 1) * a + d = 0
  · have h2 : d = 0 := by omega
    have h1 : a = 0 := by
      rcases Nat.eq_zero_or_pos a with h | h
      · exact h
      · have := Nat.mul_le_mul (show 2 ≤ p - 1 by omega) h
        omega
    subst h1 h2
    rw [Nat.mul_zero, Nat.add_zero, lnth_zero]; rfl
  · unfold lnth
    rw [sgs_app (by omega) hd h, rd_app, Nat.mul_comm]
def lstep (p n : Nat) : Nat := rd p ((sgs p n).map fun s => if s = p - 1 then 1 else 0)
theorem lstep_zero (p : Nat) : lstep p 0 = 0 := by unfold lstep; rw [sgs_zero]; rfl
theorem lstep_step {p m d : Nat} (hp : 3 ≤ p) (hd : d < p) :
    lstep p (p * m + d) = p * lstep p m + (if d = p - 1 then 1 else 0) := by
  by_cases h : p * m + d = 0
  · have h2 : d = 0 := by omega
    have h1 : m = 0 := by
      rcases Nat.eq_zero_or_pos m with h | h
      · exact h
      · have := Nat.mul_le_mul (show 2 ≤ p by omega) h
        omega
    subst h1 h2
    rw [if_neg (by omega)]
    rw [Nat.mul_zero, Nat.add_zero, lstep_zero]; rfl
  · unfold lstep
    rw [sgs_app (by omega) hd h, List.map_append, List.map_singleton, rd_app, Nat.mul_comm]
/-- how many taken numbers are less -/
def cn (p x : Nat) : Nat :=
  if _h : x = 0 ∨ p < 2 then 0
  else (p - 1) * cn p (x / p) + (if tk p (x / p) = true then x % p else 0)
termination_by x
decreasing_by exact Nat.div_lt_self (by omega) (by omega)
theorem cn_zero (p : Nat) : cn p 0 = 0 := by rw [cn, dif_pos (Or.inl rfl)]
theorem cn_step {p m d : Nat} (hp : 2 ≤ p) (hd : d < p) :
    cn p (p * m + d) = (p - 1) * cn p m + (if tk p m = true then d else 0) := by
  by_cases h : p * m + d = 0
  · have h2 : d = 0 := by omega
    have h1 : m = 0 := by
      rcases Nat.eq_zero_or_pos m with h | h
      · exact h
      · have := Nat.mul_le_mul hp h
        omega
    subst h1 h2
    rw [Nat.mul_zero, Nat.add_zero, cn_zero, Nat.mul_zero]; simp
  · have e1 : (p * m + d) / p = m := by
      rw [Nat.mul_add_div (by omega), Nat.div_eq_of_lt hd, Nat.add_zero]
    have e2 : (p * m + d) % p = d := by
      rw [Nat.mul_add_mod, Nat.mod_eq_of_lt hd]
    rw [cn, dif_neg (by omega), e1, e2]
theorem cn_succ {p : Nat} (hp : 3 ≤ p) (x : Nat) :
    cn p (x + 1) = cn p x + (if tk p x = true then 1 else 0) := by
  refine dig (p := p) (by omega) (P := fun x => cn p (x + 1) = cn p x +
    (if tk p x = true then 1 else 0)) ?_ ?_ x
  · have : cn p (p * 0 + 1) = _ := cn_step (p := p) (m := 0) (d := 1) (by omega) (by omega)
    rw [cn_zero, tk_zero] at this
    rw [Nat.mul_zero, Nat.zero_add] at this
    rw [Nat.zero_add, this, cn_zero, tk_zero]; simp
  · intro m d hd hne ih
    rw [cn_step (by omega) hd, tk_step (by omega) hd]
    by_cases hl : d + 1 < p
    · have e : p * m + d + 1 = p * m + (d + 1) := by omega
      rw [e, cn_step (by omega) hl]
      have : d ≠ p - 1 := by omega
      cases tk p m <;> simp [this] <;> omega
    · have e : p * m + d + 1 = p * (m + 1) + 0 := by rw [Nat.mul_add]; omega
      have hd2 : d = p - 1 := by omega
      rw [e, cn_step (by omega) (by omega), ih, Nat.mul_add]
      cases tk p m <;> simp [hd2]
theorem cn_mono {p : Nat} (hp : 3 ≤ p) {x y : Nat} (h : x ≤ y) : cn p x ≤ cn p y := by
  induction h with
  | refl => exact Nat.le_refl _
  | step _ ih => exact Nat.le_trans ih (by rw [Nat.succ_eq_add_one, cn_succ hp]; omega)
theorem lnth_tk {p : Nat} (hp : 3 ≤ p) (j : Nat) :
    tk p (lnth p j) = true ∧ cn p (lnth p j) = j := by
  refine dig (p := p - 1) (by omega) (P := fun j => tk p (lnth p j) = true ∧
    cn p (lnth p j) = j) ?_ ?_ j
  · rw [lnth_zero, tk_zero, cn_zero]; exact ⟨rfl, rfl⟩
  · intro a d hd _ ⟨h1, h2⟩
    rw [lnth_step hp hd, tk_step (by omega) (by omega), cn_step (by omega) (by omega), h1, h2]
    have : d ≠ p - 1 := by omega
    simp [this]
theorem lnth_lt {p : Nat} (hp : 3 ≤ p) {i j : Nat} (h : i < j) : lnth p i < lnth p j := by
  rcases Nat.lt_or_ge (lnth p i) (lnth p j) with g | g
  · exact g
  · have := cn_mono hp g
    rw [(lnth_tk hp i).2, (lnth_tk hp j).2] at this
    omega
theorem cn_lnth_succ {p : Nat} (hp : 3 ≤ p) (j : Nat) : cn p (lnth p j + 1) = j + 1 := by
  rw [cn_succ hp, (lnth_tk hp j).1, (lnth_tk hp j).2]; rfl
theorem lnth_ge {p : Nat} (hp : 3 ≤ p) (x : Nat) : x ≤ lnth p (cn p x) := by
  rcases Nat.lt_or_ge (lnth p (cn p x)) x with g | g
  · have h1 := cn_mono hp (show lnth p (cn p x) + 1 ≤ x from g)
    rw [cn_lnth_succ hp] at h1
    omega
  · exact g
theorem lnth_cn {p : Nat} (hp : 3 ≤ p) {x : Nat} : lnth p (cn p x) = x ↔ tk p x = true := by
  constructor
  · intro h
    rw [← h]; exact (lnth_tk hp _).1
  · intro h
    have h1 := lnth_ge hp x
    rcases Nat.lt_or_ge x (lnth p (cn p x)) with g | g
    · have h2 := cn_mono hp (show x + 1 ≤ _ from g)
      rw [cn_succ hp, h, (lnth_tk hp _).2] at h2
      rw [if_pos rfl] at h2; omega
    · omega
theorem lnth_pred {p : Nat} (hp : 3 ≤ p) {x : Nat} (h : 0 < cn p x) :
    lnth p (cn p x - 1) < x := by
  rcases Nat.lt_or_ge (lnth p (cn p x - 1)) x with g | g
  · exact g
  · have h2 := cn_mono hp g
    rw [(lnth_tk hp _).2] at h2
    omega
theorem pow_cn {p : Nat} (hp : 3 ≤ p) (k : Nat) :
    cn p (p ^ k) = (p - 1) ^ k ∧ lnth p ((p - 1) ^ k) = p ^ k := by
  induction k with
  | zero =>
    have h1 := cn_step (p := p) (m := 0) (d := 1) (by omega) (by omega)
    have h2 := lnth_step (p := p) (a := 0) (d := 1) hp (by omega)
    rw [Nat.mul_zero, Nat.zero_add, cn_zero, tk_zero] at h1
    rw [Nat.mul_zero, Nat.zero_add, lnth_zero] at h2
    rw [Nat.pow_zero, Nat.pow_zero, h1, h2]; simp
  | succ k ih =>
    have h1 := cn_step (p := p) (m := p ^ k) (d := 0) (by omega) (by omega)
    have h2 := lnth_step (p := p) (a := (p - 1) ^ k) (d := 0) hp (by omega)
    rw [Nat.add_zero] at h1 h2
    rw [Nat.pow_succ, Nat.pow_succ, Nat.mul_comm (p ^ k), Nat.mul_comm ((p - 1) ^ k), h1, h2, ih.1, ih.2]
    simp
/-- the step of a number that is left -/
theorem lstep_ok {p : Nat} (hp : 3 ≤ p) (n : Nat) :
    (lstep p n = 0 ↔ tk p n = true) ∧ ∀ t, 1 ≤ t → t < p →
      t * lstep p n ≤ n ∧ tk p (n - t * lstep p n) = true := by
  refine dig (p := p) (by omega) (P := fun n => (lstep p n = 0 ↔ tk p n = true) ∧
    ∀ t, 1 ≤ t → t < p → t * lstep p n ≤ n ∧ tk p (n - t * lstep p n) = true) ?_ ?_ n
  · rw [lstep_zero, tk_zero]
    exact ⟨⟨fun _ => rfl, fun _ => rfl⟩, fun t _ _ => ⟨by rw [Nat.mul_zero]; exact Nat.le_refl 0, by rw [Nat.mul_zero]; exact tk_zero p⟩⟩
  · intro m d hd _ ⟨h1, h2⟩
    rw [lstep_step hp hd, tk_step (by omega) hd]
    constructor
    · constructor
      · intro h
        have a : lstep p m = 0 := by
          rcases Nat.eq_zero_or_pos (lstep p m) with z | z
          · exact z
          · have := Nat.mul_le_mul (show 1 ≤ p by omega) z
            omega
        have b : d ≠ p - 1 := fun z => by rw [if_pos z] at h; omega
        rw [h1.mp a]; simp [b]
      · intro h
        rw [Bool.and_eq_true] at h
        have b : d ≠ p - 1 := by simpa using h.2
        rw [h1.mpr h.1, if_neg b]; rfl
    · intro t t1 tp
      obtain ⟨g1, g2⟩ := h2 t t1 tp
      generalize hD : lstep p m = D at g1 g2
      generalize he : (if d = p - 1 then 1 else 0) = e
      have hte : t * e ≤ d := by
        by_cases z : d = p - 1
        · rw [if_pos z] at he; subst he; omega
        · rw [if_neg z] at he; subst he; omega
      have hne : d - t * e ≠ p - 1 := by
        by_cases z : d = p - 1
        · rw [if_pos z] at he; subst he; omega
        · rw [if_neg z] at he; subst he; omega
      have e1 : t * (p * D + e) = p * (t * D) + t * e := by
        rw [Nat.mul_add, Nat.mul_left_comm]
      have l1 : p * (t * D) ≤ p * m := Nat.mul_le_mul_left _ g1
      rw [e1]
      refine ⟨by omega, ?_⟩
      have e2 : p * m + d - (p * (t * D) + t * e) = p * (m - t * D) + (d - t * e) := by
        rw [Nat.mul_sub]; omega
      rw [e2, tk_step (by omega) (by omega), g2]
      simp [hne]
/-- a taken number has no step -/
theorem no_step {p : Nat} (hp : p ∈ PR) : ∀ (n d : Nat), tk p n = true → 1 ≤ d →
    (p - 1) * d ≤ n → (∀ t, 1 ≤ t → t < p → tk p (n - t * d) = true) → False := by
  have bd := PR_bd p hp
  intro n
  induction n using Nat.strongRecOn with
  | ind n ih =>
    intro d hn hd hl ht
    obtain ⟨en, ln⟩ := dm (n := n) (show 2 ≤ p by omega)
    have hn' := hn
    rw [en, tk_step (by omega) ln, Bool.and_eq_true] at hn'
    by_cases hz : d % p = 0
    · have ed : d = p * (d / p) := by have := Nat.div_add_mod d p; omega
      have d1 : 1 ≤ d / p := by
        rcases Nat.eq_zero_or_pos (d / p) with z | z
        · rw [z] at ed; omega
        · exact z
      have np : 0 < n := by
        have := Nat.mul_le_mul (show 1 ≤ p - 1 by omega) hd
        omega
      have key : ∀ t, t < p → t * (d / p) ≤ n / p := by
        intro t htp
        have h1 : t * d ≤ n := Nat.le_trans (Nat.mul_le_mul_right _ (by omega)) hl
        rw [ed, Nat.mul_left_comm] at h1
        exact (Nat.le_div_iff_mul_le (by omega)).mpr (by rw [Nat.mul_comm]; exact h1)
      refine ih (n / p) (Nat.div_lt_self np (by omega)) (d / p) hn'.1 d1 (key (p - 1) (by omega)) ?_
      intro t t1 tp
      have h1 := ht t t1 tp
      have e2 : n - t * d = p * (n / p - t * (d / p)) + n % p := by
        have := key t tp
        have h3 : p * (t * (d / p)) ≤ p * (n / p) := Nat.mul_le_mul_left _ this
        rw [Nat.mul_sub]
        have h4 : t * d = p * (t * (d / p)) := by rw [Nat.mul_left_comm, ← ed]
        rw [h4]; omega
      rw [e2, tk_step (by omega) ln, Bool.and_eq_true] at h1
      exact h1.1
    · obtain ⟨u, hu, e⟩ := PR_inv p hp (d % p) (Nat.mod_lt _ (by omega)) hz
      -- t = (n + 1) * u
      have e1 : d * u % p = 1 := by rw [Nat.mul_mod, Nat.mod_eq_of_lt hu]; exact e
      have e2 : ((n + 1) * u % p) * d % p = (n + 1) % p := by
        have h1 : ((n + 1) * u % p) * d % p = (n + 1) * u * d % p := Nat.mod_mul_mod ..
        rw [h1, Nat.mul_assoc, Nat.mul_comm u d, Nat.mul_mod, e1, Nat.mul_one, Nat.mod_mod]
      generalize ht0 : (n + 1) * u % p = t at e2
      have tp : t < p := by rw [← ht0]; exact Nat.mod_lt _ (by omega)
      have tl : t * d ≤ n := Nat.le_trans (Nat.mul_le_mul_right _ (by omega)) hl
      have e3 : (n - t * d + 1) % p = 0 := by
        have h1 : (n - t * d + 1 + t * d) % p = (t * d) % p := by
          rw [e2]; congr 1; omega
        have := Nat.sub_mod_eq_zero_of_mod_eq h1
        rwa [Nat.add_sub_cancel] at this
      have e4 : (n - t * d) % p = p - 1 := by
        generalize n - t * d = y at e3
        have h1 := Nat.mod_lt y (show 0 < p by omega)
        have h2 := Nat.div_add_mod y p
        by_cases h : y % p + 1 < p
        · have : (y + 1) % p = y % p + 1 := by
            rw [Nat.add_mod, Nat.mod_eq_of_lt (show 1 < p by omega), Nat.mod_eq_of_lt h]
          omega
        · omega
      have bad : ∀ y, y % p = p - 1 → tk p y = true → False := by
        intro y hy h
        obtain ⟨ey, ly⟩ := dm (n := y) (show 2 ≤ p by omega)
        rw [ey, tk_step (by omega) ly, hy] at h
        simp at h
      by_cases t0 : t = 0
      · subst t0
        rw [Nat.zero_mul, Nat.sub_zero] at e4
        exact bad n e4 hn
      · exact bad _ e4 (ht t (by omega) tp)
theorem rd_bd3' (l : List Nat) (h : ∀ s ∈ l, s < 3) : NB (2 * l.length) (rd 3 l) := by
  have : ∀ (l : List Nat) (v i : Nat), (∀ s ∈ l, s < 3) → NB (2 * i) v → NB (2 * (i + l.length)) (l.foldl (fun a s => a * 3 + s) v) := by
    intro l
    induction l with
    | nil => intro v i _ h; exact h
    | cons x l ih =>
      intro v i h hv
      have hx := h x (List.mem_cons_self ..)
      have h2 : NB (2 * (i + 1)) (v * 3 + x) := by
        unfold NB at *
        rw [Nat.mul_add, Nat.pow_add]; omega
      have := ih _ (i + 1) (fun s hs => h s (List.mem_cons_of_mem _ hs)) h2
      rw [List.length_cons, show i + (l.length + 1) = i + 1 + l.length by omega]; exact this
  have := this l 0 0 h (by unfold NB; decide)
  rwa [Nat.zero_add] at this
/-- signs behind a first greatest one are as noughts -/
def trunc (p : Nat) (l : List Nat) : List Nat :=
  if p - 1 ∈ l then l.take (l.idxOf (p - 1) + 1) ++
    List.replicate (l.length - (l.idxOf (p - 1) + 1)) 0 else l
theorem trunc_cons (p s : Nat) (l : List Nat) : trunc p (s :: l) =
    if s = p - 1 then s :: List.replicate l.length 0 else s :: trunc p l := by
  unfold trunc
  by_cases h : s = p - 1
  · rw [if_pos h, if_pos (by rw [h]; exact List.mem_cons_self ..)]
    rw [h, List.idxOf_cons_self]
    simp
  · rw [if_neg h]
    have h2 : ¬ p - 1 = s := fun z => h z.symm
    by_cases h3 : p - 1 ∈ l
    · have e : (s :: l).idxOf (p - 1) = l.idxOf (p - 1) + 1 := by
        have hb : (s == p - 1) = false := by simpa using h
        rw [List.idxOf_cons, hb]; rfl
      rw [if_pos h3, if_pos (List.mem_cons_of_mem _ h3), e]
      rw [List.take_succ_cons, List.length_cons, Nat.add_sub_add_right]; rfl
    · rw [if_neg h3, if_neg (by simp [h2, h3])]
/-- the same, sign by sign -/
def cf (p : Nat) (st : Nat × Bool) (s : Nat) : Nat × Bool :=
  (st.1 * (p - 1) + (if st.2 = true then s else 0), st.2 && decide (s ≠ p - 1))
theorem cf_off (p : Nat) : ∀ (l : List Nat) (v : Nat),
    (l.foldl (cf p) (v, false)).1 = (List.replicate l.length 0).foldl (fun a s => a * (p - 1) + s) v
  | [], _ => rfl
  | s :: l, v => by
    rw [List.foldl_cons, List.length_cons, List.replicate_succ, List.foldl_cons]
    exact cf_off p l _
theorem cf_on (p : Nat) : ∀ (l : List Nat) (v : Nat),
    (l.foldl (cf p) (v, true)).1 = (trunc p l).foldl (fun a s => a * (p - 1) + s) v
  | [], v => by
    unfold trunc
    rw [if_neg (by simp)]; rfl
  | s :: l, v => by
    rw [List.foldl_cons, trunc_cons]
    by_cases h : s = p - 1
    · rw [if_pos h, List.foldl_cons]
      have e : cf p (v, true) s = (v * (p - 1) + s, false) := by
        unfold cf; simp [h]
      rw [e]; exact cf_off p l _
    · rw [if_neg h, List.foldl_cons]
      have e : cf p (v, true) s = (v * (p - 1) + s, true) := by
        unfold cf; simp [h]
      rw [e]; exact cf_on p l _
theorem cf_cn {p : Nat} (hp : 2 ≤ p) (x : Nat) :
    (sgs p x).foldl (cf p) (0, true) = (cn p x, tk p x) := by
  refine dig (p := p) hp (P := fun x => (sgs p x).foldl (cf p) (0, true) = (cn p x, tk p x)) ?_ ?_ x
  · rw [sgs_zero, cn_zero, tk_zero]; rfl
  · intro m d hd hne ih
    rw [sgs_app hp hd hne, List.foldl_append, ih, cn_step hp hd, tk_step hp hd]
    show cf p (cn p m, tk p m) d = _
    unfold cf
    rw [Nat.mul_comm]
theorem cn_trunc {p : Nat} (hp : 2 ≤ p) (x : Nat) :
    rd (p - 1) (trunc p (sgs p x)) = cn p x := by
  have h := cf_on p (sgs p x) 0
  rw [cf_cn hp] at h
  exact h.symm
end My

namespace My
/-! ### the first number of a book -/
def hv (b : Nat) : List Nat :=
  if b = 0 then [] else hv (2 * b / 3) ++ [2 * b % 3]
termination_by b
decreasing_by omega
theorem hv_zero : hv 0 = [] := by rw [hv, if_pos rfl]
theorem hv_pos {b : Nat} (h : b ≠ 0) : hv b = hv (2 * b / 3) ++ [2 * b % 3] := by
  rw [hv, if_neg h]
def ef (b : Nat) : Nat := rd 3 (hv b)
theorem ef_zero : ef 0 = 0 := by unfold ef; rw [hv_zero]; rfl
theorem ef_step (b : Nat) : ef b = 3 * ef (2 * b / 3) + 2 * b % 3 := by
  by_cases h : b = 0
  · subst h; rw [show 2 * 0 / 3 = 0 from rfl, ef_zero]
  · unfold ef
    rw [hv_pos h, rd_app, Nat.mul_comm]
theorem ev_ef (b : Nat) : ev (ef b) = b := by
  induction b using Nat.strongRecOn with
  | ind b ih =>
    by_cases h : b = 0
    · subst h; rw [ef_zero, ev_zero]
    · rw [ef_step, ev_step _ _ (Nat.mod_lt _ (by decide)), ih _ (by omega)]
      unfold led; omega
theorem ef_lt_succ (b : Nat) : ef b < ef (b + 1) := by
  induction b using Nat.strongRecOn with
  | ind b ih =>
    by_cases h : b = 0
    · subst h
      rw [ef_zero, ef_step 1, show 2 * 1 / 3 = 0 from rfl, ef_zero]; decide
    · rw [ef_step b, ef_step (b + 1)]
      by_cases z : 2 * (b + 1) / 3 = 2 * b / 3
      · rw [z]; omega
      · have e : 2 * (b + 1) / 3 = 2 * b / 3 + 1 := by omega
        have := ih (2 * b / 3) (by omega)
        rw [e]; omega
theorem ef_lt {b c : Nat} (h : b < c) : ef b < ef c := by
  induction h with
  | refl => exact ef_lt_succ b
  | step _ ih => exact Nat.lt_trans ih (ef_lt_succ _)
theorem ef_le {b c : Nat} (h : b ≤ c) : ef b ≤ ef c := by
  rcases Nat.lt_or_ge b c with g | g
  · exact Nat.le_of_lt (ef_lt g)
  · have : b = c := by omega
    rw [this]; exact Nat.le_refl _
/-- no lesser number is in the book -/
theorem ef_min (n : Nat) : ef (ev n) ≤ n := by
  induction n using Nat.strongRecOn with
  | ind n ih =>
    by_cases h : n = 0
    · subst h; rw [ev_zero, ef_zero]; exact Nat.le_refl _
    · have h1 := ih (n / 3) (by omega)
      rw [ev_div n, ef_step]
      rcases led_cases (ev (n / 3)) (n % 3) with g | g
      · have e1 : 2 * led (ev (n / 3)) (n % 3) / 3 = ev (n / 3) := by omega
        rw [e1]; omega
      · by_cases z : 2 * led (ev (n / 3)) (n % 3) / 3 = ev (n / 3)
        · rw [z]; omega
        · have e1 : 2 * led (ev (n / 3)) (n % 3) / 3 + 1 = ev (n / 3) := by omega
          have h2 := ef_lt_succ (2 * led (ev (n / 3)) (n % 3) / 3)
          rw [e1] at h2
          omega
theorem ec_ef (b : Nat) : ec b (ef b) = 0 ∧ ec b (ef b + 1) = 1 := by
  have h0 : ∀ x, x ≤ ef b → ec b x = 0 := by
    intro x
    induction x with
    | zero => intro _; rfl
    | succ x ih =>
      intro hx
      rw [ec_succ, ih (by omega), if_neg fun z => by
        have := ef_min x
        rw [z] at this; omega]
  refine ⟨h0 _ (Nat.le_refl _), ?_⟩
  rw [ec_succ, h0 _ (Nat.le_refl _), if_pos (ev_ef b)]
theorem ef_pos {b : Nat} (h : b ≠ 0) : ef b ≠ 0 := fun z => by
  have := ev_ef b
  rw [z, ev_zero] at this; exact h this.symm
theorem sgs_ef (b : Nat) : sgs 3 (ef b) = hv b := by
  induction b using Nat.strongRecOn with
  | ind b ih =>
    by_cases h : b = 0
    · subst h; rw [ef_zero, sgs_zero, hv_zero]
    · have h1 := ef_pos h
      rw [ef_step] at h1 ⊢
      rw [sgs_app (by decide) (Nat.mod_lt _ (by decide)) h1, ih _ (by omega), hv_pos h]
theorem hv_lt (b : Nat) : ∀ s ∈ hv b, s < 3 := by
  rw [← sgs_ef]; exact sgs_lt (by decide) _
theorem hv_len : ∀ {k b : Nat}, NB k b → (hv b).length ≤ 2 * k := by
  intro k
  induction k with
  | zero =>
    intro b h
    have : b = 0 := by unfold NB at h; omega
    subst this; rw [hv_zero]; exact Nat.zero_le _
  | succ k ih =>
    intro b h
    by_cases b0 : b = 0
    · subst b0; rw [hv_zero]; exact Nat.zero_le _
    · rw [hv_pos b0, List.length_append, List.length_singleton]
      by_cases b1 : 2 * b / 3 = 0
      · rw [b1, hv_zero]; show 0 + 1 ≤ _; omega
      · rw [hv_pos b1, List.length_append, List.length_singleton]
        have h2 : NB k (2 * (2 * b / 3) / 3) := by
          unfold NB at *
          rw [Nat.pow_succ] at h; omega
        have := ih h2
        omega
theorem ef_NB {k b : Nat} (h : NB k b) : NB (4 * k) (ef b) := by
  have h1 := rd_bd3' (hv b) (hv_lt b)
  have h2 := hv_len h
  exact h1.mono (by omega)
/-- the greatest book of lesser numbers -/
def gb : Nat → Nat
  | 0 => 0
  | x + 1 => max (gb x) (ev x)
theorem gb_ge {x n : Nat} (h : n < x) : ev n ≤ gb x := by
  induction x with
  | zero => omega
  | succ x ih =>
    show _ ≤ max (gb x) (ev x)
    by_cases e : n = x
    · subst e; omega
    · have := ih (by omega); omega
theorem gb_at {x : Nat} (h : 0 < x) : ∃ n, n < x ∧ ev n = gb x := by
  induction x with
  | zero => omega
  | succ x ih =>
    show ∃ n, n < x + 1 ∧ ev n = max (gb x) (ev x)
    by_cases x0 : x = 0
    · subst x0; exact ⟨0, by omega, by show _ = max 0 _; omega⟩
    · obtain ⟨n, hn, e⟩ := ih (by omega)
      rcases Nat.le_total (gb x) (ev x) with g | g
      · exact ⟨x, by omega, by omega⟩
      · exact ⟨n, by omega, by omega⟩
theorem gb_uniq {x r : Nat} (h : 0 < x) (h1 : ∀ n, n < x → ev n ≤ r) (h2 : ∃ n, n < x ∧ ev n = r) : gb x = r := by
  obtain ⟨n, hn, e⟩ := h2
  obtain ⟨m, hm', e'⟩ := gb_at h
  have a := gb_ge hn
  have b := h1 m hm'
  omega
/-- by first numbers -/
theorem gb_ef {x c : Nat} (h1 : ef c < x) (h2 : x ≤ ef (c + 1)) : gb x = c := by
  refine gb_uniq (by omega) (fun n hn => ?_) ⟨ef c, h1, ev_ef c⟩
  rcases Nat.lt_or_ge c (ev n) with g | g
  · have := ef_le (show c + 1 ≤ ev n from g)
    have := ef_min n
    omega
  · exact g
theorem led_mono {a b s t : Nat} (h : a ≤ b) (h' : s ≤ t) : led a s ≤ led b t := by
  unfold led; omega
theorem led_mono2 {a b s : Nat} (h : a < b) (hs : s < 3) : led a s ≤ led b 0 := by
  unfold led; omega
/-- sign by sign -/
theorem gb_step {x s : Nat} (hs : s < 3) (h : 0 < 3 * x + s) : gb (3 * x + s) =
    if x = 0 then led 0 (s - 1) else if s = 0 then led (gb x) 2
      else max (led (gb x) 2) (led (ev x) (s - 1)) := by
  have key : ∀ n, n < 3 * x + s → (n / 3 < x) ∨ (n / 3 = x ∧ n % 3 < s) := by
    intro n hn; omega
  refine gb_uniq h ?_ ?_
  · intro n hn
    have hm3 := Nat.mod_lt n (show 0 < 3 by decide)
    rw [ev_div n]
    rcases key n hn with g | ⟨g, g'⟩
    · rw [if_neg (by omega)]
      have h1 := led_mono (gb_ge g) (show n % 3 ≤ 2 by omega)
      split
      · exact h1
      · omega
    · rw [g]
      have h1 := led_mono (Nat.le_refl (ev x)) (show n % 3 ≤ s - 1 by omega)
      by_cases x0 : x = 0
      · rw [if_pos x0]
        rw [x0, ev_zero] at h1 ⊢
        exact h1
      · rw [if_neg x0, if_neg (by omega)]; omega
  · by_cases x0 : x = 0
    · rw [if_pos x0]
      refine ⟨s - 1, by omega, ?_⟩
      have := ev_step 0 (s - 1) (by omega)
      rw [ev_zero] at this
      rwa [Nat.mul_zero, Nat.zero_add] at this
    · rw [if_neg x0]
      obtain ⟨n, hn, e⟩ := gb_at (show 0 < x by omega)
      by_cases s0 : s = 0
      · rw [if_pos s0]
        exact ⟨3 * n + 2, by omega, by rw [ev_step _ _ (by decide), e]⟩
      · rw [if_neg s0]
        rcases Nat.le_total (led (gb x) 2) (led (ev x) (s - 1)) with g | g
        · exact ⟨3 * x + (s - 1), by omega, by rw [ev_step _ _ (by omega)]; omega⟩
        · exact ⟨3 * n + 2, by omega, by rw [ev_step _ _ (by decide), e]; omega⟩
def lacks (b : Nat) : Nat := 2 - b % 3
theorem lacks_not (n : Nat) : n % 3 ≠ lacks (ev n) := by
  unfold lacks
  rw [ev_div n]
  rcases led_cases (ev (n / 3)) (n % 3) with g | g <;> omega
end My

namespace My
/-! ### sums over all books -/
theorem sum_pt (B c : Nat) : ((List.range B).map fun b => if c = b then 1 else 0).sum = if c < B then 1 else 0 := by
  induction B with
  | zero => rfl
  | succ B ih =>
    rw [List.range_succ, List.map_append, List.sum_append, ih]
    simp only [List.map_cons, List.map_nil, List.sum_cons, List.sum_nil]
    repeat' split
    all_goals omega
theorem sum_add {α : Type} (l : List α) (f g : α → Nat) : (l.map fun b => f b + g b).sum = (l.map f).sum + (l.map g).sum := by
  induction l with
  | nil => rfl
  | cons x l ih => simp only [List.map_cons, List.sum_cons, ih]; omega
theorem ec_sum (B : Nat) : ∀ x, (∀ n, n < x → ev n < B) → ((List.range B).map fun b => ec b x).sum = x
  | 0, _ => by
    have : ∀ l : List Nat, (l.map fun b => ec b 0).sum = 0 := by
      intro l
      induction l with
      | nil => rfl
      | cons b l ih => rw [List.map_cons, List.sum_cons, ih, ec_zero]
    exact this _
  | x + 1, h => by
    have e : (fun b => ec b (x + 1)) = fun b => ec b x + (if ev x = b then 1 else 0) := by
      funext b; exact ec_succ b x
    rw [e, sum_add, ec_sum B x (fun n hn => h n (by omega)), sum_pt, if_pos (h x (by omega))]
theorem ec_three (b : Nat) : ∀ x, ec b (3 * x) = ec (2 * b / 3) x + ec ((2 * b + 1) / 3) x
  | 0 => rfl
  | x + 1 => by
    rw [show 3 * (x + 1) = 3 * x + 2 + 1 by omega, ec_succ, ec_succ, ec_succ, ec_three b x, ec_succ, ec_succ,
      ev_step x 2 (by decide), ev_step x 1 (by decide), show 3 * x = 3 * x + 0 by omega, ev_step x 0 (by decide)]
    unfold led
    repeat' split
    all_goals omega
/-- the sum of what is told of each number's book -/
def fsum (f : Nat → Nat) (x : Nat) : Nat := ((List.range x).map fun n => f (ev n)).sum
theorem fsum_succ (f : Nat → Nat) (x : Nat) : fsum f (x + 1) = fsum f x + f (ev x) := by
  unfold fsum
  rw [List.range_succ, List.map_append, List.sum_append]
  simp
/-- a dict that has each book's count -/
structure Cnt (m : List (Nat × Nat)) (x : Nat) : Prop where
  nd : (m.map (·.1)).Nodup
  get : ∀ g, dget m g 0 = ec g x
theorem dget_mem {m : List (Nat × Nat)} {k : Nat} (h : dget m k 0 ≠ 0) : k ∈ m.map (·.1) := by
  by_cases z : k ∈ m.map (·.1)
  · exact z
  · exact absurd (by unfold dget; rw [dlk_none z]; rfl) h
theorem sum_one {l : List Nat} (h : l.Nodup) (f : Nat → Nat) {c : Nat} (hc : c ∈ l) :
    (l.map fun g => (if c = g then 1 else 0) * f g).sum = f c := by
  induction l with
  | nil => cases hc
  | cons g l ih =>
    have h1 := List.nodup_cons.mp h
    rw [List.map_cons, List.sum_cons]
    have hz : ∀ l : List Nat, c ∉ l → (l.map fun g => (if c = g then 1 else 0) * f g).sum = 0 := by
      intro l hl
      induction l with
      | nil => rfl
      | cons y l ih =>
        rw [List.map_cons, List.sum_cons, ih (fun z => hl (List.mem_cons_of_mem _ z)), if_neg (fun z => hl (by rw [z]; exact List.mem_cons_self ..)), Nat.zero_mul]
    by_cases e : c = g
    · subst e
      rw [if_pos rfl, hz l h1.1]; omega
    · rw [if_neg e, ih h1.2 ((List.mem_cons.mp hc).resolve_left e)]; omega
theorem sum_mul_add (l : List Nat) (a b f : Nat → Nat) : (l.map fun g => (a g + b g) * f g).sum =
    (l.map fun g => a g * f g).sum + (l.map fun g => b g * f g).sum := by
  induction l with
  | nil => rfl
  | cons x l ih =>
    rw [List.map_cons, List.sum_cons, ih, List.map_cons, List.sum_cons, List.map_cons, List.sum_cons, Nat.add_mul]; omega
theorem cnt_fsum {l : List Nat} (hl : l.Nodup) (f : Nat → Nat) : ∀ x, (∀ n, n < x → ev n ∈ l) →
    (l.map fun g => ec g x * f g).sum = fsum f x
  | 0, _ => by
    have : ∀ l : List Nat, (l.map fun g => ec g 0 * f g).sum = 0 := by
      intro l
      induction l with
      | nil => rfl
      | cons b l ih => rw [List.map_cons, List.sum_cons, ih, ec_zero]; omega
    exact this _
  | x + 1, h => by
    have e : (fun g => ec g (x + 1) * f g) = fun g => (ec g x + (if ev x = g then 1 else 0)) * f g := by
      funext b; rw [ec_succ b x]
    rw [e, sum_mul_add, cnt_fsum hl f x (fun n hn => h n (by omega)), sum_one hl f (h x (by omega)), fsum_succ]
theorem ec_pos {g x : Nat} : ec g x ≠ 0 ↔ ∃ n, n < x ∧ ev n = g := by
  unfold ec
  constructor
  · intro h
    have : ((List.range x).filter fun n => decide (ev n = g)) ≠ [] := fun z => h (by rw [z]; rfl)
    obtain ⟨n, hn⟩ := List.exists_mem_of_ne_nil _ this
    have := List.mem_filter.mp hn
    exact ⟨n, List.mem_range.mp this.1, by simpa using this.2⟩
  · rintro ⟨n, h1, h2⟩ z
    have : n ∈ (List.range x).filter fun n => decide (ev n = g) :=
      List.mem_filter.mpr ⟨List.mem_range.mpr h1, by simpa using h2⟩
    rw [List.length_eq_zero_iff.mp z] at this
    cases this
theorem Cnt.all {m : List (Nat × Nat)} {x : Nat} (h : Cnt m x) : ∀ n, n < x → ev n ∈ m.map (·.1) := by
  intro n hn
  exact dget_mem (by rw [h.get]; exact ec_pos.mpr ⟨n, hn, rfl⟩)
theorem Cnt.sum {m : List (Nat × Nat)} {x : Nat} (h : Cnt m x) (f : Nat → Nat) :
    ((m.map (·.1)).map fun g => dget m g 0 * f g).sum = fsum f x := by
  rw [← cnt_fsum h.nd f x h.all]
  congr 1
  exact List.map_congr_left fun g _ => by rw [h.get]
/-- the sums of three steps of each -/
def put3 (m : List (Nat × Nat)) (acc : List (Nat × Nat)) (h : Nat) : List (Nat × Nat) :=
  (List.range 3).foldl (fun a s => om1 a (led h s, dget m h 0)) acc
theorem om1_dget (acc : List (Nat × Nat)) (p : Nat × Nat) (h : Nat) :
    dget (om1 acc p) h 0 = dget acc h 0 + (if p.1 = h then p.2 else 0) := by
  have := om1_get [p] acc h
  simp only [List.foldl_cons, List.foldl_nil] at this
  rw [this]
  congr 1
  by_cases e : p.1 = h <;> simp [e]
def hits (h g : Nat) : Nat := (if led h 0 = g then 1 else 0) + (if led h 1 = g then 1 else 0) + (if led h 2 = g then 1 else 0)
theorem put3_get (m acc : List (Nat × Nat)) (h g : Nat) : dget (put3 m acc h) g 0 = dget acc g 0 + dget m h 0 * hits h g := by
  show dget (om1 (om1 (om1 acc (led h 0, _)) (led h 1, _)) (led h 2, _)) g 0 = _
  rw [om1_dget, om1_dget, om1_dget]
  unfold hits
  rw [Nat.mul_add, Nat.mul_add]
  dsimp only
  repeat' split
  all_goals omega
theorem put3_nodup {m acc : List (Nat × Nat)} {h : Nat} (hn : (acc.map (·.1)).Nodup) : ((put3 m acc h).map (·.1)).Nodup := by
  have := om1_nodup ((List.range 3).map fun s => (led h s, dget m h 0)) acc hn
  rwa [List.foldl_map] at this
theorem fold3_get (m : List (Nat × Nat)) (g : Nat) : ∀ (l : List Nat) (acc : List (Nat × Nat)),
    dget (l.foldl (put3 m) acc) g 0 = dget acc g 0 + (l.map fun h => dget m h 0 * hits h g).sum
  | [], acc => rfl
  | h :: l, acc => by
    rw [List.foldl_cons, fold3_get m g l, put3_get, List.map_cons, List.sum_cons]; omega
theorem fold3_nodup (m : List (Nat × Nat)) : ∀ (l : List Nat) (acc : List (Nat × Nat)), (acc.map (·.1)).Nodup →
    ((l.foldl (put3 m) acc).map (·.1)).Nodup
  | [], _, h => h
  | x :: l, acc, h => fold3_nodup m l _ (put3_nodup h)
theorem put3_keys (m acc : List (Nat × Nat)) (h x : Nat) (hx : x ∈ (put3 m acc h).map (·.1)) :
    x ∈ acc.map (·.1) ∨ ∃ s, s < 3 ∧ x = led h s := by
  have e : put3 m acc h = ((List.range 3).map fun s => (led h s, dget m h 0)).foldl om1 acc := by
    rw [List.foldl_map]; rfl
  rw [e] at hx
  rcases (om1_keys _ acc x).mp hx with z | z
  · exact .inl z
  · refine .inr ?_
    rw [List.map_map] at z
    obtain ⟨s, hs, rfl⟩ := List.mem_map.mp z
    exact ⟨s, List.mem_range.mp hs, rfl⟩
theorem fold3_keys (m : List (Nat × Nat)) (x : Nat) : ∀ (l : List Nat) (acc : List (Nat × Nat)),
    x ∈ (l.foldl (put3 m) acc).map (·.1) → x ∈ acc.map (·.1) ∨ ∃ h ∈ l, ∃ s, s < 3 ∧ x = led h s
  | [], _, h => .inl h
  | h :: l, acc, hx => by
    rw [List.foldl_cons] at hx
    rcases fold3_keys m x l _ hx with z | ⟨y, hy, s, hs, e⟩
    · rcases put3_keys m acc h x z with z | ⟨s, hs, e⟩
      · exact .inl z
      · exact .inr ⟨h, List.mem_cons_self .., s, hs, e⟩
    · exact .inr ⟨y, List.mem_cons_of_mem _ hy, s, hs, e⟩
theorem fsum_three (g : Nat) : ∀ x, fsum (fun h => hits h g) x = ec g (3 * x)
  | 0 => rfl
  | x + 1 => by
    rw [fsum_succ, fsum_three g x, show 3 * (x + 1) = 3 * x + 2 + 1 by omega, ec_succ, ec_succ, ec_succ,
      ev_step x 2 (by decide), ev_step x 1 (by decide)]
    have : ev (3 * x) = led (ev x) 0 := ev_step x 0 (by decide)
    rw [this]
    unfold hits
    omega
theorem Cnt.step {m : List (Nat × Nat)} {x : Nat} (h : Cnt m x) : Cnt ((m.map (·.1)).foldl (put3 m) []) (3 * x) :=
  ⟨fold3_nodup m _ [] List.nodup_nil, fun g => by
    rw [fold3_get, h.sum (fun h => hits h g), fsum_three]
    show 0 + _ = _
    omega⟩
theorem dput_len (m : List (Nat × Nat)) (k v : Nat) : (dput m k v).length ≤ m.length + 1 := by
  induction m with
  | nil => exact Nat.le_refl _
  | cons p r ih => unfold dput; split <;> simp <;> omega
theorem put3_len (m acc : List (Nat × Nat)) (h : Nat) : (put3 m acc h).length ≤ acc.length + 3 := by
  have e : put3 m acc h = om1 (om1 (om1 acc (led h 0, dget m h 0)) (led h 1, dget m h 0)) (led h 2, dget m h 0) := rfl
  rw [e]
  have h1 : ∀ acc p, (om1 acc p).length ≤ acc.length + 1 := fun acc p => dput_len _ _ _
  have a1 := h1 acc (led h 0, dget m h 0)
  have a2 := h1 (om1 acc (led h 0, dget m h 0)) (led h 1, dget m h 0)
  have a3 := h1 (om1 (om1 acc (led h 0, dget m h 0)) (led h 1, dget m h 0)) (led h 2, dget m h 0)
  omega
theorem fold3_len (m : List (Nat × Nat)) : ∀ (l : List Nat) (acc : List (Nat × Nat)),
    (l.foldl (put3 m) acc).length ≤ acc.length + 3 * l.length
  | [], _ => Nat.le_add_right _ _
  | x :: l, acc => by
    have h1 := fold3_len m l (put3 m acc x)
    have h2 := put3_len m acc x
    rw [List.foldl_cons, List.length_cons]
    omega
theorem cnt_one : Cnt [(0, 1)] 1 := by
  refine ⟨by simp, fun g => ?_⟩
  rw [ec_succ, ec_zero, ev_zero]
  by_cases e : 0 = g
  · subst e; rfl
  · rw [if_neg e]
    unfold dget dlk
    rw [if_neg e]; rfl
theorem ec0_pow : ∀ k, ec 0 (3 ^ k) = 2 ^ k
  | 0 => (cnt_one.get 0).symm
  | k + 1 => by
    rw [show 3 ^ (k + 1) = 3 * 3 ^ k by rw [Nat.pow_succ, Nat.mul_comm], ec_three]
    show ec 0 (3 ^ k) + ec 0 (3 ^ k) = _
    rw [ec0_pow k, Nat.pow_succ]; omega
end My

namespace My
/-! ### for each lesser book a step -/
theorem ev_up (n : Nat) : ev (n + 1) ≤ ev n + 1 := by
  induction n using Nat.strongRecOn with
  | ind n ih =>
    have e1 := ev_div n
    have e2 := ev_div (n + 1)
    rcases Nat.lt_or_ge (n % 3) 2 with h | h
    · have h1 : (n + 1) / 3 = n / 3 := by omega
      have h2 : (n + 1) % 3 = n % 3 + 1 := by omega
      rw [h1, h2] at e2
      rw [e1, e2]; unfold led; omega
    · have h1 : (n + 1) / 3 = n / 3 + 1 := by omega
      have h2 : (n + 1) % 3 = 0 := by omega
      have h3 : n % 3 = 2 := by omega
      rw [h1, h2] at e2
      rw [h3] at e1
      have := ih (n / 3) (by omega)
      rw [e1, e2]; unfold led; omega
theorem ev_at {n m s : Nat} (h : n = 3 * m + s) (hs : s < 3) {b : Nat} (hb : led (ev m) s = b) : ev n = b := by
  rw [h, ev_step m s hs, hb]
theorem ev_both (n : Nat) : (∀ b, b ≤ ev n → ∃ d, 2 * d ≤ n ∧ ev (n - d) = b ∧ ev (n - 2 * d) = b) ∧
    (∀ h, h + 1 ≤ ev n → ∃ d, 2 * d + 1 ≤ n ∧ ev (n - d) = h + 1 ∧ ev (n - 2 * d - 1) = h) := by
  induction n using Nat.strongRecOn with
  | ind n ih =>
    rcases Nat.eq_zero_or_pos n with h0 | h0
    · subst h0
      refine ⟨fun b hb => ⟨0, by omega, ?_, ?_⟩, fun h hh => ?_⟩
      · rw [ev_zero] at *; omega
      · rw [ev_zero] at *; omega
      · rw [ev_zero] at hh; omega
    obtain ⟨m, s, hs, en⟩ : ∃ m s, s < 3 ∧ n = 3 * m + s := ⟨n / 3, n % 3, by omega, by omega⟩
    have hm : m < n := by omega
    have A := (ih m hm).1
    have B := (ih m hm).2
    have ee : ev n = led (ev m) s := ev_at en hs rfl
    -- (A) of the number ahead
    have A1 : ∀ k, k + 1 ≤ ev m → ∃ d, 2 * d + 1 ≤ m ∧ ev (m - d - 1) = k ∧ ev (m - 2 * d - 1) = k := by
      intro k hk
      rcases Nat.eq_zero_or_pos m with z | z
      · subst z; rw [ev_zero] at hk; omega
      · have u := ev_up (m - 1)
        rw [show m - 1 + 1 = m by omega] at u
        obtain ⟨d, d1, d2, d3⟩ := (ih (m - 1) (by omega)).1 k (by omega)
        exact ⟨d, by omega, by rw [show m - d - 1 = m - 1 - d by omega]; exact d2, by rw [show m - 2 * d - 1 = m - 1 - 2 * d by omega]; exact d3⟩
    constructor
    · intro b hb
      rw [ee] at hb
      rcases Nat.lt_or_ge b (led (ev m) s) with hlt | hge
      rotate_left
      · exact ⟨0, by omega, by rw [Nat.sub_zero, ee]; omega, by rw [Nat.mul_zero, Nat.sub_zero, ee]; omega⟩
      -- heads of b
      have hk : ∀ k t, t < 3 → led k t = b → s = t → ∃ d, 2 * d ≤ n ∧ ev (n - d) = b ∧ ev (n - 2 * d) = b := by
        rintro k t ht e rfl
        obtain ⟨d, d1, d2, d3⟩ := A k (by unfold led at *; omega)
        exact ⟨3 * d, by omega, ev_at (m := m - d) (s := s) (by omega) ht (by rw [d2]; exact e), ev_at (m := m - 2 * d) (s := s) (by omega) ht (by rw [d3]; exact e)⟩
      have hr : 2 * b = 3 * (2 * b / 3) + 2 * b % 3 := by omega
      generalize hk0 : 2 * b / 3 = k at hr
      have h3 : 2 * b % 3 < 3 := by omega
      generalize 2 * b % 3 = r at hr h3
      rcases (show r = 0 ∨ r = 1 ∨ r = 2 by omega) with rfl | rfl | rfl
      · have l0 : led k 0 = b := by unfold led; omega
        have l1 : led k 1 = b := by unfold led; omega
        rcases (show s = 0 ∨ s = 1 ∨ s = 2 by omega) with z | z | z
        · exact hk k 0 (by omega) l0 z
        · exact hk k 1 (by omega) l1 z
        · subst z
          obtain ⟨d, d1, d2, d3⟩ := A k (by unfold led at *; omega)
          exact ⟨3 * d + 1, by omega, ev_at (m := m - d) (s := 1) (by omega) (by omega) (by rw [d2]; exact l1), ev_at (m := m - 2 * d) (s := 0) (by omega) (by omega) (by rw [d3]; exact l0)⟩
      · have l1 : led k 1 = b := by unfold led; omega
        have l2 : led k 2 = b := by unfold led; omega
        rcases (show s = 0 ∨ s = 1 ∨ s = 2 by omega) with z | z | z
        · subst z
          obtain ⟨d, d1, d2, d3⟩ := A1 k (by unfold led at *; omega)
          exact ⟨3 * d + 1, by omega, ev_at (m := m - d - 1) (s := 2) (by omega) (by omega) (by rw [d2]; exact l2), ev_at (m := m - 2 * d - 1) (s := 1) (by omega) (by omega) (by rw [d3]; exact l1)⟩
        · exact hk k 1 (by omega) l1 z
        · exact hk k 2 (by omega) l2 z
      · have l2 : led k 2 = b := by unfold led; omega
        have l0 : led (k + 1) 0 = b := by unfold led; omega
        rcases (show s = 0 ∨ s = 1 ∨ s = 2 by omega) with z | z | z
        · exact hk (k + 1) 0 (by omega) l0 z
        · subst z
          obtain ⟨d, d1, d2, d3⟩ := B k (by unfold led at *; omega)
          exact ⟨3 * d + 1, by omega, ev_at (m := m - d) (s := 0) (by omega) (by omega) (by rw [d2]; exact l0), ev_at (m := m - 2 * d - 1) (s := 2) (by omega) (by omega) (by rw [d3]; exact l2)⟩
        · exact hk k 2 (by omega) l2 z
    · intro h hh
      rw [ee] at hh
      have hr : 2 * h = 3 * (2 * h / 3) + 2 * h % 3 := by omega
      generalize hk0 : 2 * h / 3 = k at hr
      have h3 : 2 * h % 3 < 3 := by omega
      generalize 2 * h % 3 = r at hr h3
      rcases (show r = 0 ∨ r = 1 ∨ r = 2 by omega) with rfl | rfl | rfl
      · have l0 : led k 0 = h := by unfold led; omega
        have l1 : led k 1 = h := by unfold led; omega
        have u2 : led k 2 = h + 1 := by unfold led; omega
        have u0 : led (k + 1) 0 = h + 1 := by unfold led; omega
        rcases (show s = 0 ∨ s = 1 ∨ s = 2 by omega) with z | z | z
        · subst z
          obtain ⟨d, d1, d2, d3⟩ := A1 k (by unfold led at *; omega)
          exact ⟨3 * d + 1, by omega, ev_at (m := m - d - 1) (s := 2) (by omega) (by omega) (by rw [d2]; exact u2), ev_at (m := m - 2 * d - 1) (s := 0) (by omega) (by omega) (by rw [d3]; exact l0)⟩
        · subst z
          obtain ⟨d, d1, d2, d3⟩ := B k (by unfold led at *; omega)
          exact ⟨3 * d + 1, by omega, ev_at (m := m - d) (s := 0) (by omega) (by omega) (by rw [d2]; exact u0), ev_at (m := m - 2 * d - 1) (s := 1) (by omega) (by omega) (by rw [d3]; exact l1)⟩
        · subst z
          obtain ⟨d, d1, d2, d3⟩ := A k (by unfold led at *; omega)
          exact ⟨3 * d, by omega, ev_at (m := m - d) (s := 2) (by omega) (by omega) (by rw [d2]; exact u2), ev_at (m := m - 2 * d) (s := 1) (by omega) (by omega) (by rw [d3]; exact l1)⟩
      · have l1 : led k 1 = h := by unfold led; omega
        have l2 : led k 2 = h := by unfold led; omega
        have u0 : led (k + 1) 0 = h + 1 := by unfold led; omega
        have u1 : led (k + 1) 1 = h + 1 := by unfold led; omega
        obtain ⟨d, d1, d2, d3⟩ := B k (by unfold led at *; omega)
        rcases (show s = 0 ∨ s = 1 ∨ s = 2 by omega) with z | z | z
        · subst z
          exact ⟨3 * d, by omega, ev_at (m := m - d) (s := 0) (by omega) (by omega) (by rw [d2]; exact u0), ev_at (m := m - 2 * d - 1) (s := 2) (by omega) (by omega) (by rw [d3]; exact l2)⟩
        · subst z
          exact ⟨3 * d + 1, by omega, ev_at (m := m - d) (s := 0) (by omega) (by omega) (by rw [d2]; exact u0), ev_at (m := m - 2 * d - 1) (s := 1) (by omega) (by omega) (by rw [d3]; exact l1)⟩
        · subst z
          exact ⟨3 * d + 1, by omega, ev_at (m := m - d) (s := 1) (by omega) (by omega) (by rw [d2]; exact u1), ev_at (m := m - 2 * d - 1) (s := 2) (by omega) (by omega) (by rw [d3]; exact l2)⟩
      · have l2 : led k 2 = h := by unfold led; omega
        have l0 : led (k + 1) 0 = h := by unfold led; omega
        have u1 : led (k + 1) 1 = h + 1 := by unfold led; omega
        have u2 : led (k + 1) 2 = h + 1 := by unfold led; omega
        rcases (show s = 0 ∨ s = 1 ∨ s = 2 by omega) with z | z | z
        · subst z
          obtain ⟨d, d1, d2, d3⟩ := A1 (k + 1) (by unfold led at *; omega)
          exact ⟨3 * d + 1, by omega, ev_at (m := m - d - 1) (s := 2) (by omega) (by omega) (by rw [d2]; exact u2), ev_at (m := m - 2 * d - 1) (s := 0) (by omega) (by omega) (by rw [d3]; exact l0)⟩
        · subst z
          obtain ⟨d, d1, d2, d3⟩ := A (k + 1) (by unfold led at *; omega)
          exact ⟨3 * d, by omega, ev_at (m := m - d) (s := 1) (by omega) (by omega) (by rw [d2]; exact u1), ev_at (m := m - 2 * d) (s := 0) (by omega) (by omega) (by rw [d3]; exact l0)⟩
        · subst z
          obtain ⟨d, d1, d2, d3⟩ := B k (by unfold led at *; omega)
          exact ⟨3 * d + 1, by omega, ev_at (m := m - d) (s := 1) (by omega) (by omega) (by rw [d2]; exact u1), ev_at (m := m - 2 * d - 1) (s := 2) (by omega) (by omega) (by rw [d3]; exact l2)⟩
/-- a step of a number for a book -/
def isSt (n b d : Nat) : Prop := 1 ≤ d ∧ 2 * d ≤ n ∧ ev (n - d) = b ∧ ev (n - 2 * d) = b
instance (n b d : Nat) : Decidable (isSt n b d) := by unfold isSt; infer_instance
theorem step_ex {n b : Nat} (h : b < ev n) : ∃ d, isSt n b d := by
  obtain ⟨d, h1, h2, h3⟩ := (ev_both n).1 b (by omega)
  refine ⟨d, ?_, h1, h2, h3⟩
  rcases Nat.eq_zero_or_pos d with z | z
  · subst z; rw [Nat.sub_zero] at h2; omega
  · exact z
theorem step_own (n d : Nat) : ¬ isSt n (ev n) d := by
  rintro ⟨h1, h2, h3, h4⟩
  refine ev_ap (n - 2 * d) d h1 ⟨?_, ?_⟩
  · rw [show n - 2 * d + d = n - d by omega, h3, h4]
  · rw [show n - 2 * d + d = n - d by omega, h3, show n - 2 * d + 2 * d = n by omega]
/-- the least book that no step bars -/
theorem ev_mex {n r : Nat} (h1 : ∀ d, ¬ isSt n r d) (h2 : ∀ b, b < r → ∃ d, isSt n b d) : r = ev n := by
  rcases Nat.lt_trichotomy r (ev n) with h | h | h
  · obtain ⟨d, hd⟩ := step_ex h
    exact absurd hd (h1 d)
  · exact h
  · obtain ⟨d, hd⟩ := h2 _ h
    exact absurd hd (step_own n d)
end My

namespace My
/-! ### steps, sign by sign -/
abbrev S4 := Nat × Nat × Nat × Nat
abbrev T3 := Nat × Nat × Nat
def hds (b : Nat) : List (Nat × Nat) := [(2 * b % 3, 2 * b / 3), ((2 * b + 1) % 3, (2 * b + 1) / 3)]
theorem hds_nodup (b : Nat) : ((hds b).map (·.1)).Nodup := by
  simp [hds]; omega
theorem hds_iff {b s h : Nat} : dlk (hds b) s = some h ↔ s < 3 ∧ led h s = b := by
  unfold hds dlk dlk dlk led
  by_cases h1 : 2 * b % 3 = s
  · rw [if_pos h1]
    constructor
    · intro e; have := Option.some.inj e; omega
    · intro ⟨e1, e2⟩; congr 1; omega
  · rw [if_neg h1]
    by_cases h2 : (2 * b + 1) % 3 = s
    · rw [if_pos h2]
      constructor
      · intro e; have := Option.some.inj e; omega
      · intro ⟨e1, e2⟩; congr 1; omega
    · rw [if_neg h2]
      constructor
      · intro e; cases e
      · intro ⟨e1, e2⟩
        rcases (show 3 * h + s = 2 * b ∨ 3 * h + s = 2 * b + 1 by omega) with z | z
        · exact absurd (show 2 * b % 3 = s by omega) h1
        · exact absurd (show (2 * b + 1) % 3 = s by omega) h2
/-- one sign more: the number's sign, the step's own -/
def sgA (sign own t : Nat) : Nat := (sign + 3 - own - t) % 3
def cyA (sign own t : Nat) : Nat := (own + t + sgA sign own t - sign) / 3
def sgB (sign own w : Nat) : Nat := (sign + 6 - 2 * own - w) % 3
def cyB (sign own w : Nat) : Nat := (2 * own + w + sgB sign own w - sign) / 3
theorem cyA_eq {sign own t : Nat} (h1 : sign < 3) (h2 : own < 3) (h3 : t ≤ 1) :
    sign + 3 * cyA sign own t = own + t + sgA sign own t ∧ cyA sign own t ≤ 1 ∧ sgA sign own t < 3 := by
  unfold cyA sgA; omega
theorem cyB_eq {sign own w : Nat} (h1 : sign < 3) (h2 : own < 3) (h3 : w ≤ 2) :
    sign + 3 * cyB sign own w = 2 * own + w + sgB sign own w ∧ cyB sign own w ≤ 2 ∧ sgB sign own w < 3 := by
  unfold cyB sgB; omega
def nxt (sign : Nat) (st : S4) (own : Nat) : Option S4 :=
  match dlk (hds st.2.2.1) (sgA sign own st.1), dlk (hds st.2.2.2) (sgB sign own st.2.1) with
  | some x, some y => some (cyA sign own st.1, cyB sign own st.2.1, x, y)
  | _, _ => none
theorem nxt_iff {sign own : Nat} {st st' : S4} : nxt sign st own = some st' ↔
    st'.1 = cyA sign own st.1 ∧ st'.2.1 = cyB sign own st.2.1 ∧
    dlk (hds st.2.2.1) (sgA sign own st.1) = some st'.2.2.1 ∧ dlk (hds st.2.2.2) (sgB sign own st.2.1) = some st'.2.2.2 := by
  obtain ⟨t', w', b', c'⟩ := st'
  unfold nxt
  cases dlk (hds st.2.2.1) (sgA sign own st.1) <;> cases dlk (hds st.2.2.2) (sgB sign own st.2.1) <;>
    simp [Prod.ext_iff, eq_comm]
/-- the last k signs of a step lead to a state -/
def SS (n B : Nat) : Nat → S4 → Nat → Prop
  | 0, st, d => st = (0, 0, B, B) ∧ d = 0
  | k + 1, st', d' => ∃ st own d, own < 3 ∧ nxt (n / 3 ^ k % 3) st own = some st' ∧ SS n B k st d ∧ d' = d + own * 3 ^ k
theorem mul3 (a P : Nat) : a * (3 * P) = 3 * a * P := by rw [← Nat.mul_assoc, Nat.mul_comm a 3]
theorem pow3 (k : Nat) : 3 ^ (k + 1) = 3 * 3 ^ k := by rw [Nat.pow_succ, Nat.mul_comm]
theorem SS_bd {n B : Nat} : ∀ {k : Nat} {st : S4} {d : Nat}, SS n B k st d → d < 3 ^ k ∧ st.1 ≤ 1 ∧ st.2.1 ≤ 2
  | 0, st, d, ⟨h1, h2⟩ => by subst h1 h2; exact ⟨by decide, Nat.zero_le _, Nat.zero_le _⟩
  | k + 1, st', d', ⟨st, own, d, h1, h2, h3, h4⟩ => by
    obtain ⟨g1, g2, g3⟩ := SS_bd h3
    obtain ⟨e1, e2, e3, e4⟩ := nxt_iff.mp h2
    have a := (cyA_eq (sign := n / 3 ^ k % 3) (Nat.mod_lt _ (by decide)) h1 g2).2.1
    have b := (cyB_eq (sign := n / 3 ^ k % 3) (Nat.mod_lt _ (by decide)) h1 g3).2.1
    refine ⟨?_, by omega, by omega⟩
    rw [pow3, h4]
    have : own * 3 ^ k ≤ 2 * 3 ^ k := Nat.mul_le_mul_right _ (by omega)
    omega
theorem split_uniq {p a b c d : Nat} (ha : a < p) (hc : c < p) (h : a + b * p = c + d * p) : a = c ∧ b = d := by
  have h1 : (a + b * p) % p = a := by rw [Nat.add_mul_mod_self_right, Nat.mod_eq_of_lt ha]
  have h2 : (c + d * p) % p = c := by rw [Nat.add_mul_mod_self_right, Nat.mod_eq_of_lt hc]
  have e : a = c := by rw [← h1, ← h2, h]
  subst e
  have : b * p = d * p := by omega
  exact ⟨rfl, Nat.eq_of_mul_eq_mul_right (by omega) this⟩
theorem SS_fun {n B : Nat} : ∀ {k : Nat} {st st2 : S4} {d : Nat}, SS n B k st d → SS n B k st2 d → st = st2
  | 0, st, st2, d, ⟨h1, _⟩, ⟨h2, _⟩ => by rw [h1, h2]
  | k + 1, st', st2', d', ⟨st, own, d, h1, h2, h3, h4⟩, ⟨st2, own2, d2, g1, g2, g3, g4⟩ => by
    obtain ⟨e1, e2⟩ := split_uniq (SS_bd h3).1 (SS_bd g3).1 (h4.symm.trans g4)
    subst e1 e2
    have e := SS_fun h3 g3
    subst e
    exact Option.some.inj (h2.symm.trans g2)
/-- from a head's book by k signs -/
def run (h : Nat) : Nat → Nat → Nat
  | 0, _ => h
  | k + 1, x => run (led h (x / 3 ^ k % 3)) k (x % 3 ^ k)
theorem run_ev : ∀ (k y x : Nat), x < 3 ^ k → run (ev y) k x = ev (y * 3 ^ k + x)
  | 0, y, x, h => by
    have : x = 0 := by simpa using h
    subst this
    show ev y = ev (y * 1 + 0)
    rw [Nat.mul_one, Nat.add_zero]
  | k + 1, y, x, h => by
    have hp : 0 < 3 ^ k := Nat.pos_of_ne_zero (by simp)
    have h3 : x / 3 ^ k < 3 := by
      rw [pow3] at h
      exact Nat.div_lt_of_lt_mul (by rw [Nat.mul_comm]; exact h)
    show run (led (ev y) (x / 3 ^ k % 3)) k (x % 3 ^ k) = _
    rw [Nat.mod_eq_of_lt h3, ← ev_step y _ h3, run_ev k _ _ (Nat.mod_lt _ hp)]
    congr 1
    have := Nat.div_add_mod x (3 ^ k)
    rw [pow3, Nat.add_mul]
    have e1 : 3 * y * 3 ^ k = y * (3 * 3 ^ k) := by rw [Nat.mul_comm 3 y, Nat.mul_assoc]
    have e2 : x / 3 ^ k * 3 ^ k = 3 ^ k * (x / 3 ^ k) := Nat.mul_comm ..
    omega
theorem led_surj (b : Nat) {s : Nat} : ∀ h h', led h s = b → led h' s = b → h = h' := fun _ _ h1 h2 => led_inj (h1.trans h2.symm)
structure DD (n B k : Nat) (st : S4) (d : Nat) : Prop where
  ex : d < 3 ^ k ∧ ∃ r1 r2, r1 < 3 ^ k ∧ r2 < 3 ^ k ∧ n % 3 ^ k + st.1 * 3 ^ k = d + r1 ∧
    n % 3 ^ k + st.2.1 * 3 ^ k = 2 * d + r2 ∧ run st.2.2.1 k r1 = B ∧ run st.2.2.2 k r2 = B
theorem mod_pow (n k : Nat) : n % 3 ^ (k + 1) = n % 3 ^ k + n / 3 ^ k % 3 * 3 ^ k := by
  rw [Nat.pow_succ, Nat.mod_mul, Nat.mul_comm (3 ^ k)]
theorem run_top (h k : Nat) {s r : Nat} (hr : r < 3 ^ k) (hs : s < 3) : run h (k + 1) (r + s * 3 ^ k) = run (led h s) k r := by
  have hp : 0 < 3 ^ k := Nat.pos_of_ne_zero (by simp)
  show run (led h ((r + s * 3 ^ k) / 3 ^ k % 3)) k ((r + s * 3 ^ k) % 3 ^ k) = _
  rw [Nat.add_mul_mod_self_right, Nat.mod_eq_of_lt hr, Nat.add_mul_div_right _ _ hp, Nat.div_eq_of_lt hr, Nat.zero_add, Nat.mod_eq_of_lt hs]
theorem SS_DD {n B : Nat} : ∀ {k : Nat} {st : S4} {d : Nat}, SS n B k st d → DD n B k st d
  | 0, st, d, ⟨h1, h2⟩ => by
    subst h1 h2
    exact ⟨by decide, 0, 0, by decide, by decide, by simp [Nat.mod_one], by simp [Nat.mod_one], rfl, rfl⟩
  | k + 1, st', d', ⟨st, own, d, h1, h2, h3, h4⟩ => by
    obtain ⟨g1, g2, g3⟩ := SS_bd h3
    obtain ⟨e1, e2, e3, e4⟩ := nxt_iff.mp h2
    obtain ⟨_, r1, r2, a1, a2, a3, a4, a5, a6⟩ := (SS_DD h3).ex
    have hs : n / 3 ^ k % 3 < 3 := Nat.mod_lt _ (by decide)
    obtain ⟨c1, c2, c3⟩ := cyA_eq hs h1 g2
    obtain ⟨f1, f2, f3⟩ := cyB_eq hs h1 g3
    obtain ⟨_, k1⟩ := hds_iff.mp e3
    obtain ⟨_, k2⟩ := hds_iff.mp e4
    rw [← e1] at c1; rw [← e2] at f1
    refine ⟨(SS_bd (k := k + 1) ⟨st, own, d, h1, h2, h3, h4⟩).1, r1 + sgA (n / 3 ^ k % 3) own st.1 * 3 ^ k, r2 + sgB (n / 3 ^ k % 3) own st.2.1 * 3 ^ k, ?_, ?_, ?_, ?_, ?_, ?_⟩
    · rw [pow3]
      have : sgA (n / 3 ^ k % 3) own st.1 * 3 ^ k ≤ 2 * 3 ^ k := Nat.mul_le_mul_right _ (by omega)
      omega
    · rw [pow3]
      have : sgB (n / 3 ^ k % 3) own st.2.1 * 3 ^ k ≤ 2 * 3 ^ k := Nat.mul_le_mul_right _ (by omega)
      omega
    · have m := congrArg (· * 3 ^ k) c1
      rw [Nat.add_mul, Nat.add_mul, Nat.add_mul] at m
      rw [mod_pow, h4, pow3, mul3 st'.1]
      omega
    · have m := congrArg (· * 3 ^ k) f1
      rw [Nat.add_mul, Nat.add_mul, Nat.add_mul] at m
      rw [mod_pow, h4, pow3, mul3 st'.2.1]
      have : 2 * (d + own * 3 ^ k) = 2 * d + 2 * own * 3 ^ k := by rw [Nat.mul_add, Nat.mul_assoc]
      omega
    · rw [run_top _ _ a1 c3, k1, a5]
    · rw [run_top _ _ a2 f3, k2, a6]
theorem DD_SS {n B : Nat} : ∀ {k : Nat} {st : S4} {d : Nat}, st.1 ≤ 1 → st.2.1 ≤ 2 → DD n B k st d → SS n B k st d
  | 0, st, d, _, _, ⟨⟨h1, r1, r2, a1, a2, a3, a4, a5, a6⟩⟩ => by
    obtain ⟨t, w, b, c⟩ := st
    simp only [Nat.pow_zero] at *
    have e1 : t = 0 := by omega
    have e2 : w = 0 := by omega
    have e3 : b = B := a5
    have e4 : c = B := a6
    subst e1 e2 e3
    exact ⟨by rw [e4], by omega⟩
  | k + 1, st', d', b1, b2, ⟨⟨h1, r1, r2, a1, a2, a3, a4, a5, a6⟩⟩ => by
    have hp : 0 < 3 ^ k := Nat.pos_of_ne_zero (by simp)
    generalize hP : 3 ^ k = P at *
    rw [mod_pow, hP, pow3, hP] at a3 a4
    rw [pow3, hP] at h1 a1 a2
    have hs : n / P % 3 < 3 := Nat.mod_lt _ (by decide)
    have hr : n % P < P := Nat.mod_lt _ hp
    -- the parts
    obtain ⟨d, own, hd, ho, ed⟩ : ∃ d own, d < P ∧ own < 3 ∧ d' = d + own * P :=
      ⟨d' % P, d' / P, Nat.mod_lt _ hp, Nat.div_lt_of_lt_mul (by rw [Nat.mul_comm]; exact h1), by have := Nat.div_add_mod d' P; rw [Nat.mul_comm] at this; omega⟩
    obtain ⟨x1, s1, hx1, hs1, ex1⟩ : ∃ x s, x < P ∧ s < 3 ∧ r1 = x + s * P :=
      ⟨r1 % P, r1 / P, Nat.mod_lt _ hp, Nat.div_lt_of_lt_mul (by rw [Nat.mul_comm]; exact a1), by have := Nat.div_add_mod r1 P; rw [Nat.mul_comm] at this; omega⟩
    obtain ⟨x2, s2, hx2, hs2, ex2⟩ : ∃ x s, x < P ∧ s < 3 ∧ r2 = x + s * P :=
      ⟨r2 % P, r2 / P, Nat.mod_lt _ hp, Nat.div_lt_of_lt_mul (by rw [Nat.mul_comm]; exact a2), by have := Nat.div_add_mod r2 P; rw [Nat.mul_comm] at this; omega⟩
    generalize hz : n / P % 3 = z at *
    generalize hrn : n % P = r at *
    -- the carries
    obtain ⟨t, ht, et⟩ : ∃ t, t ≤ 1 ∧ r + t * P = d + x1 := by
      have m1 : (d + x1) % P = r := by
        have e : d + x1 + (own + s1) * P = r + (z + 3 * st'.1) * P := by
          rw [Nat.add_mul, Nat.add_mul, ← mul3 st'.1]
          omega
        have e2 := congrArg (· % P) e
        rw [Nat.add_mul_mod_self_right, Nat.add_mul_mod_self_right, Nat.mod_eq_of_lt hr] at e2
        exact e2
      have := Nat.div_add_mod (d + x1) P
      have hlt : (d + x1) / P < 2 := Nat.div_lt_of_lt_mul (by omega)
      exact ⟨(d + x1) / P, by omega, by rw [Nat.mul_comm] at this; omega⟩
    obtain ⟨w, hw, ew⟩ : ∃ w, w ≤ 2 ∧ r + w * P = 2 * d + x2 := by
      have m1 : (2 * d + x2) % P = r := by
        have e : 2 * d + x2 + (2 * own + s2) * P = r + (z + 3 * st'.2.1) * P := by
          have : 2 * (d + own * P) = 2 * d + 2 * own * P := by rw [Nat.mul_add, Nat.mul_assoc]
          rw [Nat.add_mul, Nat.add_mul, ← mul3 st'.2.1]
          omega
        have e2 := congrArg (· % P) e
        rw [Nat.add_mul_mod_self_right, Nat.add_mul_mod_self_right, Nat.mod_eq_of_lt hr] at e2
        exact e2
      have := Nat.div_add_mod (2 * d + x2) P
      have hlt : (2 * d + x2) / P < 3 := Nat.div_lt_of_lt_mul (by omega)
      exact ⟨(2 * d + x2) / P, by omega, by rw [Nat.mul_comm] at this; omega⟩
    -- what the carries tell
    have q1 : z + 3 * st'.1 = own + t + s1 := by
      refine Nat.eq_of_mul_eq_mul_right hp ?_
      rw [Nat.add_mul, Nat.add_mul, Nat.add_mul, ← mul3 st'.1]
      omega
    have q2 : z + 3 * st'.2.1 = 2 * own + w + s2 := by
      refine Nat.eq_of_mul_eq_mul_right hp ?_
      have : 2 * (d + own * P) = 2 * d + 2 * own * P := by rw [Nat.mul_add, Nat.mul_assoc]
      rw [Nat.add_mul, Nat.add_mul, Nat.add_mul, ← mul3 st'.2.1]
      omega
    have hz3 : z < 3 := hs
    obtain ⟨c1, c2, c3⟩ := cyA_eq hz3 ho ht
    obtain ⟨f1, f2, f3⟩ := cyB_eq hz3 ho hw
    have u1 : sgA z own t = s1 ∧ cyA z own t = st'.1 := by omega
    have u2 : sgB z own w = s2 ∧ cyB z own w = st'.2.1 := by omega
    have v1 : run st'.2.2.1 (k + 1) r1 = run (led st'.2.2.1 s1) k x1 := by
      rw [ex1, ← hP]; exact run_top _ _ (by rw [hP]; exact hx1) hs1
    have v2 : run st'.2.2.2 (k + 1) r2 = run (led st'.2.2.2 s2) k x2 := by
      rw [ex2, ← hP]; exact run_top _ _ (by rw [hP]; exact hx2) hs2
    refine ⟨(t, w, led st'.2.2.1 s1, led st'.2.2.2 s2), own, d, ho, ?_, DD_SS ht hw ⟨by rw [hP]; exact hd, x1, x2, by rw [hP]; exact hx1, by rw [hP]; exact hx2, by rw [hP, hrn]; exact et, by rw [hP, hrn]; exact ew, by rw [← v1]; exact a5, by rw [← v2]; exact a6⟩, by rw [hP]; exact ed⟩
    rw [hP, hz]
    exact nxt_iff.mpr ⟨u1.2.symm, u2.2.symm, hds_iff.mpr ⟨c3, by rw [u1.1]⟩, hds_iff.mpr ⟨f3, by rw [u2.1]⟩⟩
/-- all signs: just the steps, 0 beside them -/
theorem SS_end {n B k d : Nat} (hn : n < 3 ^ k) : SS n B k (0, 0, 0, 0) d ↔ 2 * d ≤ n ∧ ev (n - d) = B ∧ ev (n - 2 * d) = B := by
  have e0 : ∀ x, x < 3 ^ k → run 0 k x = ev x := fun x hx => by
    have := run_ev k 0 x hx
    rw [ev_zero, Nat.zero_mul, Nat.zero_add] at this
    exact this
  constructor
  · intro h
    obtain ⟨h1, r1, r2, a1, a2, a3, a4, a5, a6⟩ := (SS_DD h).ex
    rw [Nat.mod_eq_of_lt hn] at a3 a4
    dsimp only at a3 a4 a5 a6
    rw [e0 _ a1] at a5
    rw [e0 _ a2] at a6
    exact ⟨by omega, by rw [show n - d = r1 by omega]; exact a5, by rw [show n - 2 * d = r2 by omega]; exact a6⟩
  · intro ⟨h1, h2, h3⟩
    refine DD_SS (by decide) (by decide) ⟨by omega, n - d, n - 2 * d, by omega, by omega, ?_, ?_, ?_, ?_⟩
    · rw [Nat.mod_eq_of_lt hn]; dsimp only; omega
    · rw [Nat.mod_eq_of_lt hn]; dsimp only; omega
    · rw [← h2]; exact e0 _ (by omega)
    · rw [← h3]; exact e0 _ (by omega)
/-- how many there are, the least, the greatest -/
structure Smm (S : Nat → Prop) (t : T3) : Prop where
  ex : ∃ L : List Nat, L.Nodup ∧ (∀ x, x ∈ L ↔ S x) ∧ L.length = t.1 ∧ S t.2.1 ∧ S t.2.2 ∧ ∀ x, S x → t.2.1 ≤ x ∧ x ≤ t.2.2
theorem Smm.congr {S S' : Nat → Prop} {t : T3} (h : Smm S t) (e : ∀ x, S x ↔ S' x) : Smm S' t := by
  obtain ⟨L, h1, h2, h3, h4, h5, h6⟩ := h.ex
  exact ⟨L, h1, fun x => (h2 x).trans (e x), h3, (e _).mp h4, (e _).mp h5, fun x hx => h6 x ((e x).mpr hx)⟩
def both3 (s t : T3) : T3 := (s.1 + t.1, min s.2.1 t.2.1, max s.2.2 t.2.2)
theorem Smm.both {S S' : Nat → Prop} {s t : T3} (h : Smm S s) (h' : Smm S' t) (dj : ∀ x, S x → ¬ S' x) :
    Smm (fun x => S x ∨ S' x) (both3 s t) := by
  obtain ⟨L, h1, h2, h3, h4, h5, h6⟩ := h.ex
  obtain ⟨M, g1, g2, g3, g4, g5, g6⟩ := h'.ex
  refine ⟨L ++ M, ?_, fun x => ?_, ?_, ?_, ?_, fun x hx => ?_⟩
  · rw [List.nodup_append]
    refine ⟨h1, g1, fun a ha b hb e => ?_⟩
    subst e
    exact dj a ((h2 a).mp ha) ((g2 a).mp hb)
  · rw [List.mem_append, h2, g2]
  · rw [List.length_append, h3, g3]; rfl
  · show S (min _ _) ∨ S' (min _ _)
    rcases Nat.le_total s.2.1 t.2.1 with z | z
    · rw [Nat.min_eq_left z]; exact .inl h4
    · rw [Nat.min_eq_right z]; exact .inr g4
  · show S (max _ _) ∨ S' (max _ _)
    rcases Nat.le_total s.2.2 t.2.2 with z | z
    · rw [Nat.max_eq_right z]; exact .inr g5
    · rw [Nat.max_eq_left z]; exact .inl h5
  · show min _ _ ≤ x ∧ x ≤ max _ _
    rcases hx with z | z
    · have := h6 x z; omega
    · have := g6 x z; omega
theorem Smm.shift {S : Nat → Prop} {s : T3} (h : Smm S s) (c : Nat) :
    Smm (fun x => ∃ d, S d ∧ x = d + c) (s.1, c + s.2.1, c + s.2.2) := by
  obtain ⟨L, h1, h2, h3, h4, h5, h6⟩ := h.ex
  refine ⟨L.map (· + c), ?_, fun x => ?_, by rw [List.length_map]; exact h3, ⟨_, h4, by dsimp only; omega⟩, ⟨_, h5, by dsimp only; omega⟩, ?_⟩
  · show List.Pairwise _ (L.map _)
    rw [List.pairwise_map]
    exact List.Pairwise.imp (fun h e => h (by omega)) h1
  · rw [List.mem_map]
    constructor
    · rintro ⟨d, hd, rfl⟩; exact ⟨d, (h2 d).mp hd, rfl⟩
    · rintro ⟨d, hd, rfl⟩; exact ⟨d, (h2 d).mpr hd, rfl⟩
  · rintro x ⟨d, hd, rfl⟩
    have := h6 d hd
    dsimp only; omega
end My

namespace My
def mput (m : List (S4 × T3)) (st : S4) (t : T3) : List (S4 × T3) :=
  if (m.any fun x => decide (x.1 = st)) = true then m.map fun x => if x.1 = st then (st, t) else x else m ++ [(st, t)]
def mget (m : List (S4 × T3)) (st : S4) : Option T3 := (m.find? fun x => decide (x.1 = st)).map (·.2)
/-! ### one sign more, over all that is found -/
def stp (sign place : Nat) (told : List (S4 × T3)) (e : S4 × T3) (own : Nat) : List (S4 × T3) :=
  match nxt sign e.1 own with
  | none => told
  | some st' => mput told st' (match mget told st' with
    | some t => both3 t (e.2.1, own * place + e.2.2.1, own * place + e.2.2.2)
    | none => (e.2.1, own * place + e.2.2.1, own * place + e.2.2.2))
def osm (sign place : Nat) (m : List (S4 × T3)) : List (S4 × T3) :=
  m.foldl (fun told e => (List.range 3).foldl (fun a own => stp sign place a e own) told) []
theorem mput_len (m : List (S4 × T3)) (st : S4) (t : T3) : (mput m st t).length ≤ m.length + 1 := by
  unfold mput
  split
  · rw [List.length_map]; omega
  · rw [List.length_append]; exact Nat.le_refl _
theorem stp_len (sign place : Nat) (told : List (S4 × T3)) (e : S4 × T3) (own : Nat) : (stp sign place told e own).length ≤ told.length + 1 := by
  unfold stp
  split
  · omega
  · exact mput_len ..
theorem nxt_nA {sign own : Nat} {st : S4} (h : dlk (hds st.2.2.1) (sgA sign own st.1) = none) : nxt sign st own = none := by
  unfold nxt; rw [h]
theorem nxt_nB {sign own : Nat} {st : S4} (h : dlk (hds st.2.2.2) (sgB sign own st.2.1) = none) : nxt sign st own = none := by
  unfold nxt; rw [h]; cases dlk (hds st.2.2.1) (sgA sign own st.1) <;> rfl
theorem stp_none {sign place own : Nat} {told : List (S4 × T3)} {e : S4 × T3} (h : nxt sign e.1 own = none) : stp sign place told e own = told := by
  unfold stp; rw [h]
theorem stp_new {sign place own : Nat} {told : List (S4 × T3)} {e : S4 × T3} {st' : S4} (h : nxt sign e.1 own = some st') (h2 : mget told st' = none) :
    stp sign place told e own = mput told st' (e.2.1, own * place + e.2.2.1, own * place + e.2.2.2) := by
  unfold stp; rw [h]; dsimp only; rw [h2]
theorem stp_old {sign place own : Nat} {told : List (S4 × T3)} {e : S4 × T3} {st' : S4} {t : T3} (h : nxt sign e.1 own = some st') (h2 : mget told st' = some t) :
    stp sign place told e own = mput told st' (both3 t (e.2.1, own * place + e.2.2.1, own * place + e.2.2.2)) := by
  unfold stp; rw [h]; dsimp only; rw [h2]
theorem stp_lenR (sign place : Nat) (e : S4 × T3) : ∀ (own : Nat) (told : List (S4 × T3)),
    ((List.range own).foldl (fun a own => stp sign place a e own) told).length ≤ told.length + own
  | 0, told => Nat.le_refl _
  | own + 1, told => by
    rw [List.range_succ, List.foldl_append]
    have h1 := stp_lenR sign place e own told
    have h2 := stp_len sign place ((List.range own).foldl (fun a own => stp sign place a e own) told) e own
    show (stp _ _ _ _ _).length ≤ _
    omega
theorem osm_len (sign place : Nat) : ∀ (l : List (S4 × T3)) (told : List (S4 × T3)),
    (l.foldl (fun told e => (List.range 3).foldl (fun a own => stp sign place a e own) told) told).length ≤ told.length + 3 * l.length
  | [], told => Nat.le_add_right _ _
  | e :: l, told => by
    rw [List.foldl_cons]
    have h1 := osm_len sign place l ((List.range 3).foldl (fun a own => stp sign place a e own) told)
    have h2 := stp_lenR sign place e 3 told
    rw [List.length_cons]
    omega
theorem mput_keys (m : List (S4 × T3)) (st : S4) (t : T3) (x : S4) : x ∈ (mput m st t).map (·.1) ↔ x ∈ m.map (·.1) ∨ x = st := by
  unfold mput
  split
  · rename_i h
    have e : (m.map fun y => if y.1 = st then (st, t) else y).map (·.1) = m.map (·.1) := by
      rw [List.map_map]
      refine List.map_congr_left fun y _ => ?_
      show (if y.1 = st then (st, t) else y).1 = y.1
      split
      · rename_i z; exact z.symm
      · rfl
    rw [e]
    constructor
    · exact .inl
    · rintro (z | z)
      · exact z
      · obtain ⟨y, hy, e⟩ := List.any_eq_true.mp h
        subst z
        exact List.mem_map.mpr ⟨y, hy, by simpa using e⟩
  · rw [List.map_append, List.mem_append]
    simp
theorem mput_nodup {m : List (S4 × T3)} (h : (m.map (·.1)).Nodup) (st : S4) (t : T3) : ((mput m st t).map (·.1)).Nodup := by
  unfold mput
  split
  · have e : (m.map fun y => if y.1 = st then (st, t) else y).map (·.1) = m.map (·.1) := by
      rw [List.map_map]
      refine List.map_congr_left fun y _ => ?_
      show (if y.1 = st then (st, t) else y).1 = y.1
      split
      · rename_i z; exact z.symm
      · rfl
    rw [e]; exact h
  · rename_i hn
    rw [List.map_append, List.nodup_append]
    refine ⟨h, by simp, fun a ha b hb e => ?_⟩
    have : b = st := by simpa using hb
    subst this e
    obtain ⟨y, hy, e⟩ := List.mem_map.mp ha
    exact hn (List.any_eq_true.mpr ⟨y, hy, by simpa using e⟩)
theorem mput_mem {m : List (S4 × T3)} {st : S4} {t : T3} {e : S4 × T3} (h : e ∈ mput m st t) : e = (st, t) ∨ (e ∈ m ∧ e.1 ≠ st) := by
  unfold mput at h
  split at h
  · obtain ⟨y, hy, rfl⟩ := List.mem_map.mp h
    split
    · exact .inl rfl
    · rename_i z; exact .inr ⟨hy, z⟩
  · rename_i hn
    rcases List.mem_append.mp h with z | z
    · exact .inr ⟨z, fun e => hn (List.any_eq_true.mpr ⟨_, z, by simpa using e⟩)⟩
    · exact .inl (by simpa using z)
theorem mget_none {m : List (S4 × T3)} {st : S4} (h : mget m st = none) : st ∉ m.map (·.1) := by
  intro hm
  obtain ⟨y, hy, e⟩ := List.mem_map.mp hm
  unfold mget at h
  rw [Option.map_eq_none_iff, List.find?_eq_none] at h
  exact h y hy (by simpa using e)
theorem mget_some {m : List (S4 × T3)} {st : S4} {t : T3} (h : mget m st = some t) : (st, t) ∈ m := by
  unfold mget at h
  obtain ⟨y, hy, e⟩ := Option.map_eq_some_iff.mp h
  have h1 := List.mem_of_find?_eq_some hy
  have h2 := List.find?_some hy
  have : y.1 = st := by simpa using h2
  rw [← this, ← e]; exact h1
section
variable {n B k sign : Nat}
def PT (n B k sign : Nat) (pr : List (S4 × Nat)) (st' : S4) (d' : Nat) : Prop :=
  ∃ st own, (st, own) ∈ pr ∧ nxt sign st own = some st' ∧ ∃ d, SS n B k st d ∧ d' = d + own * 3 ^ k
structure Told (n B k sign : Nat) (told : List (S4 × T3)) (pr : List (S4 × Nat)) : Prop where
  nd : (told.map (·.1)).Nodup
  sm : ∀ e ∈ told, Smm (PT n B k sign pr e.1) e.2
  all : ∀ st' d', PT n B k sign pr st' d' → st' ∈ told.map (·.1)
  lt : ∀ x ∈ pr, x.2 < 3
theorem PT_app (pr : List (S4 × Nat)) (st : S4) (own : Nat) (st' : S4) (d' : Nat) : PT n B k sign (pr ++ [(st, own)]) st' d' ↔
    PT n B k sign pr st' d' ∨ (nxt sign st own = some st' ∧ ∃ d, SS n B k st d ∧ d' = d + own * 3 ^ k) := by
  constructor
  · rintro ⟨st2, own2, h1, h2⟩
    rcases List.mem_append.mp h1 with z | z
    · exact .inl ⟨st2, own2, z, h2⟩
    · have e := List.mem_singleton.mp z
      cases e
      exact .inr h2
  · rintro (⟨st2, own2, h1, h2⟩ | h)
    · exact ⟨st2, own2, List.mem_append.mpr (.inl h1), h2⟩
    · exact ⟨st, own, List.mem_append.mpr (.inr (List.mem_singleton.mpr rfl)), h⟩
theorem Told.step {told : List (S4 × T3)} {pr : List (S4 × Nat)} (h : Told n B k sign told pr) {st : S4} {t : T3}
    (ht : Smm (SS n B k st) t) {own : Nat} (ho : own < 3) (hn : (st, own) ∉ pr) :
    Told n B k sign (stp sign (3 ^ k) told (st, t) own) (pr ++ [(st, own)]) := by
  have hlt : ∀ x ∈ pr ++ [(st, own)], x.2 < 3 := by
    intro x hx
    rcases List.mem_append.mp hx with z | z
    · exact h.lt x z
    · rw [List.mem_singleton.mp z]; exact ho
  cases en : nxt sign st own with
  | none =>
    rw [stp_none (e := (st, t)) en]
    refine ⟨h.nd, fun e he => (h.sm e he).congr fun x => ?_, fun st' d' hp => ?_, hlt⟩
    · rw [PT_app, en]; simp
    · rw [PT_app, en] at hp
      exact h.all st' d' (by simpa using hp)
  | some st' =>
    have hsh := ht.shift (own * 3 ^ k)
    cases eg : mget told st' with
    | none =>
      rw [stp_new (e := (st, t)) en eg]
      have hk := mget_none eg
      refine ⟨mput_nodup h.nd _ _, fun e he => ?_, fun s2 d2 hp => ?_, hlt⟩
      · rcases mput_mem he with rfl | ⟨he, hne⟩
        · refine hsh.congr fun x => ?_
          rw [PT_app, en]
          constructor
          · intro z; exact .inr ⟨rfl, z⟩
          · rintro (z | ⟨_, z⟩)
            · exact absurd (h.all _ _ z) hk
            · exact z
        · refine (h.sm e he).congr fun x => ?_
          rw [PT_app, en]
          constructor
          · exact .inl
          · rintro (z | ⟨z, _⟩)
            · exact z
            · exact absurd (Option.some.inj z).symm hne
      · rw [PT_app, en] at hp
        rw [mput_keys]
        rcases hp with z | ⟨z, _⟩
        · exact .inl (h.all _ _ z)
        · exact .inr (Option.some.inj z).symm
    | some t0 =>
      rw [stp_old (e := (st, t)) en eg]
      have hm0 := mget_some eg
      refine ⟨mput_nodup h.nd _ _, fun e he => ?_, fun s2 d2 hp => ?_, hlt⟩
      · rcases mput_mem he with rfl | ⟨he, hne⟩
        · have h0 := h.sm _ hm0
          refine (h0.both hsh ?_).congr fun x => ?_
          · rintro x ⟨st2, own2, h1, h2, d2, h3, h4⟩ ⟨d, h5, h6⟩
            obtain ⟨e1, e2⟩ := split_uniq (SS_bd h3).1 (SS_bd h5).1 (h4.symm.trans h6)
            subst e1 e2
            have := SS_fun h3 h5
            subst this
            exact hn h1
          · dsimp only
            rw [PT_app, en]
            constructor
            · rintro (z | z)
              · exact .inl z
              · exact .inr ⟨rfl, z⟩
            · rintro (z | ⟨_, z⟩)
              · exact .inl z
              · exact .inr z
        · refine (h.sm e he).congr fun x => ?_
          rw [PT_app, en]
          constructor
          · exact .inl
          · rintro (z | ⟨z, _⟩)
            · exact z
            · exact absurd (Option.some.inj z).symm hne
      · rw [PT_app, en] at hp
        rw [mput_keys]
        rcases hp with z | ⟨z, _⟩
        · exact .inl (h.all _ _ z)
        · exact .inr (Option.some.inj z).symm
theorem Told.three {told : List (S4 × T3)} {pr : List (S4 × Nat)} (h : Told n B k sign told pr) {st : S4} {t : T3}
    (ht : Smm (SS n B k st) t) (hn : ∀ x ∈ pr, x.1 ≠ st) : ∀ c, c ≤ 3 →
    Told n B k sign ((List.range c).foldl (fun a own => stp sign (3 ^ k) a (st, t) own) told) (pr ++ (List.range c).map fun own => (st, own))
  | 0, _ => by rw [List.range_zero, List.map_nil, List.append_nil]; exact h
  | c + 1, hc => by
    have ih := Told.three h ht hn c (by omega)
    rw [List.range_succ, List.foldl_append, List.map_append, ← List.append_assoc]
    refine ih.step ht (by omega) fun z => ?_
    rcases List.mem_append.mp z with z | z
    · exact hn _ z rfl
    · obtain ⟨y, hy, e⟩ := List.mem_map.mp z
      have := List.mem_range.mp hy
      have : y = c := by injection e
      omega
theorem Told.all3 : ∀ (l : List (S4 × T3)) (told : List (S4 × T3)) (pr : List (S4 × Nat)), Told n B k sign told pr →
    (l.map (·.1)).Nodup → (∀ e ∈ l, Smm (SS n B k e.1) e.2) → (∀ x ∈ pr, x.1 ∉ l.map (·.1)) →
    Told n B k sign (l.foldl (fun told e => (List.range 3).foldl (fun a own => stp sign (3 ^ k) a e own) told) told)
      (pr ++ l.flatMap fun e => (List.range 3).map fun own => (e.1, own))
  | [], told, pr, h, _, _, _ => by rw [List.flatMap_nil, List.append_nil]; exact h
  | e :: l, told, pr, h, hnd, hsm, hpr => by
    have hnd' := List.nodup_cons.mp (show (e.1 :: l.map (·.1)).Nodup from hnd)
    rw [List.foldl_cons, List.flatMap_cons, ← List.append_assoc]
    refine Told.all3 l _ _ (h.three (hsm e (List.mem_cons_self ..)) (fun x hx z => hpr x hx (by rw [z]; exact List.mem_cons_self ..)) 3 (Nat.le_refl _)) hnd'.2 (fun e' he' => hsm e' (List.mem_cons_of_mem _ he')) fun x hx => ?_
    rcases List.mem_append.mp hx with z | z
    · exact fun w => hpr x z (List.mem_cons_of_mem _ w)
    · obtain ⟨y, _, rfl⟩ := List.mem_map.mp z
      exact hnd'.1
end
/-- what is found of the last k signs -/
structure FOK (n B k : Nat) (m : List (S4 × T3)) : Prop where
  nd : (m.map (·.1)).Nodup
  sm : ∀ e ∈ m, Smm (SS n B k e.1) e.2
  all : ∀ st d, SS n B k st d → st ∈ m.map (·.1)
theorem FOK.zero (n B : Nat) : FOK n B 0 [((0, 0, B, B), (1, 0, 0))] := by
  refine ⟨by simp, fun e he => ?_, fun st d h => by rw [h.1]; simp⟩
  have : e = ((0, 0, B, B), (1, 0, 0)) := by simpa using he
  subst this
  exact ⟨[0], by simp, fun x => by rw [List.mem_singleton]; exact ⟨fun h => ⟨rfl, h⟩, fun h => h.2⟩, rfl, ⟨rfl, rfl⟩, ⟨rfl, rfl⟩, fun x h => by rw [h.2]; exact ⟨Nat.le_refl _, Nat.le_refl _⟩⟩
theorem FOK.step {n B k : Nat} {m : List (S4 × T3)} (h : FOK n B k m) : FOK n B (k + 1) (osm (n / 3 ^ k % 3) (3 ^ k) m) := by
  have t0 : Told n B k (n / 3 ^ k % 3) [] [] := ⟨by simp, fun e he => (nomatch he), fun st' d' ⟨_, _, z, _⟩ => (nomatch z), fun x hx => (nomatch hx)⟩
  have t1 := Told.all3 m [] [] t0 h.nd h.sm (fun x hx => (nomatch hx))
  rw [List.nil_append] at t1
  have e : ∀ st' d', PT n B k (n / 3 ^ k % 3) (m.flatMap fun e => (List.range 3).map fun own => (e.1, own)) st' d' ↔ SS n B (k + 1) st' d' := by
    intro st' d'
    constructor
    · rintro ⟨st, own, h1, h2, d, h3, h4⟩
      exact ⟨st, own, d, t1.lt _ h1, h2, h3, h4⟩
    · rintro ⟨st, own, d, h1, h2, h3, h4⟩
      refine ⟨st, own, ?_, h2, d, h3, h4⟩
      obtain ⟨y, hy, rfl⟩ := List.mem_map.mp (h.all st d h3)
      exact List.mem_flatMap.mpr ⟨y, hy, List.mem_map.mpr ⟨own, List.mem_range.mpr h1, rfl⟩⟩
  exact ⟨t1.nd, fun x hx => (t1.sm x hx).congr (e x.1), fun st d hd => t1.all st d ((e st d).mpr hd)⟩
theorem run_ge : ∀ (k h x : Nat), h ≤ run h k x
  | 0, h, x => Nat.le_refl _
  | k + 1, h, x => by
    have := run_ge k (led h (x / 3 ^ k % 3)) (x % 3 ^ k)
    show h ≤ run (led h (x / 3 ^ k % 3)) k (x % 3 ^ k)
    have h2 : h ≤ led h (x / 3 ^ k % 3) := by unfold led; omega
    omega
theorem run_gap : ∀ (k h h' x x' : Nat), h + 2 ≤ h' → run h k x + 2 ≤ run h' k x'
  | 0, h, h', x, x', e => e
  | k + 1, h, h', x, x', e => by
    refine run_gap k _ _ _ _ ?_
    have h1 : x / 3 ^ k % 3 < 3 := Nat.mod_lt _ (by decide)
    unfold led; omega
theorem FOK.bd {n B k : Nat} {m : List (S4 × T3)} (h : FOK n B k m) : ∀ e ∈ m, e.1.1 ≤ 1 ∧ e.1.2.1 ≤ 2 ∧ e.1.2.2.1 ≤ B ∧ e.1.2.2.2 ≤ B := by
  intro e he
  obtain ⟨L, _, _, _, h4, _⟩ := (h.sm e he).ex
  obtain ⟨_, b1, b2⟩ := SS_bd h4
  obtain ⟨_, r1, r2, _, _, _, _, a5, a6⟩ := (SS_DD h4).ex
  have g1 := run_ge k e.1.2.2.1 r1
  have g2 := run_ge k e.1.2.2.2 r2
  exact ⟨b1, b2, by omega, by omega⟩
theorem FOK.len {n B k : Nat} {m : List (S4 × T3)} (h : FOK n B k m) : m.length ≤ 54 := by
  cases m with
  | nil => exact Nat.zero_le _
  | cons e0 l =>
    have near : ∀ e ∈ e0 :: l, (e.1.2.2.1 ≤ e0.1.2.2.1 + 1 ∧ e0.1.2.2.1 ≤ e.1.2.2.1 + 1) ∧ (e.1.2.2.2 ≤ e0.1.2.2.2 + 1 ∧ e0.1.2.2.2 ≤ e.1.2.2.2 + 1) := by
      intro e he
      obtain ⟨L, _, _, _, h4, _⟩ := (h.sm e he).ex
      obtain ⟨_, r1, r2, _, _, _, _, a5, a6⟩ := (SS_DD h4).ex
      obtain ⟨L0, _, _, _, h40, _⟩ := (h.sm e0 (List.mem_cons_self ..)).ex
      obtain ⟨_, s1, s2, _, _, _, _, c5, c6⟩ := (SS_DD h40).ex
      refine ⟨⟨?_, ?_⟩, ?_, ?_⟩
      · rcases Nat.lt_or_ge (e0.1.2.2.1 + 1) e.1.2.2.1 with z | z
        · have := run_gap k _ _ s1 r1 z; omega
        · exact z
      · rcases Nat.lt_or_ge (e.1.2.2.1 + 1) e0.1.2.2.1 with z | z
        · have := run_gap k _ _ r1 s1 z; omega
        · exact z
      · rcases Nat.lt_or_ge (e0.1.2.2.2 + 1) e.1.2.2.2 with z | z
        · have := run_gap k _ _ s2 r2 z; omega
        · exact z
      · rcases Nat.lt_or_ge (e.1.2.2.2 + 1) e0.1.2.2.2 with z | z
        · have := run_gap k _ _ r2 s2 z; omega
        · exact z
    have hb := h.bd
    have hc := nodup_lt 54 ((e0 :: l).map fun e => e.1.1 * 27 + e.1.2.1 * 9 + (e.1.2.2.1 + 1 - e0.1.2.2.1) * 3 + (e.1.2.2.2 + 1 - e0.1.2.2.2)) ?_ ?_
    · rw [List.length_map] at hc; exact hc
    · have hnd := h.nd
      show List.Pairwise _ (List.map _ _)
      rw [List.pairwise_map]
      have hnd2 : List.Pairwise (fun a b : S4 × T3 => a.1 ≠ b.1) (e0 :: l) := List.pairwise_map.mp hnd
      refine hnd2.imp_of_mem fun {a b} ha hb' hne z => hne ?_
      have n1 := near a ha
      have n2 := near b hb'
      have b1 := hb a ha
      have b2 := hb b hb'
      obtain ⟨⟨a1, a2, a3, a4⟩, ta⟩ := a
      obtain ⟨⟨c1, c2, c3, c4⟩, tb⟩ := b
      dsimp only at *
      have q1 : a1 = c1 := by omega
      have q2 : a2 = c2 := by omega
      have q3 : a3 = c3 := by omega
      have q4 : a4 = c4 := by omega
      rw [q1, q2, q3, q4]
    · intro i hi
      obtain ⟨e, he, rfl⟩ := List.mem_map.mp hi
      have n1 := near e he
      have b1 := hb e he
      omega
/-- signs from behind -/
theorem sgs_rev : ∀ (n i s : Nat), (sgs 3 n).reverse[i]? = some s → s = n / 3 ^ i % 3 := by
  intro n
  induction n using Nat.strongRecOn with
  | ind n ih =>
    intro i s h
    by_cases h0 : n = 0
    · subst h0; rw [sgs_zero] at h; simp at h
    · rw [sgs_pos (by decide) h0, List.reverse_append] at h
      cases i with
      | zero =>
        have : n % 3 = s := by simpa using h
        rw [← this, Nat.pow_zero, Nat.div_one]
      | succ i =>
        have h' : (sgs 3 (n / 3)).reverse[i]? = some s := by simpa using h
        have := ih (n / 3) (by omega) i s h'
        rw [this, Nat.pow_succ, Nat.mul_comm, Nat.div_div_eq_div_mul]
theorem sgs_pow : ∀ n : Nat, n < 3 ^ (sgs 3 n).length := by
  intro n
  induction n using Nat.strongRecOn with
  | ind n ih =>
    by_cases h0 : n = 0
    · subst h0; rw [sgs_zero]; decide
    · rw [sgs_pos (by decide) h0, List.length_append]
      have := ih (n / 3) (by omega)
      rw [show [n % 3].length = 1 from rfl, pow3]
      omega
/-- the steps of a number for a book, as they are told -/
inductive StepsV (n B : Nat) : Option T3 → Prop where
  | none (h : ∀ d, ¬ isSt n B d) : StepsV n B none
  | some (s : T3) (h : Smm (isSt n B) s) : StepsV n B (some s)
theorem FOK.last {n B k : Nat} {m : List (S4 × T3)} (h : FOK n B k m) (hn : n < 3 ^ k) (hB : ev n ≠ B) : StepsV n B (mget m (0, 0, 0, 0)) := by
  have e : ∀ d, SS n B k (0, 0, 0, 0) d ↔ isSt n B d := by
    intro d
    rw [SS_end hn]
    constructor
    · rintro ⟨h1, h2, h3⟩
      refine ⟨?_, h1, h2, h3⟩
      rcases Nat.eq_zero_or_pos d with z | z
      · subst z; exact absurd h2 hB
      · exact z
    · rintro ⟨_, h1, h2, h3⟩; exact ⟨h1, h2, h3⟩
  cases eg : mget m (0, 0, 0, 0) with
  | none => exact .none fun d hd => mget_none eg (h.all _ _ ((e d).mpr hd))
  | some s => exact .some s ((h.sm _ (mget_some eg)).congr e)
end My

namespace My
/-! ### lengths of lists without twice the same -/
theorem nodup_sub {α : Type} [DecidableEq α] : ∀ (l p : List α), l.Nodup → (∀ x ∈ l, x ∈ p) → l.length ≤ p.length
  | [], _, _, _ => Nat.zero_le _
  | x :: l, p, hn, h => by
    have h1 := List.nodup_cons.mp hn
    have hx := h x (List.mem_cons_self ..)
    have := nodup_sub l (p.erase x) h1.2 fun y hy => by
      have hne : y ≠ x := fun e => h1.1 (e ▸ hy)
      exact (List.mem_erase_of_ne hne).mpr (h y (List.mem_cons_of_mem _ hy))
    rw [List.length_erase_of_mem hx] at this
    have := List.length_pos_of_mem hx
    rw [List.length_cons]; omega
theorem nodup_len {α : Type} [DecidableEq α] {l p : List α} (h1 : l.Nodup) (h2 : p.Nodup) (h : ∀ x, x ∈ l ↔ x ∈ p) : l.length = p.length :=
  Nat.le_antisymm (nodup_sub l p h1 fun x hx => (h x).mp hx) (nodup_sub p l h2 fun x hx => (h x).mpr hx)
def steps (n B : Nat) : List Nat := (List.range (n + 1)).filter fun d => decide (isSt n B d)
theorem mem_steps {n B d : Nat} : d ∈ steps n B ↔ isSt n B d := by
  unfold steps
  rw [List.mem_filter, List.mem_range, decide_eq_true_iff]
  constructor
  · exact fun h => h.2
  · exact fun h => ⟨by have := h.2.1; omega, h⟩
theorem steps_nodup (n B : Nat) : (steps n B).Nodup := List.Pairwise.filter _ List.nodup_range
theorem steps_lt (n B : Nat) : (steps n B).Pairwise (· < ·) := List.Pairwise.filter _ List.pairwise_lt_range
theorem Smm.len {n B : Nat} {s : T3} (h : Smm (isSt n B) s) : s.1 = (steps n B).length := by
  obtain ⟨L, h1, h2, h3, _⟩ := h.ex
  rw [← h3]
  exact nodup_len h1 (steps_nodup n B) fun x => (h2 x).trans mem_steps.symm
def stM : Option T3 → Nat
  | none => 0
  | some s => s.1
theorem StepsV.many {n B : Nat} {o : Option T3} (h : StepsV n B o) : stM o = (steps n B).length := by
  cases h with
  | none h =>
    have : steps n B = [] := List.eq_nil_iff_forall_not_mem.mpr fun d hd => h d (mem_steps.mp hd)
    rw [this]; rfl
  | some s h => exact h.len
theorem Smm.pos {S : Nat → Prop} {s : T3} (h : Smm S s) : 0 < s.1 := by
  obtain ⟨L, h1, h2, h3, h4, _⟩ := h.ex
  have := List.length_pos_of_mem ((h2 _).mpr h4)
  omega
theorem nodup_map {α β : Type} {l : List α} (f : α → β) (h : l.Nodup) (hf : ∀ x ∈ l, ∀ y ∈ l, f x = f y → x = y) : (l.map f).Nodup := by
  show List.Pairwise _ _
  rw [List.pairwise_map]
  exact List.Pairwise.imp_of_mem (fun {a b} ha hb hne e => hne (hf a ha b hb e)) h
theorem nodup_flat {α β : Type} {l : List α} {f : α → List β} (h : l.Nodup) (h1 : ∀ x ∈ l, (f x).Nodup)
    (h2 : ∀ x ∈ l, ∀ y ∈ l, ∀ z, z ∈ f x → z ∈ f y → x = y) : (l.flatMap f).Nodup := by
  induction l with
  | nil => simp
  | cons a l ih =>
    have hn := List.nodup_cons.mp h
    rw [List.flatMap_cons, List.nodup_append]
    refine ⟨h1 a (List.mem_cons_self ..), ih hn.2 (fun x hx => h1 x (List.mem_cons_of_mem _ hx)) (fun x hx y hy => h2 x (List.mem_cons_of_mem _ hx) y (List.mem_cons_of_mem _ hy)), ?_⟩
    intro z hz z' hz' e
    subst e
    obtain ⟨y, hy, hzy⟩ := List.mem_flatMap.mp hz'
    have := h2 a (List.mem_cons_self ..) y (List.mem_cons_of_mem _ hy) z hz hzy
    subst this
    exact hn.1 hy
theorem len_flat {α β : Type} (l : List α) (f : α → List β) : (l.flatMap f).length = (l.map fun x => (f x).length).sum := by
  induction l with
  | nil => rfl
  | cons a l ih => rw [List.flatMap_cons, List.length_append, ih, List.map_cons, List.sum_cons]
/-- each step makes a pair of numbers of the book, and the other way about -/
theorem steps_pairs (B U : Nat) : ((List.range U).map fun n => (steps n B).length).sum =
    (((List.range U).filter fun y => decide (ev y = B)).map fun y => (((List.range y).filter fun x => decide (ev x = B)).filter fun x => decide (2 * y - x < U)).length).sum := by
  rw [← len_flat, ← len_flat]
  have hA : ((List.range U).flatMap fun n => (steps n B).map fun d => (n, d)).length = ((List.range U).flatMap fun n => steps n B).length := by
    rw [len_flat, len_flat]; simp
  have hB : (((List.range U).filter fun y => decide (ev y = B)).flatMap fun y => (((List.range y).filter fun x => decide (ev x = B)).filter fun x => decide (2 * y - x < U)).map fun x => (y, x)).length =
      (((List.range U).filter fun y => decide (ev y = B)).flatMap fun y => ((List.range y).filter fun x => decide (ev x = B)).filter fun x => decide (2 * y - x < U)).length := by
    rw [len_flat, len_flat]; simp
  rw [← hA, ← hB]
  have nA : ((List.range U).flatMap fun n => (steps n B).map fun d => (n, d)).Nodup := by
    refine nodup_flat List.nodup_range (fun n _ => nodup_map _ (steps_nodup n B) fun x _ y _ e => by injection e) ?_
    intro x _ y _ z hz hz'
    obtain ⟨d, _, rfl⟩ := List.mem_map.mp hz
    obtain ⟨d', _, e⟩ := List.mem_map.mp hz'
    injection e with e1 e2
    exact e1.symm
  have nB : (((List.range U).filter fun y => decide (ev y = B)).flatMap fun y => (((List.range y).filter fun x => decide (ev x = B)).filter fun x => decide (2 * y - x < U)).map fun x => (y, x)).Nodup := by
    refine nodup_flat (List.Pairwise.filter _ List.nodup_range) (fun n _ => nodup_map _ (List.Pairwise.filter _ (List.Pairwise.filter _ List.nodup_range)) fun x _ y _ e => by injection e) ?_
    intro x _ y _ z hz hz'
    obtain ⟨d, _, rfl⟩ := List.mem_map.mp hz
    obtain ⟨d', _, e⟩ := List.mem_map.mp hz'
    injection e with e1 e2
    exact e1.symm
  have mA : ∀ n d, (n, d) ∈ ((List.range U).flatMap fun n => (steps n B).map fun d => (n, d)) ↔ n < U ∧ isSt n B d := by
    intro n d
    rw [List.mem_flatMap]
    constructor
    · rintro ⟨x, hx, hz⟩
      obtain ⟨y, hy, e⟩ := List.mem_map.mp hz
      injection e with e1 e2
      subst e1 e2
      exact ⟨List.mem_range.mp hx, mem_steps.mp hy⟩
    · rintro ⟨h1, h2⟩
      exact ⟨n, List.mem_range.mpr h1, List.mem_map.mpr ⟨d, mem_steps.mpr h2, rfl⟩⟩
  have mB : ∀ y x, (y, x) ∈ (((List.range U).filter fun y => decide (ev y = B)).flatMap fun y => (((List.range y).filter fun x => decide (ev x = B)).filter fun x => decide (2 * y - x < U)).map fun x => (y, x)) ↔
      (y < U ∧ ev y = B) ∧ (x < y ∧ ev x = B) ∧ 2 * y - x < U := by
    intro y x
    rw [List.mem_flatMap]
    constructor
    · rintro ⟨a, ha, hz⟩
      obtain ⟨b, hb, e⟩ := List.mem_map.mp hz
      injection e with e1 e2
      subst e1 e2
      simp only [List.mem_filter, List.mem_range, decide_eq_true_iff] at ha hb
      exact ⟨ha, hb.1, hb.2⟩
    · rintro ⟨h1, h2, h3⟩
      refine ⟨y, ?_, List.mem_map.mpr ⟨x, ?_, rfl⟩⟩
      · simp only [List.mem_filter, List.mem_range, decide_eq_true_iff]; exact h1
      · simp only [List.mem_filter, List.mem_range, decide_eq_true_iff]; exact ⟨h2, h3⟩
  refine Nat.le_antisymm ?_ ?_
  · refine Nat.le_trans (Nat.le_of_eq (List.length_map (fun p : Nat × Nat => (p.1 - p.2, p.1 - 2 * p.2))).symm) (nodup_sub _ _ (nodup_map (fun p : Nat × Nat => (p.1 - p.2, p.1 - 2 * p.2)) nA ?_) fun z hz => ?_)
    · rintro ⟨n, d⟩ hx ⟨n', d'⟩ hy e
      obtain ⟨_, h1, h2, _⟩ := (mA n d).mp hx
      obtain ⟨_, g1, g2, _⟩ := (mA n' d').mp hy
      dsimp only at e
      injection e with e1 e2
      have q1 : n = n' := by omega
      have q2 : d = d' := by omega
      rw [q1, q2]
    · obtain ⟨⟨n, d⟩, hx, rfl⟩ := List.mem_map.mp hz
      obtain ⟨h0, h1, h2, h3, h4⟩ := (mA n d).mp hx
      exact (mB _ _).mpr ⟨⟨by dsimp only; omega, h3⟩, ⟨by dsimp only; omega, h4⟩, by dsimp only; omega⟩
  · refine Nat.le_trans (Nat.le_of_eq (List.length_map (fun p : Nat × Nat => (2 * p.1 - p.2, p.1 - p.2))).symm) (nodup_sub _ _ (nodup_map (fun p : Nat × Nat => (2 * p.1 - p.2, p.1 - p.2)) nB ?_) fun z hz => ?_)
    · rintro ⟨y, x⟩ hx ⟨y', x'⟩ hy e
      obtain ⟨_, ⟨h1, _⟩, _⟩ := (mB y x).mp hx
      obtain ⟨_, ⟨g1, _⟩, _⟩ := (mB y' x').mp hy
      dsimp only at e
      injection e with e1 e2
      have q1 : y = y' := by omega
      have q2 : x = x' := by omega
      rw [q1, q2]
    · obtain ⟨⟨y, x⟩, hx, rfl⟩ := List.mem_map.mp hz
      obtain ⟨⟨h0, h1⟩, ⟨h2, h3⟩, h4⟩ := (mB y x).mp hx
      refine (mA _ _).mpr ⟨h4, by dsimp only; omega, by dsimp only; omega, ?_, ?_⟩
      · dsimp only; rw [show 2 * y - x - (y - x) = y by omega]; exact h1
      · dsimp only; rw [show 2 * y - x - 2 * (y - x) = x by omega]; exact h3
end My

namespace My
theorem tk3 (n : Nat) : tk 3 n = decide (ev n = 0) := by
  refine dig (p := 3) (by decide) (P := fun n => tk 3 n = decide (ev n = 0)) ?_ ?_ n
  · rw [tk_zero, ev_zero]; rfl
  · intro m d hd _ h
    rw [tk_step (by decide) hd, h, ev_step m d hd]
    unfold led
    by_cases h1 : ev m = 0
    · rw [h1]
      by_cases h2 : d = 2
      · subst h2; rfl
      · have : (3 * 0 + d) / 2 = 0 := by omega
        rw [this]; simp [h2]
    · have : ¬ (3 * ev m + d) / 2 = 0 := by omega
      simp [h1, this]
theorem ec_cn (x : Nat) : ec 0 x = cn 3 x := by
  induction x with
  | zero => rw [ec_zero, cn_zero]
  | succ x ih =>
    rw [ec_succ, cn_succ (by decide), ih, tk3]
    by_cases h : ev x = 0 <;> simp [h]
theorem lnth3 (j : Nat) : ev (lnth 3 j) = 0 ∧ ec 0 (lnth 3 j) = j := by
  obtain ⟨h1, h2⟩ := lnth_tk (p := 3) (by decide) j
  rw [tk3] at h1
  exact ⟨of_decide_eq_true h1, by rw [ec_cn]; exact h2⟩
theorem st3_iff (n d : Nat) : isSt n 0 d ↔ (d ≠ 0 ∧ (3 - 1) * d ≤ n ∧ ∀ t, t < 3 - 1 → tk 3 (n - (t + 1) * d) = true) := by
  constructor
  · rintro ⟨h1, h2, h3, h4⟩
    refine ⟨by omega, h2, fun t ht => ?_⟩
    rw [tk3]
    rcases (show t = 0 ∨ t = 1 by omega) with rfl | rfl
    · rw [show n - (0 + 1) * d = n - d by omega]; exact decide_eq_true h3
    · rw [show n - (1 + 1) * d = n - 2 * d by omega]; exact decide_eq_true h4
  · rintro ⟨h1, h2, h3⟩
    have a := h3 0 (by decide)
    have b := h3 1 (by decide)
    rw [tk3] at a b
    rw [show n - (0 + 1) * d = n - d by omega] at a
    rw [show n - (1 + 1) * d = n - 2 * d by omega] at b
    exact ⟨by omega, by omega, of_decide_eq_true a, of_decide_eq_true b⟩
theorem lstep3 {n : Nat} (h : lstep 3 n ≠ 0) : isSt n 0 (lstep 3 n) := by
  obtain ⟨_, h2⟩ := lstep_ok (p := 3) (by decide) n
  have a := h2 1 (by decide) (by decide)
  have b := h2 2 (by decide) (by decide)
  rw [tk3] at a b
  rw [Nat.one_mul] at a
  exact ⟨by omega, by omega, of_decide_eq_true a.2, of_decide_eq_true b.2⟩
theorem lstep3_zero (n : Nat) : lstep 3 n = 0 ↔ ev n = 0 := by
  rw [(lstep_ok (p := 3) (by decide) n).1, tk3, decide_eq_true_iff]
end My

namespace My
theorem cn_filt {p : Nat} (hp : 3 ≤ p) : ∀ x, cn p x = ((List.range x).filter fun n => tk p n).length
  | 0 => by rw [cn_zero]; rfl
  | x + 1 => by
    rw [cn_succ hp, cn_filt hp x, List.range_succ, List.filter_append, List.length_append]
    congr 1
    by_cases h : tk p x = true <;> simp [h]
theorem lnth_at {p : Nat} (hp : 3 ≤ p) {u k y : Nat} (h : ((List.range u).filter fun n => tk p n)[k]? = some y) : lnth p k = y := by
  obtain ⟨h1, h2, h3⟩ := filt_at _ u k y h
  rw [← cn_filt hp] at h3
  rw [← h3]
  exact (lnth_cn hp).mpr h2
end My


namespace My
open PySem PySem.Spec PyProof.Rows L2

/-! ### dicts with tuple keys: items, walked -/
section
variable {X : Cx} {pins : List (Addr × Obj)} {σ : L2.St} {H : Hp} {s : Shared} {d : Addr} {o : Obj}
theorem frzTv {kvs : List (List Key × V)} (I : Inv X pins σ H s) (h : H d = some (.frz o (.dT kvs))) :
    (d == sysModules) = false ∧ s.heap.get? d = some o ∧ o.ExactDict ∧ ∃ (es : Array DictEntry) (ep : Nat), o.data = .dict es ep ∧ es.size = kvs.length ∧
      ∀ (i : Nat) (k : List Key) (v : V), kvs[i]? = some (k, v) → ∃ (en : DictEntry) (q : Addr), es[i]? = some en ∧ en.key = .ref q ∧ H q = some (.tup (k.map kV)) ∧ RelV v en.val := by
  obtain ⟨hd, z, hs, xs, pr, o', es, ep, ho, hx, hdt, he, _⟩ := I.hok d _ h
  rw [hd] at ho
  cases ho
  refine ⟨hs, hd, hx, es, ep, hdt, ?_, fun i k v e => ?_⟩
  · have l1 : es.size = xs.length := size_of_entries he
    have l2 : kvs.length = xs.length := Paired.length pr
    omega
  · obtain ⟨b, hb, e1, e2, e3⟩ := paired_get pr e
    have q := entry_at he i
    rw [hb] at q
    exact ⟨_, b.2.1, q, rfl, e2, e3⟩
end
def Iit (d : Addr) (o : Obj) (kvs : List (List Key × V)) : It :=
  ⟨fun i H => H d = some (.frz o (.dT kvs)) ∧ i < kvs.length, fun i H x H' => ∃ T q k v, kvs[i]? = some (k, v) ∧ H q = some (.tup (k.map kV)) ∧ x = .ref T ∧ H T = none ∧ H' = upd H T (.tup [.ref q, v]), fun i H => H d = some (.frz o (.dT kvs)) ∧ kvs.length ≤ i⟩
theorem turn_itemsT {P : Program} {w : World} {K : PySem.W.Frag} {d : Addr} {o : Obj} {es : Array DictEntry} {ep : Nat} {kvs : List (List Key × V)} {elts : List Expr} {kk : Nat} {tpos : Pos} (it : Addr) (hod : o.data = .dict es ep) :
    Turn P w K (.Tuple elts kk tpos) (Iit d o kvs) [it] it (fun i h => ∃ ok ov, IsItemIter h it d i kvs.length ep ok ov) where
  mem := by simp
  obj := fun i h st b hb => by
    have e : b = it := by simpa using hb
    subst e
    obtain ⟨ok, ov, e⟩ := st
    exact ⟨_, e, fun v z => nomatch z⟩
  keep := fun i h h' st k => let ⟨ok, ov, e⟩ := st; ⟨ok, ov, k it (by simp) _ e⟩
  item := by
    intro X hP hw hK hc i pins s σ H E I hf st hg
    subst hP hw hK
    obtain ⟨hd, hi⟩ := hg
    obtain ⟨hs, hgd, hx, es', ep', hdt, hsz, ent⟩ := frzTv I hd
    obtain ⟨rfl, rfl⟩ := dict_ep hod hdt
    obtain ⟨⟨k, v⟩, hkv⟩ : ∃ p, kvs[i]? = some p := ⟨kvs[i], List.getElem?_eq_getElem hi⟩
    obtain ⟨en, q, hen, hkey, hq, hv⟩ := ent i k v hkv
    obtain ⟨ok, ov, he⟩ := st
    rw [← hsz] at he
    have hlt : it < s.heap.objs.size := Heap.lt_size he
    have hi' : i < es'.size := by omega
    have een : es'[i] = en := by
      have := Array.getElem?_eq_getElem hi'
      rw [this] at hen; exact Option.some.inj hen
    refine DT.nextI he ⟨o, hgd, hx, hdt⟩ hi' fun h' ho hT hz hk => ?_
    rw [een] at ho hT
    refine ⟨_, rfl, wpAny_letOwnedTupleGo_items (s := { s with heap := h' }) ho fun h'' he' sb => ?_⟩
    have hT2 : h''.get? s.heap.objs.size = some { cls := .type "tuple", data := .seq #[en.key, en.val] } := (sb.2 _ (Nat.ne_of_gt hlt)).trans hT
    have new : ObjOk X.prog X.w (upd H s.heap.objs.size (.tup [.ref q, v])) h'' s.heap.objs.size (.tup [.ref q, v]) :=
      ⟨by show 2 ≤ sizeLine; decide, [en.key, en.val], .cons hkey (.cons hv .nil), ⟨_, hT2, rfl, _, rfl⟩⟩
    have I1 : Inv X pins σ (upd H s.heap.objs.size (.tup [.ref q, v])) { s with heap := h'' } :=
      I.turnedNew (t' := s.toks) (ch := [it]) (fun b ob hb e => (sb.2 b (by simpa using hb)).trans (hk b ob (by simpa using hb) e)) hf (Nat.le_refl _) new
    refine ⟨.ref s.heap.objs.size, _, I1, rfl, ⟨_, q, k, v, hkv, hq, rfl, I.hok.fresh (Nat.le_refl _), rfl⟩, ⟨en.key, en.val, ?_⟩, fun b hb => ?_⟩
    · rw [← hsz]; exact he'
    · have e : b = it := by simpa using hb
      rw [e, upd_ne (Nat.ne_of_lt hlt)]
      exact (hf it (by simp)).1
  done := by
    intro X hP hw hK hc i pins s σ H E I hf st hg
    subst hP hw hK
    obtain ⟨hd, hi⟩ := hg
    obtain ⟨f0, f1, f2, f3, f4, f5⟩ := hf it (by simp)
    obtain ⟨hs, hgd, hx, es', ep', hdt, hsz, ent⟩ := frzTv I hd
    obtain ⟨rfl, rfl⟩ := dict_ep hod hdt
    obtain ⟨ok, ov, he⟩ := st
    rw [← hsz] at he
    exact DT.endI (I.ok.hd hc) he ⟨o, hgd, hx, hdt⟩ (by omega) fun h' eb => ⟨rfl, I.turned (t' := s.toks) (fun b ob hb e => eb b ob hb e) f0 f1 f3 f4 f5⟩
  self := fun A i s Q E st h => let ⟨_, _, e⟩ := st; PySem.W.kcp_self e h
def iItemsT (td : TE) : TI := fun σ H R => td σ H fun x H1 => ∃ d o kvs, x = .ref d ∧ H1 d = some (.frz o (.dT kvs)) ∧ R (Iit d o kvs) H1
section
variable {X : Cx} {tg e : Expr} {td : TE} {apos cpos : Pos}
theorem pi_itemsT {elts : List Expr} {kk : Nat} {tpos : Pos} (he : PE X e td) (hbase : attributeBase e "items" X.env (eval e X.env) = eval e X.env := by rfl) (hline : (apos.endLine == cpos.line) = true := by rfl) :
    PI X (.Tuple elts kk tpos) (.Call (.Attribute e "items" apos) [] [] cpos) (iItemsT td) := by
  refine ⟨fun pins s σ H R I h => ?_⟩
  refine wpAny_Call_method (T := "dict") (id := "dict.items") hbase rfl hline F.plainAttrs_dict F.slot_dict_items F.type_dict_items (thn (he.run pins s σ H _ I h) fun u s1 ⟨x, H1, I1, rx, d, o, kvs, ex, hd, q⟩ => ?_)
  subst ex
  obtain rfl : u = Value.ref d := rx
  obtain ⟨hs, hgd, hx, es, ep, hdt, hsz, ent⟩ := frzTv I1 hd
  have raw : DT.Raw s1.heap d es ep := ⟨o, hgd, hx, hdt⟩
  refine ⟨raw.typeIs, ?_, ?_⟩
  · intro a e
    cases e
    exact ⟨o, hgd, by first | exact hx.2 | exact hx.2.1 | exact hx.dict⟩
  have I2 : Inv X pins σ H1 { s1 with heap := s1.heap.push { cls := .type "dict_items", data := .fields #[.ref d] } } := I1.kept (t' := s1.toks) fun b ob q => Heap.get?_push_of_some _ q
  have fin : wpAny (model X.prog X.w) X.A (pyIter (.ref s1.heap.objs.size)) (PIE X pins σ (.Tuple elts kk tpos) R) X.xe { s1 with heap := s1.heap.push { cls := .type "dict_items", data := .fields #[.ref d] } } := by
    refine DT.iterI (d := d) ⟨_, Heap.get?_push_size _ rfl, rfl, rfl⟩ (raw.push _) (pi_one (tk := s1.toks) I2 _ (turn_itemsT _ hdt) ⟨.none, .none, ?_⟩ q)
    rw [← hsz]
    exact Heap.get?_push_size _ rfl
  show wpAny _ _ (callWith cpos (.builtin "dict.items") [.ref d] [] []) _ X.xe s1
  exact method_meetsIn F.slot_dict_items F.entry_dict_items rfl (PySem.evalArgs_none ⟨rfl, raw.typeIs, F.args_dict_items_1 _, _, DT.meetsItems (es := es) (ep := ep) hs, ⟨raw, fin⟩⟩)
end
theorem d_dictSetT {X : Cx} {pins : List (Addr × Obj)} {σ : L2.St} {H : Hp} {s : Shared} {E : Value → Shared → Prop} {D b : Addr} {kvs : List (List Key × V)} {k : List Key} {v : V} {u r : Value} {Q : Unit → Shared → Prop}
    (hu : X.A.units + 1 < cLine) (I : Inv X pins σ H s) (hD : H D = some (.dT kvs)) (hz : kvs.length < sizeLine) (hb : H b = some (.tup (k.map kV)))
    (ry : RelV (.ref b) u) (rv : RelV v r) (h : ∀ s', Inv X pins σ (upd H D (.dT (putK kvs k v))) s' → Q () s') : wpAny (model X.prog X.w) X.A (dictSet D u r) Q E s := by
  cases (show u = Value.ref b from ry)
  obtain ⟨z, hd, xs, rel, dd⟩ := dt_of I.hok hD
  have hzx : xs.length ≤ sizeLine := by rw [← Paired.length rel]; exact z
  have hl : (putK kvs k v).length ≤ sizeLine := by have := length_putK kvs k v; omega
  refine wpAny_dictSet_heap (hsz := hzx) (show X.A.units < cLine by omega) (key_of I.hok hb) dd fun h' dd' hs => h _ ?_
  obtain ⟨q, es, ep, hq, h2, h3, h4, _, h5⟩ := dd'
  refine d_write I (by rw [hD]; exact True.intro) hs ⟨q, hq⟩ ⟨hl, hd, _, (rel.put k hb rv).keeps fun c ys ec => ?_, q, es, ep, hq, h2, h3, h4, h5⟩
  rw [upd_ne (ne_of ec hD (fun z => nomatch z))]
  exact ec
/-- {k: v}, k a tuple of ints and texts -/
def tDisp1T (tk tv : TE) : TE := fun σ H Q => ∀ p H0, New H p (.dT []) H0 → tk σ H0 fun y H1 => tv σ H1 fun z H2 =>
  ∃ b k, y = .ref b ∧ H2 p = some (.dT []) ∧ H2 b = some (.tup (k.map kV)) ∧ ∀ H3, H3 = upd H2 p (.dT [(k, z)]) → Q (.ref p) H3
theorem pe_disp1T {X : Cx} {pos : Pos} {k v : Expr} {tk tv : TE} (hu : X.A.units + 1 < cLine) (hk : PE X k tk) (hv : PE X v tv) :
    PE X (.Dict [some k] [v] pos) (tDisp1T tk tv) := by
  refine ⟨fun pins s σ H Q I q => ?_⟩
  have hn := I.hok.fresh (Nat.le_refl s.heap.objs.size)
  have I1 := I.laid (a := s.heap.objs.size) (o := .dT []) (h' := s.heap.push { cls := .type "dict", data := .dict #[] }) (t' := s.toks) (fun _ _ q => Heap.get?_push_of_some _ q) (Nat.le_refl _) (dt_empty s.heap I.big)
  refine wpAny_Dict_any rfl rfl (by simp) (by simp) (pairTrees_cons_walk (thn (hk.run pins _ σ _ _ I1 (q _ _ ⟨hn, rfl⟩)) fun ku s2 ⟨y, H1, I2, ry, q2⟩ => thn (hv.run pins s2 σ H1 _ I2 q2) fun vu s3 ⟨z, H2, I3, rz, b, kk, ey, hp, hb, q3⟩ => pairTrees_nil_walk ?_))
  subst ey
  unfold storeAll
  rw [List.forIn_cons]
  refine wpAny_bind (wpAny_bind (d_dictSetT hu I3 hp (by show 0 < _; decide) hb ry rz fun s4 I4 => ?_))
  refine wpAny_pure ?_
  dsimp only
  rw [List.forIn_nil]
  exact wpAny_pure ⟨.ref _, _, I4, rfl, q3 _ rfl⟩

/-! ### an error that is kept behind the suite that caught it -/
end My
namespace L2
open PySem PySem.Spec PyProof.Rows
/-- a caught exception of the class cls, with its dict, at a -/
def ExK (cls : Value) (d : Option Addr) (a : Addr) : HO := .ext fun h => ∃ (oe : Obj) (vs : Array Value), h.get? a = some oe ∧ Zc cls d oe ∧ oe.data = .fields vs
theorem exK_ok {P : Program} {w : World} {H : Hp} {h : Heap} {a : Addr} {cls : Value} {d : Option Addr} {oe : Obj} {vs : Array Value} (e : h.get? a = some oe) (z : Zc cls d oe) (hd : oe.data = .fields vs) : ObjOk P w H h a (ExK cls d a) :=
  ⟨⟨oe, vs, e, z, hd⟩, ⟨oe, e⟩, fun _ _ ⟨o, v, q, r⟩ k => ⟨o, v, k o q, r⟩⟩
section
variable {X : Cx} {pins : List (Addr × Obj)} {σ : St} {H : Hp} {s : Shared}
theorem Inv.track {a : Addr} {oe : Obj} {vs : Array Value} {o : HO} (I : Inv X pins σ H s) (e : s.heap.get? a = some oe) (hd : oe.data = .fields vs) (hn : H a = none)
    (nL : a ≠ X.env.locals) (n0 : X.s_0.heap.get? a = none) (np : ∀ p ∈ X.pn ++ pins, p.1 ≠ a) (new : ObjOk X.prog X.w (upd H a o) s.heap a o) : Inv X pins σ (upd H a o) s where
  ok := I.ok
  os := I.os
  bare := I.bare
  base := ⟨I.base.keep, I.base.slot, fun b u q n hx => by rw [upd_ne (fun z => by rw [z, n0] at q; cases q)]; exact I.base.free b u q n hx, I.base.there,
    fun b xs q => by
      have := I.base.tups b xs q
      rw [upd_ne (ne_of_none this hn)]; exact this,
    fun b u xs q => by
      have := I.base.frzs b u xs q
      rw [upd_ne (ne_of_none this hn)]; exact this,
    fun b ps q => by
      obtain ⟨m, this⟩ := I.base.tbls b ps q
      exact ⟨m, by rw [upd_ne (ne_of_none this hn)]; exact this⟩⟩
  loc := I.loc
  cell := I.cell
  free := by rw [upd_ne (Ne.symm nL)]; exact I.free
  freeC := fun x c q => by
    rw [upd_ne (fun z => ?_)]
    · exact I.freeC x c q
    · obtain ⟨v, oc, h1, h2⟩ := I.cell x c q
      rw [z, e] at h1
      cases h1
      rw [hd] at h2
      cases h2
  pin := fun p hp => by
    obtain ⟨h1, h2, h3⟩ := I.pin p hp
    exact ⟨h1, by rw [upd_ne (np p hp)]; exact h2, h3⟩
  hok := HOk.laidN I.hok (fun _ _ q => q) hn new
  len := I.len
end
/-- an address where nothing of ours has stood -/
structure Apart (X : Cx) (pins : List (Addr × Obj)) (a : Addr) : Prop where
  loc : a ≠ X.env.locals
  fs : a ∉ X.fs
  old : X.s_0.heap.get? a = none
  pin : ∀ p ∈ X.pn ++ pins, p.1 ≠ a
section
variable {X : Cx} {pins : List (Addr × Obj)} {σ : St} {H : Hp} {s : Shared}
theorem Inv.apart {B : Heap} {a : Addr} (J : Inv X pins σ H s) (hex : X.ex = []) (hs : X.stack = X.env :: X.outer) (hf : X.env.frame = some X.env.locals)
    (nb : ∀ b o, s.heap.get? b = some o → b ∉ frs X.stack → B.get? b = some o) (hB : B.get? a = none) (nf : a ∉ frs (X.env :: X.outer)) : Apart X pins a := by
  have e0 : frs (X.env :: X.outer) = X.env.locals :: X.fs := by
    unfold frs
    rw [List.filterMap_cons, hf]; rfl
  rw [e0, List.mem_cons, not_or] at nf
  have no : s.heap.get? a = none := by
    cases e : s.heap.get? a with
    | none => rfl
    | some o => exact absurd ((nb a o e (by rw [hs, e0, List.mem_cons, not_or]; exact nf)).symm.trans hB) (fun z => nomatch z)
  refine ⟨nf.1, nf.2, ?_, fun p hp z => ?_⟩
  · cases e : X.s_0.heap.get? a with
    | none => rfl
    | some o =>
      obtain ⟨u, eu⟩ := J.base.there a o e (hex ▸ List.not_mem_nil)
      exact absurd (eu.symm.trans no) (fun z => nomatch z)
  · have e := (J.pin p hp).1
    rw [z, no] at e
    cases e
/-- a suite is over: its name goes, the error stays as a thing of its own -/
theorem Inv.keepErr {M : Model} {A : Around} {E : Value → Shared → Prop} {a : Addr} {oe : Obj} {vs : Array Value} {cls : Value} {d : Option Addr} {i : Nat} {n : Str} {pos : Pos} {Q : Shared → Prop}
    (S : Inv (X.suite a ((a, oe) :: (X.pn ++ pins))) [] σ H s) (ok : X.Ok) (ap : Apart X pins a) (hz : Zc cls d oe) (hd : oe.data = .fields vs)
    (hN : X.N.Nodup) (hi : X.N[i]? = some n) (hl : X.env.kindOf n = some .local)
    (hq : ∀ s' H', My.New H a (ExK cls d a) H' → Inv X pins (σ.set i none) H' s' → Q s') :
    wpAny M A (do bindName X.env n .none; unbindBehindTheSuite X.env n pos) (fun _ s' => Q s') E s := by
  obtain ⟨g, rest⟩ := S.pin (a, oe) (List.mem_append_left _ List.mem_cons_self)
  have I2 : Inv X ((a, oe) :: pins) σ H s := Inv.pins_of (S.unsuite ok) fun p hp => by
    rcases List.mem_cons.mp hp with e | hp
    · exact e ▸ ⟨g, rest⟩
    · exact (S.unsuite ok).pin p (List.mem_append_right _ hp)
  refine gone_ok I2 hN hi hl fun s' I3 => ?_
  obtain ⟨g3, n3, _⟩ := I3.pin (a, oe) (List.mem_append_right _ List.mem_cons_self)
  refine hq s' _ ⟨n3, rfl⟩ (Inv.track ?_ g3 hd n3 ap.loc ap.old ap.pin (exK_ok g3 hz hd))
  exact Inv.pins_of (pins := []) ⟨I3.ok, I3.os, I3.bare, I3.base, I3.loc, I3.cell, I3.free, I3.freeC, fun p hp => I3.pin p (List.mem_append_left _ (by rwa [List.append_nil] at hp)), I3.hok, I3.len⟩ fun p hp => I3.pin p (List.mem_append_right _ (List.mem_cons_of_mem _ hp))
end
/-- what 'except x as n: suite' wishes, where each error of the body is one of x and the suite falls through: the error stays -/
def wKept (K : PySem.W.Frag) (c : Value) (i : Nat) (ts : Addr → Value → Option Addr → TS) (D : Ends) : WX := fun cls d σ H =>
  PySem.W.exmOne K cls c = some true ∧ ∀ a, H a = none → ts a cls d
    { nx := fun σ' H' => ∀ H2, My.New H' a (ExK cls d a) H2 → D.nx (σ'.set i none) H2, rt := fun _ _ => False, bk := fun _ _ => False, ct := fun _ _ => False }
    (σ.set i (some (.ref a))) H
section
variable {X : Cx} {x n : Str} {c : Value} {i : Nat} {body suite : List Stmt} {b₀ : Stmt} {np pos pos' : Pos} {tb : WX → TS} {ts : Addr → Value → Option Addr → TS}
variable {pins : List (Addr × Obj)} {D : Ends} {s s' : Shared}
/-- the suite of the one clause, run where the error has landed -/
theorem kept_suite (ok : X.Ok) (hN : X.N.Nodup) (hi : X.N[i]? = some n) (hln : X.env.kindOf n = some .local)
    {a : Addr} {oe : Obj} {vs : Array Value} {cls : Value} {d : Option Addr} {σ : St} {H : Hp} (J : Inv X pins σ H s) (ap : Apart X pins a)
    (he : s.heap.get? a = some oe) (hz : Zc cls d oe) (hd : oe.data = .fields vs) (na : H a = none)
    (hsu : PSs (X.suite a ((a, oe) :: (X.pn ++ pins))) (b₀ :: suite) (ts a cls d))
    (h : ts a cls d { nx := fun σ' H' => ∀ H2, My.New H' a (ExK cls d a) H2 → D.nx (σ'.set i none) H2, rt := fun _ _ => False, bk := fun _ _ => False, ct := fun _ _ => False } (σ.set i (some (.ref a))) H)
    {R : Flow → Shared → Prop} {E E2 : Value → Shared → Prop}
    (hR : ∀ s3, wpAny (model X.prog X.w) X.A (do bindName X.env n .none; unbindBehindTheSuite X.env n pos) (fun _ s4 => SP X pins D .next s4) X.xe s3 → R .next s3) :
    wpAny (model X.prog X.w) (X.A.mark (some (.ref a))) (storeName X.env n (.ref a))
      (fun _ s2 => wpAny (model X.prog X.w) (X.A.mark (some (.ref a))) (execs (b₀ :: suite) X.env) R E2 s2) E s := by
  have S := J.suite he hd na ap.loc ap.fs
  refine store_ok (X := X.suite a ((a, oe) :: (X.pn ++ pins))) (v := .ref a) S hN hi (.inl hln) rfl (fun s5 S5 => ?_) (.inr hln)
  refine wpAny_mono (hsu.run [] s5 _ H _ S5 h) (fun f s6 q => ?_) fun _ _ z => z.elim
  match f, q with
  | .next, ⟨σ6, H6, S6, q6⟩ => exact hR s6 (S6.keepErr ok ap hz hd hN hi hln fun s7 H7 n7 I7 => ⟨_, H7, I7, q6 H7 n7⟩)
  | .brk, ⟨_, _, _, z⟩ => exact z.elim
  | .cont, ⟨_, _, _, z⟩ => exact z.elim
  | .ret _, ⟨_, _, _, _, _, z⟩ => exact z.elim
/-- an error on its way is looked at by the one clause -/
theorem kept_catch {xe : Value → Shared → Prop} {u : Value} (ok : X.Ok) (hex : X.ex = []) (hs : X.stack = X.env :: X.outer) (hf : X.env.frame = some X.env.locals)
    (hN : X.N.Nodup) (hi : X.N[i]? = some n) (hln : X.env.kindOf n = some .local) (hc : Names X x c)
    (hsu : ∀ (a : Addr) (oe : Obj) (cls : Value) (d : Option Addr) (pn : List (Addr × Obj)), Zc cls d oe → (∃ vs, oe.data = .fields vs) → PSs (X.suite a ((a, oe) :: pn)) (b₀ :: suite) (ts a cls d))
    (z : XE (X.tr (X.pn ++ pins) xe) (wKept X.K c i ts D) u s') :
    wpAny (model X.prog X.w) X.A (noteFrame u X.env) (fun _ s2 => wpAny (model X.prog X.w) X.A (setFlight u none) (fun _ s3 =>
      wpAny (model X.prog X.w) X.A (handleBy u X.env [.ExceptHandler (some (.Name x np)) (some n) (b₀ :: suite) pos']) (SP X pins D) X.xe s3) X.xe s2) X.xe s' := by
  obtain ⟨a, B, sI, pins', σ, H, cls, d, rfl, J', nb, up, sky, na, os, ag, hm, hts⟩ := z
  have J : Inv X pins σ H sI := J'.ofTry ok
  refine Sky.land (B := B) (L := X.env.locals) (outer := X.outer) Zc.steady (by rw [ok.frames, hs]) hf (hs ▸ sky) fun h1 f1 u1 => ?_
  obtain ⟨o1, v1, e1, z1, d1⟩ := f1.there
  have ap := J.apart hex hs hf nb f1.2.1 fun q => by
    obtain ⟨_, o, eo, nd⟩ := f1.2.2.1.mem q
    rw [e1] at eo
    cases eo
    exact nd _ d1
  have J1 : Inv X pins σ H { s' with heap := h1 } := J.landed nb f1.1 (up.trans u1) os ag
  have S1 := J1.suite e1 d1 na ap.loc ap.fs
  refine wpAny_handleBy_cons (codeAny_handlers_test ?_) (fun q => nomatch q)
  have seen := PySem.W.exm_one (M := model X.prog X.w) J1.kIn (fun A Q E t k q => wpAny_typeOf_ref (k _ _ e1) (by rw [z1.1]; exact q)) hm
  have clause : ∀ {Q : Value → Shared → Prop} {E : Value → Shared → Prop}, Q c { s' with heap := h1 } →
      wpAny (model X.prog X.w) (X.A.mark (some (.ref a))) (eval (.Name x np) X.env) Q E { s' with heap := h1 } := by
    intro Q E q
    rcases hc with ⟨g, db, m | ⟨m, v, nn⟩⟩
    · exact ld_glob (X := X.suite a ((a, o1) :: (X.pn ++ pins))) S1 g m q db
    · exact ld_blt (X := X.suite a ((a, o1) :: (X.pn ++ pins))) S1 g m v q nn db
  refine clause (seen.here (codeAny_handlers_suite_as (HandSPX.lands_againZ f1 fun h2 f2 u2 => ?_)))
  obtain ⟨o2, v2, e2, z2, d2⟩ := f2.there
  exact kept_suite (s := { s' with heap := h2 }) ok hN hi hln (J.landed nb f2.1 ((up.trans u1).trans u2) os ag) ap e2 z2 d2 na (hsu a o2 cls d _ z2 ⟨_, d2⟩) (hts a na) fun _ q => q
/-- try: body / except x as n: suite, where the suite keeps the error -/
theorem ps_try_kept (hex : X.ex = []) (hs : X.stack = X.env :: X.outer) (hf : X.env.frame = some X.env.locals)
    (hN : X.N.Nodup) (hi : X.N[i]? = some n) (hln : X.env.kindOf n = some .local) (hc : Names X x c)
    (hb : ∀ (W : WX) (pn : List (Addr × Obj)) (xe : Value → Shared → Prop), Takes (X.tr pn xe) W → PassesOwn (model X.prog X.w) X.A X.env xe → PSs (X.tr pn xe) body (tb W))
    (hsu : ∀ (a : Addr) (oe : Obj) (cls : Value) (d : Option Addr) (pn : List (Addr × Obj)), Zc cls d oe → (∃ vs, oe.data = .fields vs) → PSs (X.suite a ((a, oe) :: pn)) (b₀ :: suite) (ts a cls d)) :
    PS X (.Try body [.ExceptHandler (some (.Name x np)) (some n) (b₀ :: suite) pos'] [] [] pos) (fun D σ H => tb (wKept X.K c i ts D) D σ H) := by
  refine ⟨fun pins s σ H D I h => wpAny_Try_except (wpAny_mono ((hb (wKept X.K c i ts D) (X.pn ++ pins) _
    (fun u s' z => kept_catch (pins := pins) (D := D) (np := np) (pos' := pos') I.ok hex hs hf hN hi hln hc hsu z) PassesOwn.looking).run [] s σ H D (I.toTry _) h) (fun f s1 q => ?_) fun _ _ z => z)⟩
  match f, q with
  | .next, ⟨_, _, J, q⟩ => exact wpAny_execs_nil ⟨_, _, J.ofTry I.ok, q⟩
  | .brk, ⟨_, _, J, q⟩ => exact ⟨_, _, J.ofTry I.ok, q⟩
  | .cont, ⟨_, _, J, q⟩ => exact ⟨_, _, J.ofTry I.ok, q⟩
  | .ret _, ⟨_, _, _, J, r, q⟩ => exact ⟨_, _, _, J.ofTry I.ok, r, q⟩
end
section
variable {X : Cx}
/-- isinstance(e, c), e an error that was caught and kept -/
def rIsK (K : PySem.W.Frag) : List V → Hp → VK → Prop := fun xs H Q => ∃ (a D : Addr) (c : V) (cv : Value) (b : Bool), xs = [.ref a, c] ∧ H a = some (ExK (.ref D) none a) ∧ ExcC K D ∧ (∀ u, RelV c u → u = cv) ∧ PySem.W.kitOne K (.ref D) cv = some b ∧ Q (.bl b) H
theorem call_isK : CallR X (.builtin "isinstance") (rIsK X.K) := by
  intro pins s σ H xs us Q I r h
  obtain ⟨a, D, c, cv, b, rfl, ha, C, hcv, e, q⟩ := h
  cases r with
  | cons rx rr =>
    cases rr with
    | cons rt rr =>
      cases rr
      cases rx
      have ec := hcv _ rt
      subst ec
      obtain ⟨⟨oe, vs, hget, hz, hv⟩, _⟩ := show ObjOk X.prog X.w H s.heap a (ExK (.ref D) none a) from I.hok a _ ha
      have J : PySem.W.InstAt s.heap a oe D none := by
        obtain ⟨oc, od, oda, osl⟩ := oe
        obtain ⟨h1, h2⟩ := hz
        dsimp only at h1 h2 hv
        subst h1 h2 hv
        exact ⟨hget, rfl, rfl, trivial⟩
      exact PySem.W.kia_one (PySem.W.handS_kitx_exc C.hg C.hk C.hs C.hd C.ha C.hn C.ht C.hm) I.kIn J e (fun z => nomatch z) fun tk => ⟨.bl b, H, I.kept (t' := tk) fun _ _ z => z, rfl, q⟩
end
end L2
namespace My
open PySem PySem.Spec PyProof.Rows L2
/-- a def that may let an error out -/
structure DdX (P : Program) (w : World) (K : PySem.W.Frag)
    (mg : Str → Option Value) (base : Heap) (x : Str) (k : Nat)
    (ps : List Str) (sp : Sp) : Prop where
  ok : ∃ f fd, mg x = some (.ref f) ∧
    PySem.W.keepIn K (.ref f) = true ∧ Binds K fd ps [] ∧
    FnOk P w K mg base (L2.CX P w) k f fd ps sp
/-- an own class of errors, a ValueError without an __init__ of its own -/
structure ErrC (K : PySem.W.Frag) (mg : Str → Option Value) (x : Str) (C : Addr) : Prop where
  g : mg x = some (.ref C)
  q : ∃ B newId initId bm, ExcBaseFacts B newId initId bm ∧ PySem.W.excIn K C bm newId = true
  k : PySem.W.keepIn K (.ref C) = true
  sub : PySem.W.subIn K (.ref C) (.type "BaseException") = some true
  ty : PySem.W.typeIn K (.ref C) = some (.type "type")
  ex : PySem.W.exmOne K (.ref C) (.ref C) = some true
  c : ExcC K C
  kit : PySem.W.kitOne K (.ref C) (.type "ValueError") = some true
section
variable {X : Cx} {x m : Str} {k j : Nat} {ps : List Str} {sp : Sp} {W : WX} {C : Addr} {K : PySem.W.Frag}
variable {p p2 pos pos2 : Pos} {e : Expr} {es : List Expr} {t : TA}
theorem pe_dX (D : DdX X.prog X.w X.K X.mg X.base x k ps sp) (tk : Takes X W)
    (hr : Room k X.A) (hg : Gl X x) (ha : PA X (e :: es) t)
    (hdb : (x == ("__debug__" : Str)) = false := by decide)
    (he : starEach (e :: es) X.env =
      (false, eval e X.env) :: starEach es X.env := by rfl)
    (hpl : (backTo pos (starEach es X.env)).any (·.1) = false := by
      rfl) :
    PE X (.Call (.Name x p) (e :: es) [] pos) (tCallS sp (WE W) t) := by
  obtain ⟨f, fd, m, kp, b, G⟩ := D.ok
  exact pe_callS G hr hg m kp b (fun σ => passAt tk σ) ha hdb he hpl
theorem pe_dX0 (D : DdX X.prog X.w X.K X.mg X.base x k ps sp)
    (hr : Room k X.A) (hg : Gl X x) (ha : PA X (e :: es) t)
    (hdb : (x == ("__debug__" : Str)) = false := by decide)
    (he : starEach (e :: es) X.env =
      (false, eval e X.env) :: starEach es X.env := by rfl)
    (hpl : (backTo pos (starEach es X.env)).any (·.1) = false := by
      rfl) :
    PE X (.Call (.Name x p) (e :: es) [] pos) (tCall sp [] E0 t) := by
  obtain ⟨f, fd, m, kp, b, G⟩ := D.ok
  exact pe_call G hr hg m kp b .nil passL ha hdb he hpl
theorem ps_raiseO (hc : X.calm = true) (T : ErrC X.K X.mg x C) (tk : Takes X W) (hg : Gl X x)
    (hdb : (x == ("__debug__" : Str)) = false := by decide) :
    PS X (.Raise (some (.Call (.Name x p) [.Constant (.str m) j p2] [] pos)) none pos2) (fun _ σ H => W (.ref C) none σ H) := by
  obtain ⟨B, nw, ini, bm, F, q⟩ := T.q
  exact ps_raise hc tk (pmk_own F q T.g T.k (raises_own T.sub T.ty) hg hdb)
theorem call_isKN (h : X.K = K := by rfl) : CallR X (.builtin "isinstance") (rIsK K) := h ▸ call_isK
end
/-- gone through in one of two ways -/
theorem pi_or {X : Cx} {tg it : Expr} {t u : TI} (h1 : PI X tg it t) (h2 : PI X tg it u) : PI X tg it (fun σ H R => t σ H R ∨ u σ H R) :=
  ⟨fun pins s σ H R I h => h.elim (h1.run pins s σ H R I) (h2.run pins s σ H R I)⟩

/-! ### is a list empty: xs == [] of any things -/
def rEqE (K : PySem.W.Frag) : R2 := fun x y H Q => ∃ (a b : Addr) (xs : List V), x = .ref a ∧ y = .ref b ∧ SqL K H a xs ∧ SqL K H b [] ∧ Q (.bl xs.isEmpty) H
theorem op_eqE {X : Cx} {K : PySem.W.Frag} (hu : X.A.units + 64 < cLine) (h : X.K = K := by rfl) : OpR X (compareOp .Eq) (rEqE K) := by
  subst h
  intro pins s σ H x y v u Q I rx ry h
  obtain ⟨a, b, xs, rfl, rfl, h1, h2, q⟩ := h
  cases xs with
  | nil => exact op_eqD hu pins s σ H _ _ _ _ Q I rx ry ⟨.list [], .list [], .lst h1 .nil, .lst h2 .nil, by decide, by decide, q⟩
  | cons z zs =>
    cases rx
    cases ry
    obtain ⟨its, rv, pl, _⟩ := I.list h1
    obtain ⟨its2, rv2, pl2, _⟩ := I.list h2
    have e1 := rv.length
    have e2 := rv2.length
    refine SeqAt.eq_list_lengthsAt pl.isList pl2.isList ?_ (by omega) ⟨.bl false, H, I, rfl, q⟩
    rw [bne_iff_ne, List.size_toArray, List.size_toArray, ← e1, ← e2]
    exact Nat.succ_ne_zero _

def topS (i : Nat) : Stmt :=
  PySem.Challenge.pw_firstbooks_k82_halves_and_lists_of_signs.main.body.getD i (.Pass ⟨0, 0, 0, 0⟩)
abbrev s_is_number : Stmt := topS 3
abbrev N_is_number : List Str := ["thing"]
theorem sc_is_number : FnScope N_is_number ["thing"] (defScope s_is_number) :=
  ⟨rfl, rfl, rfl, by decide +kernel, rfl, by decide +kernel, by decide +kernel⟩
abbrev s_is_list : Stmt := topS 4
abbrev N_is_list : List Str := ["thing"]
theorem sc_is_list : FnScope N_is_list ["thing"] (defScope s_is_list) :=
  ⟨rfl, rfl, rfl, by decide +kernel, rfl, by decide +kernel, by decide +kernel⟩
abbrev s_is_sign : Stmt := topS 5
abbrev N_is_sign : List Str := ["thing"]
theorem sc_is_sign : FnScope N_is_sign ["thing"] (defScope s_is_sign) :=
  ⟨rfl, rfl, rfl, by decide +kernel, rfl, by decide +kernel, by decide +kernel⟩
abbrev s_halves : Stmt := topS 7
abbrev N_halves : List Str := ["book", "signs"]
theorem sc_halves : FnScope N_halves ["book"] (defScope s_halves) :=
  ⟨rfl, rfl, rfl, by decide +kernel, rfl, by decide +kernel, by decide +kernel⟩
abbrev s_from_halves : Stmt := topS 8
abbrev N_from_halves : List Str := ["signs", "book", "sign", "twice"]
theorem sc_from_halves : FnScope N_from_halves ["signs"] (defScope s_from_halves) :=
  ⟨rfl, rfl, rfl, by decide +kernel, rfl, by decide +kernel, by decide +kernel⟩
abbrev s_pen : Stmt := topS 10
abbrev N_pen : List Str := ["script"]
theorem sc_pen : FnScope N_pen ["script"] (defScope s_pen) :=
  ⟨rfl, rfl, rfl, by decide +kernel, rfl, by decide +kernel, by decide +kernel⟩
abbrev s_draw : Stmt := topS 11
abbrev N_draw : List Str := ["pen", "many", "digit", "turn", "cell", "primes", "prime", "drawn"]
theorem sc_draw : FnScope N_draw ["pen", "many"] (defScope s_draw) :=
  ⟨rfl, rfl, rfl, by decide +kernel, rfl, by decide +kernel, by decide +kernel⟩
abbrev s_pick : Stmt := topS 12
abbrev N_pick : List Str := ["pen", "some"]
theorem sc_pick : FnScope N_pick ["pen", "some"] (defScope s_pick) :=
  ⟨rfl, rfl, rfl, by decide +kernel, rfl, by decide +kernel, by decide +kernel⟩
abbrev s_great : Stmt := topS 13
abbrev N_great : List Str := ["pen", "figures", "found", "k"]
theorem sc_great : FnScope N_great ["pen", "figures"] (defScope s_great) :=
  ⟨rfl, rfl, rfl, by decide +kernel, rfl, by decide +kernel, by decide +kernel⟩
abbrev s_far : Stmt := topS 14
abbrev N_far : List Str := ["pen"]
theorem sc_far : FnScope N_far ["pen"] (defScope s_far) :=
  ⟨rfl, rfl, rfl, by decide +kernel, rfl, by decide +kernel, by decide +kernel⟩
abbrev s_law_is_number : Stmt := topS 15
abbrev N_law_is_number : List Str := ["thing"]
theorem sc_law_is_number : FnScope N_law_is_number ["thing"] (defScope s_law_is_number) :=
  ⟨rfl, rfl, rfl, by decide +kernel, rfl, by decide +kernel, by decide +kernel⟩
abbrev s_read : Stmt := topS 16
abbrev N_read : List Str := ["signs", "book", "one", "twice"]
theorem sc_read : FnScope N_read ["signs"] (defScope s_read) :=
  ⟨rfl, rfl, rfl, by decide +kernel, rfl, by decide +kernel, by decide +kernel⟩
abbrev s_told : Stmt := topS 17
abbrev N_told : List Str := ["thing", "kept", "e"]
theorem sc_told : FnScope N_told ["thing"] (defScope s_told) :=
  ⟨rfl, rfl, rfl, by decide +kernel, rfl, by decide +kernel, by decide +kernel⟩
abbrev s_is_signs : Stmt := topS 18
abbrev N_is_signs : List Str := ["thing", "one"]
theorem sc_is_signs : FnScope N_is_signs ["thing"] (defScope s_is_signs) :=
  ⟨rfl, rfl, rfl, by decide +kernel, rfl, by decide +kernel, by decide +kernel⟩
abbrev s_law : Stmt := topS 19
abbrev N_law : List Str := ["script", "pen", "turn", "book", "signs", "kept", "again", "at", "some", "one", "kind", "bent", "due", "few", "k", "thing"]
theorem sc_law : FnScope N_law ["script"] (defScope s_law) :=
  ⟨rfl, rfl, rfl, by decide +kernel, rfl, by decide +kernel, by decide +kernel⟩
structure Zs (mg : Str → Option Value) : Prop where
  ValueError : mg "ValueError" = none
  abs : mg "abs" = none
  bool : mg "bool" = none
  int : mg "int" = none
  isinstance : mg "isinstance" = none
  len : mg "len" = none
  list : mg "list" = none
  min : mg "min" = none
  range : mg "range" = none
  repr : mg "repr" = none
  tuple : mg "tuple" = none
def prC : List V := [.int 2147483647, .int 2147483629, .int 2147483587,
  .int 2147483579, .int 2147483563]
theorem prC_get : ∀ j : Nat, j < 5 → ∃ pr : Int, 0 < pr ∧ BB 32 pr ∧
    prC[j]? = some (.int pr)
  | 0, _ => ⟨2147483647, by decide, by show _ < _; decide, rfl⟩
  | 1, _ => ⟨2147483629, by decide, by show _ < _; decide, rfl⟩
  | 2, _ => ⟨2147483587, by decide, by show _ < _; decide, rfl⟩
  | 3, _ => ⟨2147483579, by decide, by show _ < _; decide, rfl⟩
  | 4, _ => ⟨2147483563, by decide, by show _ < _; decide, rfl⟩
theorem BB.mod {z p : Int} (h : 0 < p) (b : BB 32 p) : BB 32 (z % p) := by
  have h1 := Int.emod_nonneg z (show p ≠ 0 by omega)
  have h2 := Int.emod_lt_of_pos z h
  exact b.le (by omega)
section
variable {P : Program} {w : World} {K : PySem.W.Frag}
variable {mg : Str → Option Value} {base : Heap}
theorem ok_draw {f : Addr} {fd : FuncData}
    (F : Fun K "_law_draw" "_law_draw" s_draw f fd) (Z : Zs mg) :
    FnOk P w K mg base CX0 1 f fd ["pen", "many"] spDraw := by
  refine F.ok sc_draw (fun vs H Q E h => ?_)
    (fun cdv A outer s H vs Q E hr h => ?_)
  · obtain ⟨p, c, n, m, rfl, _⟩ := h
    rfl
  · obtain ⟨p, c, n, m, rfl, hm, bm, P0, hn, q⟩ := h
    have hu := hu_of hr
    obtain ⟨cs, b, l, hp, hc, hlen, hbig, hb, hl⟩ := P0.ex
    have npc : c ≠ p := (ne_of hp hc (by intro z; cases z)).symm
    refine ⟨_, (pss_cons /- if pen['left'] > 0: -/ (ps_if (pt_cmpR op_gt (pe_dget hu (pv 0) pe_str (fun _ _ => rfl)) pe_int (nomark _))
(pss_cons /- digit = pen['left'] % many -/ (ps_set (i := 2) sc_draw.nd rfl (Or.inl rfl) (pe_op op_mod (pe_dget hu (pv 0) pe_str (fun _ _ => rfl)) (pv 1)))
(pss_cons /- pen['left'] = pen['left'] // many -/ (ps_dput hu (pv 0) pe_str (pe_op op_fdivW (pe_dget hu (pv 0) pe_str (fun _ _ => rfl)) (pv 1)) rfl)
(pss_one /- return digit -/ (ps_ret (pv 2)))))
pss_nil)
(pss_cons /- turn = pen['turn'] -/ (ps_set (i := 3) sc_draw.nd rfl (Or.inl rfl) (pe_dget hu (pv 0) pe_str (fun _ _ => rfl)))
(pss_cons /- pen['turn'] = turn + 1 -/ (ps_dput hu (pv 0) pe_str (pe_op op_add (pv 3) pe_int) rfl)
(pss_cons /- cell = 37 * turn + 13 -/ (ps_set (i := 4) sc_draw.nd rfl (Or.inl rfl) (pe_op op_add (pe_op op_mulX pe_int (pv 3)) pe_int))
(C8.pss_cut /- if pen['cells'] != []: -/ (ps_if (pt_cmpR (op_neD hr.units) (pe_dget hu (pv 0) pe_str (fun _ _ => rfl)) (pe_lst pa_nil) (nomark _))
(pss_one /- cell = pen['cells'][turn % len(pen['cells'])] -/ (ps_set (i := 4) sc_draw.nd rfl (Or.inl rfl) (pe_ix ix_list (pe_dget hu (pv 0) pe_str (fun _ _ => rfl)) (pe_op op_mod (pv 3) (pe_callB call_len_seq (by rfl) Z.len (by decide +kernel) (pa_cons (pe_dget hu (pv 0) pe_str (fun _ _ => rfl)) pa_nil))) (fun _ _ => rfl))))
pss_nil)
(C8.pss_cut /- if turn < len(pen['cells']) and abs(cell) >= 10 ** 18: -/ (ps_if (PW.pt (pw_and (pt_cmpR op_lt (pv 3) (pe_callB call_len_seq (by rfl) Z.len (by decide +kernel) (pa_cons (pe_dget hu (pv 0) pe_str (fun _ _ => rfl)) pa_nil)) (nomark _)) (pw_and1 (pt_cmpR op_ge (pe_callB call_abs (by rfl) Z.abs (by decide +kernel) (pa_cons (pv 4) pa_nil)) (pe_op op_powX pe_int pe_int) (nomark _)))))
(pss_cons /- pen['left'] = (abs(cell) - 10 ** 18) // many -/ (ps_dput hu (pv 0) pe_str (pe_op op_fdivW (pe_op op_sub (pe_callB call_abs (by rfl) Z.abs (by decide +kernel) (pa_cons (pv 4) pa_nil)) (pe_op op_powX pe_int pe_int)) (pv 1)) rfl)
(pss_one /- return (abs(cell) - 10 ** 18) % many -/ (ps_ret (pe_op op_mod (pe_op op_sub (pe_callB call_abs (by rfl) Z.abs (by decide +kernel) (pa_cons (pv 4) pa_nil)) (pe_op op_powX pe_int pe_int)) (pv 1)))))
pss_nil)
(pss_cons /- primes = [2147483647, 2147483629, 2147483587, 2147483579, 2147483563] -/ (ps_set (i := 5) sc_draw.nd rfl (Or.inl rfl) (pe_lst (pa_cons pe_int (pa_cons pe_int (pa_cons pe_int (pa_cons pe_int (pa_cons pe_int pa_nil)))))))
(pss_cons /- prime = primes[turn % 5] -/ (ps_set (i := 6) sc_draw.nd rfl (Or.inl rfl) (pe_ix ix_list (pv 5) (pe_op op_mod (pv 3) pe_int) (fun _ _ => rfl)))
(pss_cons /- drawn = (cell % prime * 48271 + 40507 * turn * turn + 31) % prime -/ (ps_set (i := 7) sc_draw.nd rfl (Or.inl rfl) (pe_op op_mod (pe_op op_add (pe_op op_add (pe_op op_mulX (pe_op op_mod (pv 4) (pv 6)) pe_int) (pe_op op_mulX (pe_op op_mulX pe_int (pv 3)) (pv 3))) pe_int) (pv 6)))
(pss_cons /- drawn = drawn * (drawn + 69621) % primes[(turn + 2) % 5] -/ (ps_set (i := 7) sc_draw.nd rfl (Or.inl rfl) (pe_op op_mod (pe_op op_mulX (pv 7) (pe_op op_add (pv 7) pe_int)) (pe_ix ix_list (pv 5) (pe_op op_mod (pe_op op_add (pv 3) pe_int) pe_int) (fun _ _ => rfl))))
(pss_one /- return drawn * drawn % 2147483549 // 64 % many -/ (ps_ret (pe_op op_mod (pe_op op_fdivW (pe_op op_mod (pe_op op_mulX (pv 7) (pv 7)) pe_int) pe_int) (pv 1)))))))))))))), ?_⟩
    refine ⟨_, rfl, p, _, rfl, get_left hp, l, 0, rfl, rfl, _, rfl, ?_⟩
    refine ite2 (fun h => ?_) (fun h => ?_)
    · refine ⟨_, rfl, p, _, rfl, get_left hp, _, rfl, _, _, rfl, rfl, hm, ?_⟩
      refine ⟨_, rfl, p, _, rfl, get_left hp, _, rfl, _, _, rfl, rfl,
        divW_ok hm bm (by decide) (by decide), _, rfl, p, _, rfl,
        dput_left hp _, ?_⟩
      refine ⟨_, rfl, ?_⟩
      refine q _ _ Keep.refl.set ⟨cs, b, l / m, upd_same, ?_, hlen,
        hbig, by omega, hl.div hm⟩ (Int.emod_nonneg _ (by omega))
        (Int.emod_lt_of_pos _ hm)
      rw [upd_ne npc]; exact hc
    · have bb : BB 60 (b : Int) := by
        show b < _
        have : (2 : Nat) ^ 60 = 1152921504606846976 := by decide
        omega
      have c37 : BB 64 37 := by show _ < _; decide
      have c13 : BB 64 13 := by show _ < _; decide
      -- turn, pen['turn'], cell
      refine ⟨_, rfl, p, _, rfl, get_begun hp, ?_⟩
      refine ⟨_, rfl, _, _, rfl, rfl, _, rfl, p, _, rfl,
        dput_begun hp _, ?_⟩
      have hp1 : (upd H p (.dK (penKvs c ((b : Int) + 1) l))) p =
        some (.dK (penKvs c ((b : Int) + 1) l)) := upd_same
      have hc1 : (upd H p (.dK (penKvs c ((b : Int) + 1) l))) c =
        some (.lst (cs.map V.int)) := by rw [upd_ne npc]; exact hc
      have k1 : Keep p H (upd H p (.dK (penKvs c ((b : Int) + 1) l))) :=
        Keep.refl.set
      generalize upd H p (.dK (penKvs c ((b : Int) + 1) l)) = H1
        at hp1 hc1 k1
      refine ⟨_, rfl, _, _, rfl, rfl, mulX_ok c37 bb (by decide), _, _,
        rfl, rfl, ?_⟩
      -- if pen['cells'] != []
      refine ⟨fun σ H2 => ∃ z : Int, BB 1048576 z ∧
        σ = [some (.ref p), some (.int m), none, some (.int (b : Int)),
          some (.int z), none, none, none] ∧
        H2 p = some (.dK (penKvs c ((b : Int) + 1) l)) ∧
        H2 c = some (.lst (cs.map V.int)) ∧ Keep p H H2, ?_, ?_⟩
      · refine ⟨_, rfl, p, _, rfl, get_cells hp1, Nat.zero_le _,
          fun q1 nq => ?_⟩
        refine ⟨.list (cs.map .int), .list (([] : List Int).map .int),
          dpL (.of (upd_of nq hc1)), dpL (.of upd_same), shapedL _,
          shapedL [], _, rfl, ?_⟩
        have hp2 := upd_of (o := .lst []) nq hp1
        have hc2 := upd_of (o := .lst []) nq hc1
        have k2 : Keep p H (upd H1 q1 (.lst [])) := k1.new nq
        rw [eqvL]
        by_cases he : cs = []
        · refine if' (by rw [decide_eq_true he]; rfl) ?_
          refine ⟨_, ?_, rfl, hp2, hc2, k2⟩
          exact (((c37.mul bb).add (c13.mono (by decide))).mono (by decide))
        · refine it (by rw [decide_eq_false he]; rfl) ?_
          have hl0 : 0 < cs.length := List.length_pos_iff.mpr he
          have hj : b % cs.length < cs.length := Nat.mod_lt _ hl0
          refine ⟨_, rfl, p, _, rfl, get_cells hp2, _, rfl, _, rfl, p,
            _, rfl, get_cells hp2, c, _, rfl, .inl (.of hc2), _, _,
            rfl, rfl, ?_, c, _, _, .int cs[b % cs.length], rfl, rfl,
            .of hc2, ?_, ?_⟩
          · rw [List.length_map]; omega
          · refine at_of (j := b % cs.length) ?_ ?_
            · rw [List.length_map]; rfl
            · rw [List.getElem?_map, List.getElem?_eq_getElem hj]; rfl
          · exact ⟨_, hbig _ (List.getElem_mem hj), rfl, hp2, hc2, k2⟩
      · rintro σ H2 ⟨z, bz, rfl, hp2, hc2, k2⟩
        have cp : CPowX 10 18 := ⟨by decide, by decide +kernel⟩
        have e18 : (10 : Int) ^ (18 : Int).toNat =
          1000000000000000000 := by decide
        refine ⟨fun σ H3 => H3 = H2 ∧ σ = [some (.ref p),
          some (.int m), none, some (.int (b : Int)), some (.int z),
          none, none, none], ?_, ?_⟩
        · refine ⟨_, rfl, _, rfl, p, _, rfl, get_cells hp2, c, _, rfl,
            .inl (.of hc2), _, _, rfl, rfl, _, rfl, ?_⟩
          refine ite2 (fun h1 => ?_) (fun h1 => iteF ⟨rfl, rfl⟩)
          refine ⟨_, rfl, z, rfl, _, _, rfl, rfl, cp, _, _, rfl, rfl,
            _, rfl, ?_⟩
          refine ite2 (fun h2 => ?_) (fun h2 => ⟨rfl, rfl⟩)
          rw [e18] at h2
          have h3 := of_decide_eq_true h2
          refine ⟨_, rfl, z, rfl, _, _, rfl, rfl, cp, _, _, rfl, rfl,
            _, rfl, _, _, rfl, rfl, divW_ok hm bm (by decide)
            (by decide), _, rfl, p, _, rfl, dput_left hp2 _, ?_⟩
          refine ⟨_, rfl, z, rfl, _, _, rfl, rfl, cp, _, _, rfl, rfl,
            _, rfl, _, _, rfl, rfl, hm, ?_⟩
          refine q _ _ k2.set ⟨cs, b + 1, _, upd_same, ?_, hlen, hbig,
            by omega, ?_⟩ (Int.emod_nonneg _ (by omega))
            (Int.emod_lt_of_pos _ hm)
          · rw [upd_ne npc]; exact hc2
          · refine BB.div ?_ hm
            rw [e18]
            refine bz.abs.le ?_
            omega
        · rintro σ H3 ⟨rfl, rfl⟩
          have c48 : BB 64 48271 := by show _ < _; decide
          have c40 : BB 64 40507 := by show _ < _; decide
          have c31 : BB 64 31 := by show _ < _; decide
          have c69 : BB 64 69621 := by show _ < _; decide
          refine ⟨by show 5 ≤ sizeLine; decide, fun L nL => ?_⟩
          have gL : (upd H3 L (.lst prC)) L = some (.lst prC) := upd_same
          have hp4 := upd_of (o := .lst prC) nL hp2
          have hc4 := upd_of (o := .lst prC) nL hc2
          have k4 : Keep p H (upd H3 L (.lst prC)) := k2.new nL
          show _
          obtain ⟨pr, p0, pb, pg⟩ := prC_get (b % 5) (Nat.mod_lt _ (by decide))
          obtain ⟨pr2, q0, qb, qg⟩ := prC_get ((b + 2) % 5)
            (Nat.mod_lt _ (by decide))
          -- prime = primes[turn % 5]
          refine ⟨_, rfl, _, rfl, _, _, rfl, rfl,
            (by show (0 : Int) < 5; decide), L, prC, _, .int pr, rfl, rfl,
            .of gL, at_of (j := b % 5) rfl pg, ?_⟩
          -- drawn
          have zm := BB.mod (z := z) p0 pb
          have zz := mulX_ok zm c48 (by decide)
          have t1 := mulX_ok c40 bb (by decide)
          have t2 := mulX_ok (c40.mul bb) bb (by decide)
          refine ⟨_, rfl, _, rfl, _, _, rfl, rfl, p0, _, _, rfl, rfl, zz, ?_⟩
          refine ⟨_, rfl, _, _, rfl, rfl, t1, _, rfl, _, _, rfl, rfl, t2,
            _, _, rfl, rfl, _, _, rfl, rfl, _, rfl, _, _, rfl, rfl, p0, ?_⟩
          have db := BB.mod (z := (z % pr * 48271 + 40507 * (b : Int) * (b : Int) + 31)) p0 pb
          refine ⟨_, rfl, _, rfl, _, _, rfl, rfl, _, _, rfl, rfl,
            mulX_ok db ((db.mono (show 32 ≤ 64 by decide)).add c69) (by decide),
            ?_⟩
          refine ⟨_, rfl, _, rfl, _, _, rfl, rfl, _, _, rfl, rfl,
            (by show (0 : Int) < 5; decide), L, prC, _, .int pr2, rfl, rfl,
            .of gL, at_of (j := (b + 2) % 5) rfl qg, _, _, rfl, rfl, q0, ?_⟩
          have eb := BB.mod (z := ((z % pr * 48271 + 40507 * (b : Int) * (b : Int) + 31) % pr *
            ((z % pr * 48271 + 40507 * (b : Int) * (b : Int) + 31) % pr + 69621))) q0 qb
          refine ⟨_, rfl, _, rfl, _, _, rfl, rfl, mulX_ok eb eb (by decide),
            _, _, rfl, rfl, (by show (0 : Int) < 2147483549; decide), ?_⟩
          refine ⟨_, _, rfl, rfl, divW_ok (k := 64) (by decide)
            (by show _ < _; decide) (by decide) (by decide), _, rfl, _, _,
            rfl, rfl, hm, ?_⟩
          refine q _ _ k4 ⟨cs, b + 1, l, hp4, hc4, hlen, hbig, by omega, hl⟩
            (Int.emod_nonneg _ (by omega)) (Int.emod_lt_of_pos _ hm)
theorem ok_pen {f : Addr} {fd : FuncData}
    (F : Fun K "_law_pen" "_law_pen" s_pen f fd) (Z : Zs mg) :
    FnOk P w K mg base CX0 1 f fd ["script"] (spPen K) := by
  refine F.ok sc_pen (fun vs H Q E h => ?_)
    (fun cdv A outer s H vs Q E hr h => ?_)
  · obtain ⟨a, ns, rfl, _⟩ := h
    rfl
  · obtain ⟨a, ns, rfl, hs, hl, hb, q⟩ := h
    have hu := hu_of hr
    refine ⟨_, (pss_one /- return {'cells': list(script[:63]), 'turn': 0, 'left': 0} -/ (ps_ret (pe_disp (pps_cons pe_str (pe_callTy call_list_of (by rfl) Z.list (by decide +kernel) (pa_cons (pe_slice sl_list (pv 0) po_none (po_some pe_int)) pa_nil)) (pps_cons pe_str pe_int (pps_cons pe_str pe_int pps_nil))) (by rfl) (by rfl) (fun z => by cases z) (by decide)))), ?_⟩
    intro p np
    have s1 : Same H (upd H p (.dK [])) := same_new (Same.refl H) np
    refine ⟨_, rfl, 63, rfl, a, _, rfl, s1.seq hs, fun c0 nc0 => ?_⟩
    have hc0 := cut_to (ns.map V.int) 63 (by rw [List.length_map]; exact hl)
    rw [show ((63 : Nat) : Int) = 63 from rfl] at hc0
    rw [hc0]
    have s2 : Same H (upd (upd H p (.dK [])) c0 (.lst (ns.map V.int))) :=
      same_new s1 nc0
    have hp2 : (upd (upd H p (.dK [])) c0 (.lst (ns.map V.int))) p =
      some (.dK []) := upd_of nc0 upd_same
    have hc2 : (upd (upd H p (.dK [])) c0 (.lst (ns.map V.int))) c0 =
      some (.lst (ns.map V.int)) := upd_same
    generalize upd (upd H p (.dK [])) c0 (.lst (ns.map V.int)) = H2
      at s2 hp2 hc2 ⊢
    refine ⟨c0, _, rfl, .inl (.of hc2), fun D nD => ?_⟩
    refine ⟨upd_of nD hp2, penKvs D 0 0, rfl, by show 3 ≤ 15; decide, ?_⟩
    rw [merge_pen]
    have npD : D ≠ p := (ne_of_none hp2 nD).symm
    refine q _ p D ?_ np (s2.free nD)
      ⟨ns, 0, 0, upd_same, ?_, hl, hb, Nat.le_refl _, BB.zero⟩
    · intro b o hb'
      rw [upd_ne (ne_of_none hb' np)]; exact same_new s2 nD b o hb'
    · rw [upd_ne npD]; exact upd_same
theorem ok_pick {f : Addr} {fd : FuncData}
    (F : Fun K "_law_pick" "_law_pick" s_pick f fd) (Z : Zs mg)
    (D_draw : Dd P w K mg base "_law_draw" 1 ["pen", "many"] spDraw) :
    FnOk P w K mg base CX0 2 f fd ["pen", "some"] (spPick K) := by
  refine F.ok sc_pick (fun vs H Q E h => ?_)
    (fun cdv A outer s H vs Q E hr h => ?_)
  · obtain ⟨p, c, a, n, xs, rfl, _⟩ := h
    rfl
  · obtain ⟨p, c, a, n, xs, rfl, hs, h0, hl, P0, hn, q⟩ := h
    have hu := hu_of hr
    refine ⟨_, (pss_one /- return some[_law_draw(pen, len(some))] -/ (ps_ret (pe_ix ix_list (pv 1) (pe_d D_draw (hr.mono (by decide)) (by rfl) (pa_cons (pv 0) (pa_cons (pe_callB call_len_seq (by rfl) Z.len (by decide +kernel) (pa_cons (pv 1) pa_nil)) pa_nil))) (fun _ _ => rfl)))), ?_⟩
    obtain ⟨k, hp⟩ := P0.p
    refine ⟨_, rfl, _, rfl, _, rfl, a, xs, rfl, .inl hs, p, c, n, _,
      rfl, by omega, ?_, P0, hn, fun H' d kp P1 d0 d1 => ?_⟩
    · exact BB.mono (BB.small (by omega)) (by decide)
    · obtain ⟨j, rfl⟩ := Int.eq_ofNat_of_zero_le d0
      have hj : j < xs.length := by omega
      refine ⟨a, xs, _, xs[j], rfl, rfl, kp.sq hp hs,
        at_of rfl (List.getElem?_eq_getElem hj), ?_⟩
      exact q H' _ kp P1 (List.getElem_mem hj)
end

abbrev s_draw3 : Stmt := s_draw
theorem ok_draw3 {P : Program} {w : World} {K : PySem.W.Frag}
    {mg : Str → Option Value} {base : Heap} {f : Addr} {fd : FuncData}
    (F : Fun K "_law_draw" "_law_draw" s_draw3 f fd) (Z : Zs mg) :
    FnOk P w K mg base CX0 1 f fd ["pen", "many"] sp_draw3 := by
  refine fnLess (ok_draw F Z) fun vs H Q E ⟨p, n, m, rs, e, hc, h1, q⟩ => ?_
  obtain ⟨c, P, k⟩ := hc.penE
  refine ⟨p, c, n, (m : Nat), e, by omega, ?_, P, by omega,
    fun H' d kp P' d0 d1 => ?_⟩
  · exact BB.mono (BB.small (by omega)) (by decide)
  · obtain ⟨d, rfl⟩ := Int.eq_ofNat_of_zero_le d0
    exact q H' d (k H' _ kp P') (by omega)
abbrev s_pick3 : Stmt := s_pick
theorem ok_pick3 {P : Program} {w : World} {K : PySem.W.Frag}
    {mg : Str → Option Value} {base : Heap} {f : Addr} {fd : FuncData}
    (F : Fun K "_law_pick" "_law_pick" s_pick3 f fd) (Z : Zs mg)
    (D_draw : Dd P w K mg base "_law_draw" 1 ["pen", "many"] spDraw) :
    FnOk P w K mg base CX0 2 f fd ["pen", "some"] (sp_pick3 K) := by
  refine fnLess (ok_pick F Z D_draw) fun vs H Q E ⟨p, a, n, rs, xs, e, hc, hs, h1, q⟩ => ?_
  obtain ⟨c, P, k⟩ := hc.penE
  exact ⟨p, c, a, n, xs, e, hs, h1.1, h1.2.1, P, h1.2.2,
    fun H' v kp P' hv => q H' v (k H' _ kp P') hv⟩
abbrev s_pen3 : Stmt := s_pen
theorem ok_pen3 {P : Program} {w : World} {K : PySem.W.Frag}
    {mg : Str → Option Value} {base : Heap} {f : Addr} {fd : FuncData}
    (F : Fun K "_law_pen" "_law_pen" s_pen3 f fd) (Z : Zs mg) :
    FnOk P w K mg base CX0 1 f fd ["script"] (sp_pen3 K) := by
  refine fnLess (ok_pen F Z) fun vs H Q E ⟨a, ns, e, h1, h2, h3, q⟩ => ?_
  refine ⟨a, ns, e, h1, h2, h3, fun H' p c s np nc P => q H' p ?_⟩
  refine (Sep.sql0 h1).more (r' := .pen p 0) (F' := [p, c]) s (fun a ha => ?_) ⟨c, rfl, P⟩
  rcases List.mem_cons.mp ha with z | z
  · rw [z]; exact np
  · rw [List.mem_singleton] at z; rw [z]; exact nc

structure sp_is_number (vs : List V) (H : Hp) (Q : VK) (E : XK) : Prop where
  ex : ∃ (v : V) (rs : List Res), vs = [v] ∧
    (Sep H rs) ∧
    (ThR rs v) ∧
    (∀ H', Sep H' rs → Q (.bl (isNumV v)) H')
theorem ok_is_number {P : Program} {w : World} {K : PySem.W.Frag}
    {mg : Str → Option Value} {base : Heap}
    {f : Addr} {fd : FuncData}
    (F : Fun K "is_number" "is_number" s_is_number f fd) (Z : Zs mg) :
    FnOk P w K mg base CX0 1 f fd ["thing"] sp_is_number := by
  refine F.ok sc_is_number (fun vs H Q E h => ?_)
    (fun cdv A outer s H vs Q E hr h => ?_)
  · obtain ⟨v, rs, rfl, _⟩ := h.ex
    rfl
  obtain ⟨v, rs, rfl, hc, hv, q⟩ := h.ex
  have hu := hu_of hr
  refine ⟨_, (pss_one /- return isinstance(thing, int) and (not isinstance(thing, bool)) and (thing >= 0) -/ (ps_ret (pe_and (pe_callB call_isi (by rfl) Z.isinstance (by decide +kernel) (pa_cons (pv 0) (pa_cons (pe_bltn (v := .ty "int") (by rfl) Z.int (by decide +kernel) rfl) pa_nil))) (pe_and (pe_not (pe_callB call_isi (by rfl) Z.isinstance (by decide +kernel) (pa_cons (pv 0) (pa_cons (pe_bltn (v := .ty "bool") (by rfl) Z.bool (by decide +kernel) rfl) pa_nil)))) (pe_one (pe_cmpR op_ge (pv 0) (pe_nat 0) (nomark _))))))), ?_⟩
  obtain ⟨n, hn⟩ := hv.ex
  have ty := hn.of (K := K) hc
  replace q := q H hc
  by_cases hi : ∃ i, v = .int i
  · obtain ⟨i, rfl⟩ := hi
    cases (show n = _ from hn)
    refine ⟨_, rfl, .int i, .ty "int", .type "int", .type "int", true,
      rfl, .ty _, .base (.int i), kit_ty (by decide +kernel), true, rfl,
      iteT ?_⟩
    refine ⟨_, rfl, .int i, .ty "bool", .type "int", .type "bool", false,
      rfl, .ty _, .base (.int i), kit_ty (by decide +kernel), false, rfl,
      true, rfl, iteT ?_⟩
    exact ⟨_, rfl, _, _, rfl, rfl, q⟩
  by_cases hb : ∃ b, v = .bl b
  · obtain ⟨b, rfl⟩ := hb
    cases (show n = _ from hn)
    refine ⟨_, rfl, .bl b, .ty "int", .type "bool", .type "int", true,
      rfl, .ty _, .base (.bl b), kit_ty (by decide +kernel), true, rfl,
      iteT ?_⟩
    refine ⟨_, rfl, .bl b, .ty "bool", .type "bool", .type "bool", true,
      rfl, .ty _, .base (.bl b), kit_ty (by decide +kernel), true, rfl,
      false, rfl, iteF ?_⟩
    exact q
  · obtain ⟨k1, k2, k3⟩ := hn.noInt (fun i z => hi ⟨i, z⟩) (fun b z => hb ⟨b, z⟩)
    rw [k3] at q
    refine ⟨_, rfl, v, .ty "int", .type n, .type "int", false,
      rfl, .ty _, .base ty, kit_ty k1, false, rfl, iteF ?_⟩
    exact q

structure sp_law_is_number (vs : List V) (H : Hp) (Q : VK) (E : XK) : Prop where
  ex : ∃ (v : V) (rs : List Res), vs = [v] ∧
    (Sep H rs) ∧
    (ThR rs v) ∧
    (∀ H', Sep H' rs → Q (.bl (isNumV v)) H')
theorem ok_law_is_number {P : Program} {w : World} {K : PySem.W.Frag}
    {mg : Str → Option Value} {base : Heap}
    {f : Addr} {fd : FuncData}
    (F : Fun K "_law_is_number" "_law_is_number" s_law_is_number f fd) (Z : Zs mg) :
    FnOk P w K mg base CX0 1 f fd ["thing"] sp_law_is_number := by
  refine F.ok sc_law_is_number (fun vs H Q E h => ?_)
    (fun cdv A outer s H vs Q E hr h => ?_)
  · obtain ⟨v, rs, rfl, _⟩ := h.ex
    rfl
  obtain ⟨v, rs, rfl, hc, hv, q⟩ := h.ex
  have hu := hu_of hr
  refine ⟨_, (pss_one /- return isinstance(thing, int) and (not isinstance(thing, bool)) and (thing >= 0) -/ (ps_ret (pe_and (pe_callB call_isi (by rfl) Z.isinstance (by decide +kernel) (pa_cons (pv 0) (pa_cons (pe_bltn (v := .ty "int") (by rfl) Z.int (by decide +kernel) rfl) pa_nil))) (pe_and (pe_not (pe_callB call_isi (by rfl) Z.isinstance (by decide +kernel) (pa_cons (pv 0) (pa_cons (pe_bltn (v := .ty "bool") (by rfl) Z.bool (by decide +kernel) rfl) pa_nil)))) (pe_one (pe_cmpR op_ge (pv 0) (pe_nat 0) (nomark _))))))), ?_⟩
  obtain ⟨n, hn⟩ := hv.ex
  have ty := hn.of (K := K) hc
  replace q := q H hc
  by_cases hi : ∃ i, v = .int i
  · obtain ⟨i, rfl⟩ := hi
    cases (show n = _ from hn)
    refine ⟨_, rfl, .int i, .ty "int", .type "int", .type "int", true,
      rfl, .ty _, .base (.int i), kit_ty (by decide +kernel), true, rfl,
      iteT ?_⟩
    refine ⟨_, rfl, .int i, .ty "bool", .type "int", .type "bool", false,
      rfl, .ty _, .base (.int i), kit_ty (by decide +kernel), false, rfl,
      true, rfl, iteT ?_⟩
    exact ⟨_, rfl, _, _, rfl, rfl, q⟩
  by_cases hb : ∃ b, v = .bl b
  · obtain ⟨b, rfl⟩ := hb
    cases (show n = _ from hn)
    refine ⟨_, rfl, .bl b, .ty "int", .type "bool", .type "int", true,
      rfl, .ty _, .base (.bl b), kit_ty (by decide +kernel), true, rfl,
      iteT ?_⟩
    refine ⟨_, rfl, .bl b, .ty "bool", .type "bool", .type "bool", true,
      rfl, .ty _, .base (.bl b), kit_ty (by decide +kernel), true, rfl,
      false, rfl, iteF ?_⟩
    exact q
  · obtain ⟨k1, k2, k3⟩ := hn.noInt (fun i z => hi ⟨i, z⟩) (fun b z => hb ⟨b, z⟩)
    rw [k3] at q
    refine ⟨_, rfl, v, .ty "int", .type n, .type "int", false,
      rfl, .ty _, .base ty, kit_ty k1, false, rfl, iteF ?_⟩
    exact q

/-! ### what the laws of evenness share -/
structure sp_great (vs : List V) (H : Hp) (Q : VK) (E : XK) : Prop where
  ex : ∃ (p : Addr) (n m : Nat) (rs : List Res), vs = [.ref p, .int (m : Nat)] ∧
    (Sep H (.pen p n :: rs)) ∧
    (m ≤ 1000 ∧ n < 100000000000000000) ∧
    (∀ H' (v : Nat), Sep H' (.pen p (n + m) :: rs) → v < 10 ^ m → Q (.int (v : Nat)) H')
theorem ok_great {P : Program} {w : World} {K : PySem.W.Frag}
    {mg : Str → Option Value} {base : Heap}
    {f : Addr} {fd : FuncData}
    (F : Fun K "_law_great" "_law_great" s_great f fd) (Z : Zs mg)
    (D_draw3 : Dd P w K mg base "_law_draw" 1 ["pen", "many"] sp_draw3) :
    FnOk P w K mg base CX0 2 f fd ["pen", "figures"] sp_great := by
  refine F.ok sc_great (fun vs H Q E h => ?_)
    (fun cdv A outer s H vs Q E hr h => ?_)
  · obtain ⟨p, n, m, rs, rfl, _⟩ := h.ex
    rfl
  obtain ⟨p, n, m, rs, rfl, hc, hm, q⟩ := h.ex
  have hu := hu_of hr
  refine ⟨_, (pss_cons /- found = 0 -/ (ps_set (i := 2) sc_great.nd rfl (Or.inl rfl) (pe_nat 0))
(pss_cons /- for k in range(figures): -/ (ps_for PassesOwn.never rfl (pi_rgN1 (by rfl) Z.range (pa_cons (pv 1) pa_nil)) (pg_name (i := 3) sc_great.nd rfl (Or.inl rfl))
(pss_one /- found = 10 * found + _law_draw(pen, 10) -/ (ps_set (i := 2) sc_great.nd rfl (Or.inl rfl) (pe_op op_addN (pe_op op_mulN (pe_nat 10) (pv 2)) (pe_d D_draw3 (hr.mono (by decide)) (by rfl) (pa_cons (pv 0) (pa_cons (pe_nat 10) pa_nil)))))))
(pss_one /- return found -/ (ps_ret (pv 2))))), ?_⟩
  repeat (first | refine ⟨_, _, rfl, rfl, ?_⟩ | refine ⟨_, _, rfl, ?_⟩ | refine ⟨_, rfl, ?_⟩ | refine ⟨_, rfl, rfl, ?_⟩ | refine ⟨rfl, ?_⟩)
  refine ⟨by omega, ?_⟩
  refine forR (n := m) (fun i σ rs' => ∃ v : Nat,
    (∃ v_k : Option V, σ = [some (.ref p), some (.int (m : Nat)), some (.int (v : Nat)), v_k]) ∧
    rs' = .pen p (n + i) :: rs ∧ v < 10 ^ i) (.mk' hc ⟨0, (by (repeat (apply Exists.intro)); exact rfl), rfl, by decide⟩) ?_ ?_
  · rintro i σ rs' H hi ⟨v, ⟨v_k, rfl⟩, rfl, hv⟩ hc
    repeat (first | refine ⟨_, _, rfl, rfl, ?_⟩ | refine ⟨_, _, rfl, ?_⟩ | refine ⟨_, rfl, ?_⟩ | refine ⟨_, rfl, rfl, ?_⟩ | refine ⟨rfl, ?_⟩)
    refine ⟨⟨4, 4 * i, by decide, NB.ten i hv, by omega⟩, ?_⟩
    repeat (first | refine ⟨_, _, rfl, rfl, ?_⟩ | refine ⟨_, _, rfl, ?_⟩ | refine ⟨_, rfl, ?_⟩ | refine ⟨_, rfl, rfl, ?_⟩ | refine ⟨rfl, ?_⟩)
    refine ⟨_, _, _, _, rfl, hc.sub (by repeat (first | with_reducible exact Sub.refl | exact Sub.nil | (apply Sub.pen; (focus ((repeat (first | exact Pick.here | apply Pick.there | assumption)); done)); (focus omega)) | (apply Sub.cons; (focus ((repeat (first | exact Pick.here | apply Pick.there | assumption)); done))) | apply Sub.drop)), by omega, fun H d hc hd => ?_⟩
    repeat (first | refine ⟨_, _, rfl, rfl, ?_⟩ | refine ⟨_, _, rfl, ?_⟩ | refine ⟨_, rfl, ?_⟩ | refine ⟨_, rfl, rfl, ?_⟩ | refine ⟨rfl, ?_⟩)
    have h2 : 10 * v + d < 10 ^ (i + 1) := by rw [Nat.pow_succ]; omega
    exact .mk' hc ⟨_, (by (repeat (apply Exists.intro)); exact rfl), rfl, h2⟩
  · rintro σ rs' H ⟨v, ⟨v_k, rfl⟩, rfl, hv⟩ hc
    exact ⟨_, rfl, q H v hc hv⟩
structure sp_far (vs : List V) (H : Hp) (Q : VK) (E : XK) : Prop where
  ex : ∃ (p : Addr) (n : Nat) (rs : List Res), vs = [.ref p] ∧
    (Sep H (.pen p n :: rs)) ∧
    (n < 10000000000000000) ∧
    (∀ H' (v : Nat), Sep H' (.pen p (n + 60) :: rs) → v < 10 ^ 59 → Q (.int (v : Nat)) H')
theorem ok_far {P : Program} {w : World} {K : PySem.W.Frag}
    {mg : Str → Option Value} {base : Heap}
    {f : Addr} {fd : FuncData}
    (F : Fun K "_law_far" "_law_far" s_far f fd) (Z : Zs mg)
    (D_great : Dd P w K mg base "_law_great" 2 ["pen", "figures"] sp_great)
    (D_draw3 : Dd P w K mg base "_law_draw" 1 ["pen", "many"] sp_draw3) :
    FnOk P w K mg base CX0 3 f fd ["pen"] sp_far := by
  refine F.ok sc_far (fun vs H Q E h => ?_)
    (fun cdv A outer s H vs Q E hr h => ?_)
  · obtain ⟨p, n, rs, rfl, _⟩ := h.ex
    rfl
  obtain ⟨p, n, rs, rfl, hc, hm, q⟩ := h.ex
  have hu := hu_of hr
  refine ⟨_, (pss_one /- return _law_great(pen, [1, 2, 4, 20, 59][_law_draw(pen, 5)]) -/ (ps_ret (pe_d D_great (hr.mono (by decide)) (by rfl) (pa_cons (pv 0) (pa_cons (pe_ix (ix_listN (K := K)) (pe_lst' (pa_cons (pe_nat 1) (pa_cons (pe_nat 2) (pa_cons (pe_nat 4) (pa_cons (pe_nat 20) (pa_cons (pe_nat 59) pa_nil)))))) (pe_d D_draw3 (hr.mono (by decide)) (by rfl) (pa_cons (pv 0) (pa_cons (pe_nat 5) pa_nil))) (fun _ _ => rfl)) pa_nil))))), ?_⟩
  repeat (first | refine ⟨_, _, rfl, rfl, ?_⟩ | refine ⟨_, _, rfl, ?_⟩ | refine ⟨_, rfl, ?_⟩ | refine ⟨_, rfl, rfl, ?_⟩ | refine ⟨rfl, ?_⟩)
  (first | refine ⟨Nat.le_of_ble_eq_true rfl, fun L H nL => ?_⟩ | refine fun L H nL => ?_); replace hc := hc.new nL
  repeat (first | refine ⟨_, _, rfl, rfl, ?_⟩ | refine ⟨_, _, rfl, ?_⟩ | refine ⟨_, rfl, ?_⟩ | refine ⟨_, rfl, rfl, ?_⟩ | refine ⟨rfl, ?_⟩)
  replace hc := hc.re (nV [1, 2, 4, 20, 59])
  refine ⟨_, _, _, _, rfl, hc.sub (by repeat (first | with_reducible exact Sub.refl | exact Sub.nil | (apply Sub.pen; (focus ((repeat (first | exact Pick.here | apply Pick.there | assumption)); done)); (focus omega)) | (apply Sub.cons; (focus ((repeat (first | exact Pick.here | apply Pick.there | assumption)); done))) | apply Sub.drop)), by omega, fun H d hc hd => ?_⟩
  obtain ⟨x, hx, h59⟩ := pickN (l := [1, 2, 4, 20, 59]) hd (p := fun x => x ≤ 59) (by decide)
  have h59 : x ≤ 59 := h59
  refine ⟨L, _, d, _, rfl, rfl, (hc.sq (by (repeat (first | exact Pick.here | apply Pick.there | assumption)))), hx, ?_⟩
  refine ⟨_, _, _, _, rfl, hc.sub (by repeat (first | with_reducible exact Sub.refl | exact Sub.nil | (apply Sub.pen; (focus ((repeat (first | exact Pick.here | apply Pick.there | assumption)); done)); (focus omega)) | (apply Sub.cons; (focus ((repeat (first | exact Pick.here | apply Pick.there | assumption)); done))) | apply Sub.drop)), by omega, fun H v hc hv => ?_⟩
  exact q H v (hc.sub (by repeat (first | with_reducible exact Sub.refl | exact Sub.nil | (apply Sub.pen; (focus ((repeat (first | exact Pick.here | apply Pick.there | assumption)); done)); (focus omega)) | (apply Sub.cons; (focus ((repeat (first | exact Pick.here | apply Pick.there | assumption)); done))) | apply Sub.drop))) (Nat.lt_of_lt_of_le hv (Nat.pow_le_pow_right (by decide) h59))

/-! ### first numbers, greatest books -/
structure sp_halves (vs : List V) (H : Hp) (Q : VK) (E : XK) : Prop where
  ex : ∃ (b k : Nat) (rs : List Res), vs = [.int (b : Nat)] ∧
    (Sep H rs) ∧
    (NB k b) ∧
    (k ≤ 1000000) ∧
    (∀ H' g, Sep H' (.obj g (.lst (nV (hv b))) :: rs) → Q (.ref g) H')
theorem ok_halves {P : Program} {w : World} {K : PySem.W.Frag}
    {mg : Str → Option Value} {base : Heap}
    {f : Addr} {fd : FuncData}
    (F : Fun K "halves" "halves" s_halves f fd) (Z : Zs mg) :
    FnOk P w K mg base CX0 1 f fd ["book"] sp_halves := by
  refine F.ok sc_halves (fun vs H Q E h => ?_)
    (fun cdv A outer s H vs Q E hr h => ?_)
  · obtain ⟨b, k, rs, rfl, _⟩ := h.ex
    rfl
  obtain ⟨b, k, rs, rfl, hc, hb, hk, q⟩ := h.ex
  have hu := hu_of hr
  refine ⟨_, (pss_cons /- signs = [] -/ (ps_set (i := 1) sc_halves.nd rfl (Or.inl rfl) (pe_lst' pa_nil))
(pss_cons /- while book: -/ (ps_while PassesOwn.never (pt_intN (pv 0) (by intro _; rfl))
(pss_cons /- signs.append(2 * book % 3) -/ (ps_expr (pe_app (pv 1) (pe_op op_modNN (pe_op op_mulN (pe_nat 2) (pv 0)) (pe_nat 3))))
(pss_one /- book = 2 * book // 3 -/ (ps_set (i := 0) sc_halves.nd rfl (Or.inl rfl) (pe_op op_fdivN (pe_op op_mulN (pe_nat 2) (pv 0)) (pe_nat 3))))))
(pss_one /- return signs[::-1] -/ (ps_ret (pe_revN (K := K) (pv 1)))))), ?_⟩
  (first | refine ⟨Nat.le_of_ble_eq_true rfl, fun g H ng => ?_⟩ | refine fun g H ng => ?_); replace hc := hc.new ng
  have hl0 := hv_len hb
  refine ⟨RaP fun m σ rs' => ∃ acc : List Nat, (σ = [some (.int (m : Nat)), some (.ref g)]) ∧
      rs' = .obj g (.lst (nV acc)) :: rs ∧ hv b = hv m ++ acc.reverse ∧ m ≤ b,
    ⟨b, .mk' hc ⟨[], (by (repeat (apply Exists.intro)); exact rfl), rfl, by simp, Nat.le_refl _⟩⟩, ?_⟩
  rintro m σ H ⟨⟨rs', ⟨acc, rfl, rfl, e1, e2⟩, hc⟩⟩
  have hl1 : acc.length ≤ 2 * k := by
    rw [e1, List.length_append, List.length_reverse] at hl0; omega
  have hm := hb.le e2
  repeat (first | refine ⟨_, _, rfl, rfl, ?_⟩ | refine ⟨_, _, rfl, ?_⟩ | refine ⟨_, rfl, ?_⟩ | refine ⟨_, rfl, rfl, ?_⟩ | refine ⟨rfl, ?_⟩)
  refine iteN (fun h => ?_) (fun h => ?_)
  · refine ⟨_, fun _ _ h => h, ?_⟩
    repeat (first | refine ⟨_, _, rfl, rfl, ?_⟩ | refine ⟨_, _, rfl, ?_⟩ | refine ⟨_, rfl, ?_⟩ | refine ⟨_, rfl, rfl, ?_⟩ | refine ⟨rfl, ?_⟩)
    refine ⟨⟨_, hc.at (by (repeat (first | exact Pick.here | apply Pick.there | assumption)))⟩, ?_⟩
    repeat (first | refine ⟨_, _, rfl, rfl, ?_⟩ | refine ⟨_, _, rfl, ?_⟩ | refine ⟨_, rfl, ?_⟩ | refine ⟨_, rfl, rfl, ?_⟩ | refine ⟨rfl, ?_⟩)
    refine ⟨⟨2, k, by decide, hm, by omega⟩, ?_⟩
    repeat (first | refine ⟨_, _, rfl, rfl, ?_⟩ | refine ⟨_, _, rfl, ?_⟩ | refine ⟨_, rfl, ?_⟩ | refine ⟨_, rfl, rfl, ?_⟩ | refine ⟨rfl, ?_⟩)
    refine ⟨by decide, ?_⟩
    refine ⟨_, hc.at (by (repeat (first | exact Pick.here | apply Pick.there | assumption))), (by rw [nV_len]; omega), fun H eH => ?_⟩; replace hc := hc.put (by (repeat (first | exact Pick.here | apply Pick.there | assumption))) eH
    repeat (first | refine ⟨_, _, rfl, rfl, ?_⟩ | refine ⟨_, _, rfl, ?_⟩ | refine ⟨_, rfl, ?_⟩ | refine ⟨_, rfl, rfl, ?_⟩ | refine ⟨rfl, ?_⟩)
    refine ⟨⟨2, k, by decide, hm, by omega⟩, ?_⟩
    repeat (first | refine ⟨_, _, rfl, rfl, ?_⟩ | refine ⟨_, _, rfl, ?_⟩ | refine ⟨_, rfl, ?_⟩ | refine ⟨_, rfl, rfl, ?_⟩ | refine ⟨rfl, ?_⟩)
    refine ⟨⟨by decide, by decide⟩, ?_⟩
    refine ⟨2 * m / 3, by omega, .mk' hc ⟨acc ++ [2 * m % 3], (by (repeat (apply Exists.intro)); exact rfl), by rw [nV_app]; rfl, ?_, by omega⟩⟩
    rw [e1, hv_pos h, List.reverse_append, List.append_assoc]; rfl
  · repeat (first | refine ⟨_, _, rfl, rfl, ?_⟩ | refine ⟨_, _, rfl, ?_⟩ | refine ⟨_, rfl, ?_⟩ | refine ⟨_, rfl, rfl, ?_⟩ | refine ⟨rfl, ?_⟩)
    refine ⟨g, _, rfl, (hc.sq (by (repeat (first | exact Pick.here | apply Pick.there | assumption)))), fun y H nq => ?_⟩
    replace hc := hc.new nq
    subst h
    rw [hv_zero, List.nil_append] at e1
    have e : (nV acc).reverse = nV acc.reverse := (List.map_reverse ..).symm
    rw [e, ← e1] at hc
    exact q H _ (hc.sub (by repeat (first | with_reducible exact Sub.refl | exact Sub.nil | (apply Sub.pen; (focus ((repeat (first | exact Pick.here | apply Pick.there | assumption)); done)); (focus omega)) | (apply Sub.cons; (focus ((repeat (first | exact Pick.here | apply Pick.there | assumption)); done))) | apply Sub.drop)))
/-- the greatest book, or None -/
def gbV (x : Nat) : V := if x = 0 then .non else .int (gb x : Nat)
theorem gbV_pos {x : Nat} (h : x ≠ 0) : gbV x = .int (gb x : Nat) := if_neg h

/-! ### a book read from its halves; what is no list of signs is refused -/
def isListV (n : String) : Bool := n == "list" || n == "tuple"
theorem kit_two {K : PySem.W.Frag} {a x y : String} {b c : Bool} (h1 : kitB a x = some b) (h2 : kitB a y = some c) :
    PySem.W.kitAny K (.type a) [.type x, .type y] = some (b || c) := by
  refine kitAny_cons (kit_ty h1) (fun e => ?_) (fun e => by rw [e]; rfl)
  subst e
  exact kitAny_cons (kit_ty h2) (fun e => by subst e; exact kitAny_nil) (fun e => by rw [e]; rfl)
theorem kit_lt {K : PySem.W.Frag} {rs : List Res} {v : V} {n : String} (h : thTy rs v n) :
    PySem.W.kitAny K (.type n) [.type "list", .type "tuple"] = some (isListV n) := by
  cases v with
  | non => cases (show n = _ from h); exact kit_two (b := false) (c := false) (by decide +kernel) (by decide +kernel)
  | bl _ => cases (show n = _ from h); exact kit_two (b := false) (c := false) (by decide +kernel) (by decide +kernel)
  | int _ => cases (show n = _ from h); exact kit_two (b := false) (c := false) (by decide +kernel) (by decide +kernel)
  | str _ => cases (show n = _ from h); exact kit_two (b := false) (c := false) (by decide +kernel) (by decide +kernel)
  | ref a =>
    rcases h with ⟨e, _⟩ | ⟨e, _⟩ | ⟨e, _⟩
    · subst e; exact kit_two (b := true) (c := false) (by decide +kernel) (by decide +kernel)
    · subst e; exact kit_two (b := false) (c := true) (by decide +kernel) (by decide +kernel)
    · subst e; exact kit_two (b := false) (c := false) (by decide +kernel) (by decide +kernel)
  | _ => exact h.elim
structure sp_is_list (vs : List V) (H : Hp) (Q : VK) (E : XK) : Prop where
  ex : ∃ (v : V) (n : String) (rs : List Res), vs = [v] ∧
    (Sep H rs) ∧
    (thTy rs v n) ∧
    (∀ H', Sep H' rs → Q (.bl (isListV n)) H')
theorem ok_is_list {P : Program} {w : World} {K : PySem.W.Frag}
    {mg : Str → Option Value} {base : Heap}
    {f : Addr} {fd : FuncData}
    (F : Fun K "is_list" "is_list" s_is_list f fd) (Z : Zs mg) :
    FnOk P w K mg base CX0 1 f fd ["thing"] sp_is_list := by
  refine F.ok sc_is_list (fun vs H Q E h => ?_)
    (fun cdv A outer s H vs Q E hr h => ?_)
  · obtain ⟨v, n, rs, rfl, _⟩ := h.ex
    rfl
  obtain ⟨v, n, rs, rfl, hc, hv, q⟩ := h.ex
  have hu := hu_of hr
  refine ⟨_, (pss_one /- return isinstance(thing, (list, tuple)) -/ (ps_ret (pe_callB call_isiT (by rfl) Z.isinstance (by decide +kernel) (pa_cons (pv 0) (pa_cons (pe_tup' (pa_cons (pe_bltn (v := .ty "list") (by rfl) Z.list (by decide +kernel) rfl) (pa_cons (pe_bltn (v := .ty "tuple") (by rfl) Z.tuple (by decide +kernel) rfl) pa_nil))) pa_nil))))), ?_⟩
  repeat (first | refine ⟨_, _, rfl, rfl, ?_⟩ | refine ⟨_, _, rfl, ?_⟩ | refine ⟨_, rfl, ?_⟩ | refine ⟨_, rfl, rfl, ?_⟩ | refine ⟨rfl, ?_⟩)
  (first | refine ⟨Nat.le_of_ble_eq_true rfl, fun T H nT => ?_⟩ | refine fun T H nT => ?_); replace hc := hc.new nT
  have ty := hv.of (K := K) (hc.sub (by repeat (first | with_reducible exact Sub.refl | exact Sub.nil | (apply Sub.pen; (focus ((repeat (first | exact Pick.here | apply Pick.there | assumption)); done)); (focus omega)) | (apply Sub.cons; (focus ((repeat (first | exact Pick.here | apply Pick.there | assumption)); done))) | apply Sub.drop)))
  refine ⟨v, T, _, .type n, _, _, rfl, (hc.at (by (repeat (first | exact Pick.here | apply Pick.there | assumption)))), .cons (.ty _) (.cons (.ty _) .nil), .base ty, kit_lt hv, ?_⟩
  exact q H (hc.sub (by repeat (first | with_reducible exact Sub.refl | exact Sub.nil | (apply Sub.pen; (focus ((repeat (first | exact Pick.here | apply Pick.there | assumption)); done)); (focus omega)) | (apply Sub.cons; (focus ((repeat (first | exact Pick.here | apply Pick.there | assumption)); done))) | apply Sub.drop)))
/-- a sign: 0, 1 or 2 -/
def isSignV : V → Bool
  | .int i => decide (0 ≤ i ∧ i < 3)
  | _ => false
structure sp_is_sign (vs : List V) (H : Hp) (Q : VK) (E : XK) : Prop where
  ex : ∃ (v : V) (rs : List Res), vs = [v] ∧
    (Sep H rs) ∧
    (ThR rs v) ∧
    (∀ H', Sep H' rs → Q (.bl (isSignV v)) H')
theorem ok_is_sign {P : Program} {w : World} {K : PySem.W.Frag}
    {mg : Str → Option Value} {base : Heap}
    {f : Addr} {fd : FuncData}
    (F : Fun K "is_sign" "is_sign" s_is_sign f fd) (Z : Zs mg)
    (D_is_number : Dd P w K mg base "is_number" 1 ["thing"] sp_is_number) :
    FnOk P w K mg base CX0 2 f fd ["thing"] sp_is_sign := by
  refine F.ok sc_is_sign (fun vs H Q E h => ?_)
    (fun cdv A outer s H vs Q E hr h => ?_)
  · obtain ⟨v, rs, rfl, _⟩ := h.ex
    rfl
  obtain ⟨v, rs, rfl, hc, hv, q⟩ := h.ex
  have hu := hu_of hr
  refine ⟨_, (pss_one /- return is_number(thing) and thing < 3 -/ (ps_ret (pe_and (pe_d D_is_number (hr.mono (by decide)) (by rfl) (pa_cons (pv 0) pa_nil)) (pe_one (pe_cmpR op_lt (pv 0) (pe_nat 3) (nomark _)))))), ?_⟩
  repeat (first | refine ⟨_, _, rfl, rfl, ?_⟩ | refine ⟨_, _, rfl, ?_⟩ | refine ⟨_, rfl, ?_⟩ | refine ⟨_, rfl, rfl, ?_⟩ | refine ⟨rfl, ?_⟩)
  refine ⟨_, _, rfl, hc.sub (by repeat (first | with_reducible exact Sub.refl | exact Sub.nil | (apply Sub.pen; (focus ((repeat (first | exact Pick.here | apply Pick.there | assumption)); done)); (focus omega)) | (apply Sub.cons; (focus ((repeat (first | exact Pick.here | apply Pick.there | assumption)); done))) | apply Sub.drop)), hv, fun H hc => ?_⟩
  cases hnum : isNumV v with
  | false =>
    have e : isSignV v = false := by
      cases v with
      | int i => exact decide_eq_false fun z => absurd (show decide (0 ≤ i) = false from hnum) (by rw [decide_eq_true z.1]; decide)
      | _ => rfl
    rw [e] at q
    repeat (first | refine ⟨_, _, rfl, rfl, ?_⟩ | refine ⟨_, _, rfl, ?_⟩ | refine ⟨_, rfl, ?_⟩ | refine ⟨_, rfl, rfl, ?_⟩ | refine ⟨rfl, ?_⟩)
    exact q H hc
  | true =>
  obtain ⟨d, rfl⟩ := isNumV_of hnum
  have e : isSignV (.int (d : Nat)) = decide ((d : Int) < ((3 : Nat) : Int)) := by
    show decide (0 ≤ (d : Int) ∧ (d : Int) < 3) = _
    exact decide_eq_decide.mpr ⟨fun z => z.2, fun z => ⟨Int.natCast_nonneg d, z⟩⟩
  rw [e] at q
  repeat (first | refine ⟨_, _, rfl, rfl, ?_⟩ | refine ⟨_, _, rfl, ?_⟩ | refine ⟨_, rfl, ?_⟩ | refine ⟨_, rfl, rfl, ?_⟩ | refine ⟨rfl, ?_⟩)
  exact q H hc
def sgV : V → Nat
  | .int i => i.toNat
  | _ => 0
theorem isSignV_of {v : V} (h : isSignV v = true) : ∃ d : Nat, d < 3 ∧ v = .int (d : Nat) := by
  cases v with
  | int i =>
    have := of_decide_eq_true (show decide (0 ≤ i ∧ i < 3) = true from h)
    exact ⟨i.toNat, by omega, by rw [Int.toNat_of_nonneg this.1]⟩
  | _ => cases h
/-- one sign further -/
def hst (o : Option Nat) (v : V) : Option Nat := o.bind fun b =>
  if isSignV v = true then (if 3 * b + sgV v = 0 ∨ (3 * b + sgV v) % 2 = 1 then none else some ((3 * b + sgV v) / 2)) else none
def hread (l : List V) : Option Nat := l.foldl hst (some 0)
theorem hread_none : ∀ l : List V, l.foldl hst none = none
  | [] => rfl
  | _ :: l => hread_none l
theorem hread_cut {l : List V} {j : Nat} (h : (l.take j).foldl hst (some 0) = none) : hread l = none := by
  unfold hread
  rw [← List.take_append_drop j l, List.foldl_append, h, hread_none]
theorem wv_id {J : It} {l : List V} {G : Hp → Prop} (w : WV J l G) : WV J (l.map fun v => v) G := by
  rw [List.map_id']; exact w
/-- what from_halves is asked of -/
inductive HSeq (rs : List Res) : V → List V → Prop
  | lst {a : Addr} {xs : List V} {t : List Res} (p : Pick (.obj a (.lst xs)) rs t) : HSeq rs (.ref a) xs
  | tup {a : Addr} {xs : List V} {t : List Res} (p : Pick (.obj a (.tup xs)) rs t) : HSeq rs (.ref a) xs
structure sp_from_halves (C_BadSigns : Addr) (vs : List V) (H : Hp) (Q : VK) (E : XK) : Prop where
  ex : ∃ (v : V) (n : String) (rs : List Res), vs = [v] ∧
    (Sep H rs) ∧
    (thTy rs v n) ∧
    (isListV n = false → ∀ H', Sep H' rs → E (.ref C_BadSigns) none H') ∧
    (isListV n = true → ∃ xs k, HSeq rs v xs ∧ xs.length ≤ k ∧ k ≤ 100000 ∧ (∀ x ∈ xs, ThR rs x) ∧
      (∀ b, hread xs = some b → ∀ H', Sep H' rs → Q (.int (b : Nat)) H') ∧ (hread xs = none → ∀ H', Sep H' rs → E (.ref C_BadSigns) none H'))
theorem ok_from_halves {P : Program} {w : World} {K : PySem.W.Frag}
    {mg : Str → Option Value} {base : Heap} {C_BadSigns : Addr}
    {f : Addr} {fd : FuncData}
    (F : Fun K "from_halves" "from_halves" s_from_halves f fd) (Z : Zs mg)
    (e_BadSigns : ErrC K mg "BadSigns" C_BadSigns)
    (D_is_list : Dd P w K mg base "is_list" 1 ["thing"] sp_is_list)
    (D_is_sign : Dd P w K mg base "is_sign" 2 ["thing"] sp_is_sign) :
    FnOk P w K mg base (L2.CX P w) 3 f fd ["signs"] (sp_from_halves C_BadSigns) := by
  refine F.okX sc_from_halves (fun vs H Q E h => ?_)
    (fun cdv A outer s H vs Q E hr h => ?_)
  · obtain ⟨v, n, rs, rfl, _⟩ := h.ex
    rfl
  obtain ⟨v, n, rs, rfl, hc, hv, hno, hyes⟩ := h.ex
  have hu := hu_of hr
  refine ⟨_, (pss_cons /- if not is_list(signs): -/ (ps_if (pt_not (pt_val (pe_d D_is_list (hr.mono (by decide)) (by rfl) (pa_cons (pv 0) pa_nil))))
(pss_one /- raise BadSigns('this is no list of signs') -/ (ps_raiseO rfl e_BadSigns (takes_of rfl rfl rfl rfl) (by rfl)))
pss_nil)
(pss_cons /- book = 0 -/ (ps_set (i := 1) sc_from_halves.nd rfl (Or.inl rfl) (pe_nat 0))
(pss_cons /- for sign in signs: -/ (ps_for PassesOwn.leaving rfl (pi_or (pi_list (pv 0)) (pi_tup (pv 0))) (pg_name (i := 2) sc_from_halves.nd rfl (Or.inl rfl))
(pss_cons /- if not is_sign(sign): -/ (ps_if (pt_not (pt_val (pe_d D_is_sign (hr.mono (by decide)) (by rfl) (pa_cons (pv 2) pa_nil))))
(pss_one /- raise BadSigns('a sign is 0, 1 or 2') -/ (ps_raiseO rfl e_BadSigns (takes_of rfl rfl rfl rfl) (by rfl)))
pss_nil)
(pss_cons /- twice = 3 * book + sign -/ (ps_set (i := 3) sc_from_halves.nd rfl (Or.inl rfl) (pe_op op_addN (pe_op op_mulN (pe_nat 3) (pv 1)) (pv 2)))
(pss_cons /- if twice == 0 or twice % 2 == 1: -/ (ps_if (PW.pt (pw_or (pt_cmpR op_eqN (pv 3) (pe_nat 0) (nomark _)) (pw_or1 (pt_cmpR op_eqN (pe_op op_modNN (pv 3) (pe_nat 2)) (pe_nat 1) (nomark _)))))
(pss_one /- raise BadSigns('these are the halves of no book') -/ (ps_raiseO rfl e_BadSigns (takes_of rfl rfl rfl rfl) (by rfl)))
pss_nil)
(pss_one /- book = twice // 2 -/ (ps_set (i := 1) sc_from_halves.nd rfl (Or.inl rfl) (pe_op op_fdivN (pv 3) (pe_nat 2))))))))
(pss_one /- return book -/ (ps_ret (pv 1)))))), ?_⟩
  repeat (first | refine ⟨_, _, rfl, rfl, ?_⟩ | refine ⟨_, _, rfl, ?_⟩ | refine ⟨_, rfl, ?_⟩ | refine ⟨_, rfl, rfl, ?_⟩ | refine ⟨rfl, ?_⟩)
  refine ⟨_, _, _, rfl, hc.sub (by repeat (first | with_reducible exact Sub.refl | exact Sub.nil | (apply Sub.pen; (focus ((repeat (first | exact Pick.here | apply Pick.there | assumption)); done)); (focus omega)) | (apply Sub.cons; (focus ((repeat (first | exact Pick.here | apply Pick.there | assumption)); done))) | apply Sub.drop)), hv, fun H hc => ?_⟩
  cases hl : isListV n with
  | false =>
    repeat (first | refine ⟨_, _, rfl, rfl, ?_⟩ | refine ⟨_, _, rfl, ?_⟩ | refine ⟨_, rfl, ?_⟩ | refine ⟨_, rfl, rfl, ?_⟩ | refine ⟨rfl, ?_⟩)
    exact hno hl H hc
  | true =>
  obtain ⟨xs, k, hsq, hk, hk2, hx, q1, q2⟩ := hyes hl
  repeat (first | refine ⟨_, _, rfl, rfl, ?_⟩ | refine ⟨_, _, rfl, ?_⟩ | refine ⟨_, rfl, ?_⟩ | refine ⟨_, rfl, rfl, ?_⟩ | refine ⟨rfl, ?_⟩)
  cases hsq with
  | tup p =>
    rename_i a t
    repeat (first | refine ⟨_, _, rfl, rfl, ?_⟩ | refine ⟨_, _, rfl, ?_⟩ | refine ⟨_, rfl, ?_⟩ | refine ⟨_, rfl, rfl, ?_⟩ | refine ⟨rfl, ?_⟩)
    right
    repeat (first | refine ⟨_, _, rfl, rfl, ?_⟩ | refine ⟨_, _, rfl, ?_⟩ | refine ⟨_, rfl, ?_⟩ | refine ⟨_, rfl, rfl, ?_⟩ | refine ⟨rfl, ?_⟩)
    refine ⟨⟨_, hc.st p⟩, ?_⟩
    refine forA (e := fun v : V => v) (l := xs) (wv_id (wv_tup (K := K) (a := a))) (fun j σ rs' => ∃ b : Nat, (∃ v_sign v_twice : Option V, σ = [some (.ref a), some (.int (b : Nat)), v_sign, v_twice]) ∧ rs = rs' ∧ (xs.take j).foldl hst (some 0) = some b ∧ NB j b)
      (.mk' hc ⟨0, (by (repeat (apply Exists.intro)); exact rfl), rfl, rfl, Nat.one_pos⟩) (by rintro j σ rs' H ⟨b, _, rfl, _⟩ hc; exact hc.st p) ?_ ?_
    · rintro j x σ rs' H ex ⟨b, ⟨v_sign, v_twice, rfl⟩, rfl, hb, nb⟩ hc
      have hj := (List.getElem?_eq_some_iff.mp ex).1
      have hnext : (xs.take (j + 1)).foldl hst (some 0) = hst (some b) x := by
        rw [List.take_add_one, ex, Option.toList_some, List.foldl_append, hb]; rfl
      repeat (first | refine ⟨_, _, rfl, rfl, ?_⟩ | refine ⟨_, _, rfl, ?_⟩ | refine ⟨_, rfl, ?_⟩ | refine ⟨_, rfl, rfl, ?_⟩ | refine ⟨rfl, ?_⟩ | refine And.intro (by omega) ?_ | refine And.intro ⟨by omega, by omega⟩ ?_ | refine And.intro ⟨_, _, (by show NB _ _; (repeat (first | assumption | exact NB.byte (by omega) | exact NB.w32 (by omega) | apply NB.add | apply NB.mul))), (by show NB _ _; (repeat (first | assumption | exact NB.byte (by omega) | exact NB.w32 (by omega) | apply NB.add | apply NB.mul))), by omega⟩ ?_)
      refine ⟨_, _, rfl, hc.sub (by repeat (first | with_reducible exact Sub.refl | exact Sub.nil | (apply Sub.pen; (focus ((repeat (first | exact Pick.here | apply Pick.there | assumption)); done)); (focus omega)) | (apply Sub.cons; (focus ((repeat (first | exact Pick.here | apply Pick.there | assumption)); done))) | apply Sub.drop)), hx x (List.mem_of_getElem? ex), fun H hc => ?_⟩
      cases hs : isSignV x with
      | false =>
        repeat (first | refine ⟨_, _, rfl, rfl, ?_⟩ | refine ⟨_, _, rfl, ?_⟩ | refine ⟨_, rfl, ?_⟩ | refine ⟨_, rfl, rfl, ?_⟩ | refine ⟨rfl, ?_⟩)
        exact q2 (hread_cut (j := j + 1) (by rw [hnext]; show (if isSignV x = true then _ else none) = none; rw [hs]; rfl)) H hc
      | true =>
      obtain ⟨d, hd, rfl⟩ := isSignV_of hs
      have hv : hst (some b) (.int (d : Nat)) = if 3 * b + d = 0 ∨ (3 * b + d) % 2 = 1 then none else some ((3 * b + d) / 2) := by
        show (if isSignV (.int (d : Nat)) = true then _ else none) = _
        rw [if_pos hs]; rfl
      rw [hv] at hnext
      repeat (first | refine ⟨_, _, rfl, rfl, ?_⟩ | refine ⟨_, _, rfl, ?_⟩ | refine ⟨_, rfl, ?_⟩ | refine ⟨_, rfl, rfl, ?_⟩ | refine ⟨rfl, ?_⟩ | refine And.intro (by omega) ?_ | refine And.intro ⟨by omega, by omega⟩ ?_ | refine And.intro ⟨_, _, (by show NB _ _; (repeat (first | assumption | exact NB.byte (by omega) | exact NB.w32 (by omega) | apply NB.add | apply NB.mul))), (by show NB _ _; (repeat (first | assumption | exact NB.byte (by omega) | exact NB.w32 (by omega) | apply NB.add | apply NB.mul))), by omega⟩ ?_)
      refine iteD (fun h => ?_) (fun h => ?_)
      · exact q2 (hread_cut (j := j + 1) (by rw [hnext, if_pos (.inl h)])) H hc
      repeat (first | refine ⟨_, _, rfl, rfl, ?_⟩ | refine ⟨_, _, rfl, ?_⟩ | refine ⟨_, rfl, ?_⟩ | refine ⟨_, rfl, rfl, ?_⟩ | refine ⟨rfl, ?_⟩ | refine And.intro (by omega) ?_ | refine And.intro ⟨by omega, by omega⟩ ?_ | refine And.intro ⟨_, _, (by show NB _ _; (repeat (first | assumption | exact NB.byte (by omega) | exact NB.w32 (by omega) | apply NB.add | apply NB.mul))), (by show NB _ _; (repeat (first | assumption | exact NB.byte (by omega) | exact NB.w32 (by omega) | apply NB.add | apply NB.mul))), by omega⟩ ?_)
      refine iteD (fun h2 => ?_) (fun h2 => ?_)
      · exact q2 (hread_cut (j := j + 1) (by rw [hnext, if_pos (.inr h2)])) H hc
      repeat (first | refine ⟨_, _, rfl, rfl, ?_⟩ | refine ⟨_, _, rfl, ?_⟩ | refine ⟨_, rfl, ?_⟩ | refine ⟨_, rfl, rfl, ?_⟩ | refine ⟨rfl, ?_⟩ | refine And.intro (by omega) ?_ | refine And.intro ⟨by omega, by omega⟩ ?_ | refine And.intro ⟨_, _, (by show NB _ _; (repeat (first | assumption | exact NB.byte (by omega) | exact NB.w32 (by omega) | apply NB.add | apply NB.mul))), (by show NB _ _; (repeat (first | assumption | exact NB.byte (by omega) | exact NB.w32 (by omega) | apply NB.add | apply NB.mul))), by omega⟩ ?_)
      have nb2 : NB (j + 1) ((3 * b + d) / 2) := by
        show _ < 2 ^ (j + 1)
        have := nb.w
        rw [Nat.pow_succ]; omega
      exact .mk' hc ⟨(3 * b + d) / 2, (by (repeat (apply Exists.intro)); exact rfl), rfl, by rw [hnext, if_neg (fun z => z.elim h h2)], nb2⟩
    · rintro σ rs' H ⟨b, ⟨v_sign, v_twice, rfl⟩, rfl, hb, nb⟩ hc
      rw [List.take_length] at hb
      repeat (first | refine ⟨_, _, rfl, rfl, ?_⟩ | refine ⟨_, _, rfl, ?_⟩ | refine ⟨_, rfl, ?_⟩ | refine ⟨_, rfl, rfl, ?_⟩ | refine ⟨rfl, ?_⟩ | refine And.intro (by omega) ?_ | refine And.intro ⟨by omega, by omega⟩ ?_ | refine And.intro ⟨_, _, (by show NB _ _; (repeat (first | assumption | exact NB.byte (by omega) | exact NB.w32 (by omega) | apply NB.add | apply NB.mul))), (by show NB _ _; (repeat (first | assumption | exact NB.byte (by omega) | exact NB.w32 (by omega) | apply NB.add | apply NB.mul))), by omega⟩ ?_)
      exact q1 b hb H hc
  | lst p =>
  rename_i a t
  repeat (first | refine ⟨_, _, rfl, rfl, ?_⟩ | refine ⟨_, _, rfl, ?_⟩ | refine ⟨_, rfl, ?_⟩ | refine ⟨_, rfl, rfl, ?_⟩ | refine ⟨rfl, ?_⟩)
  left
  repeat (first | refine ⟨_, _, rfl, rfl, ?_⟩ | refine ⟨_, _, rfl, ?_⟩ | refine ⟨_, rfl, ?_⟩ | refine ⟨_, rfl, rfl, ?_⟩ | refine ⟨rfl, ?_⟩)
  refine ⟨⟨_, hc.sq p⟩, ?_⟩
  refine forA (e := fun v : V => v) (l := xs) (wv_id (wv_list (K := K) (a := a))) (fun j σ rs' => ∃ b : Nat, (∃ v_sign v_twice : Option V, σ = [some (.ref a), some (.int (b : Nat)), v_sign, v_twice]) ∧ rs = rs' ∧ (xs.take j).foldl hst (some 0) = some b ∧ NB j b)
    (.mk' hc ⟨0, (by (repeat (apply Exists.intro)); exact rfl), rfl, rfl, Nat.one_pos⟩) (by rintro j σ rs' H ⟨b, _, rfl, _⟩ hc; exact hc.sq p) ?_ ?_
  · rintro j x σ rs' H ex ⟨b, ⟨v_sign, v_twice, rfl⟩, rfl, hb, nb⟩ hc
    have hj := (List.getElem?_eq_some_iff.mp ex).1
    have hnext : (xs.take (j + 1)).foldl hst (some 0) = hst (some b) x := by
      rw [List.take_add_one, ex, Option.toList_some, List.foldl_append, hb]; rfl
    repeat (first | refine ⟨_, _, rfl, rfl, ?_⟩ | refine ⟨_, _, rfl, ?_⟩ | refine ⟨_, rfl, ?_⟩ | refine ⟨_, rfl, rfl, ?_⟩ | refine ⟨rfl, ?_⟩ | refine And.intro (by omega) ?_ | refine And.intro ⟨by omega, by omega⟩ ?_ | refine And.intro ⟨_, _, (by show NB _ _; (repeat (first | assumption | exact NB.byte (by omega) | exact NB.w32 (by omega) | apply NB.add | apply NB.mul))), (by show NB _ _; (repeat (first | assumption | exact NB.byte (by omega) | exact NB.w32 (by omega) | apply NB.add | apply NB.mul))), by omega⟩ ?_)
    refine ⟨_, _, rfl, hc.sub (by repeat (first | with_reducible exact Sub.refl | exact Sub.nil | (apply Sub.pen; (focus ((repeat (first | exact Pick.here | apply Pick.there | assumption)); done)); (focus omega)) | (apply Sub.cons; (focus ((repeat (first | exact Pick.here | apply Pick.there | assumption)); done))) | apply Sub.drop)), hx x (List.mem_of_getElem? ex), fun H hc => ?_⟩
    cases hs : isSignV x with
    | false =>
      repeat (first | refine ⟨_, _, rfl, rfl, ?_⟩ | refine ⟨_, _, rfl, ?_⟩ | refine ⟨_, rfl, ?_⟩ | refine ⟨_, rfl, rfl, ?_⟩ | refine ⟨rfl, ?_⟩)
      exact q2 (hread_cut (j := j + 1) (by rw [hnext]; show (if isSignV x = true then _ else none) = none; rw [hs]; rfl)) H hc
    | true =>
    obtain ⟨d, hd, rfl⟩ := isSignV_of hs
    have hv : hst (some b) (.int (d : Nat)) = if 3 * b + d = 0 ∨ (3 * b + d) % 2 = 1 then none else some ((3 * b + d) / 2) := by
      show (if isSignV (.int (d : Nat)) = true then _ else none) = _
      rw [if_pos hs]; rfl
    rw [hv] at hnext
    repeat (first | refine ⟨_, _, rfl, rfl, ?_⟩ | refine ⟨_, _, rfl, ?_⟩ | refine ⟨_, rfl, ?_⟩ | refine ⟨_, rfl, rfl, ?_⟩ | refine ⟨rfl, ?_⟩ | refine And.intro (by omega) ?_ | refine And.intro ⟨by omega, by omega⟩ ?_ | refine And.intro ⟨_, _, (by show NB _ _; (repeat (first | assumption | exact NB.byte (by omega) | exact NB.w32 (by omega) | apply NB.add | apply NB.mul))), (by show NB _ _; (repeat (first | assumption | exact NB.byte (by omega) | exact NB.w32 (by omega) | apply NB.add | apply NB.mul))), by omega⟩ ?_)
    refine iteD (fun h => ?_) (fun h => ?_)
    · exact q2 (hread_cut (j := j + 1) (by rw [hnext, if_pos (.inl h)])) H hc
    repeat (first | refine ⟨_, _, rfl, rfl, ?_⟩ | refine ⟨_, _, rfl, ?_⟩ | refine ⟨_, rfl, ?_⟩ | refine ⟨_, rfl, rfl, ?_⟩ | refine ⟨rfl, ?_⟩ | refine And.intro (by omega) ?_ | refine And.intro ⟨by omega, by omega⟩ ?_ | refine And.intro ⟨_, _, (by show NB _ _; (repeat (first | assumption | exact NB.byte (by omega) | exact NB.w32 (by omega) | apply NB.add | apply NB.mul))), (by show NB _ _; (repeat (first | assumption | exact NB.byte (by omega) | exact NB.w32 (by omega) | apply NB.add | apply NB.mul))), by omega⟩ ?_)
    refine iteD (fun h2 => ?_) (fun h2 => ?_)
    · exact q2 (hread_cut (j := j + 1) (by rw [hnext, if_pos (.inr h2)])) H hc
    repeat (first | refine ⟨_, _, rfl, rfl, ?_⟩ | refine ⟨_, _, rfl, ?_⟩ | refine ⟨_, rfl, ?_⟩ | refine ⟨_, rfl, rfl, ?_⟩ | refine ⟨rfl, ?_⟩ | refine And.intro (by omega) ?_ | refine And.intro ⟨by omega, by omega⟩ ?_ | refine And.intro ⟨_, _, (by show NB _ _; (repeat (first | assumption | exact NB.byte (by omega) | exact NB.w32 (by omega) | apply NB.add | apply NB.mul))), (by show NB _ _; (repeat (first | assumption | exact NB.byte (by omega) | exact NB.w32 (by omega) | apply NB.add | apply NB.mul))), by omega⟩ ?_)
    have nb2 : NB (j + 1) ((3 * b + d) / 2) := by
      show _ < 2 ^ (j + 1)
      have := nb.w
      rw [Nat.pow_succ]; omega
    exact .mk' hc ⟨(3 * b + d) / 2, (by (repeat (apply Exists.intro)); exact rfl), rfl, by rw [hnext, if_neg (fun z => z.elim h h2)], nb2⟩
  · rintro σ rs' H ⟨b, ⟨v_sign, v_twice, rfl⟩, rfl, hb, nb⟩ hc
    rw [List.take_length] at hb
    repeat (first | refine ⟨_, _, rfl, rfl, ?_⟩ | refine ⟨_, _, rfl, ?_⟩ | refine ⟨_, rfl, ?_⟩ | refine ⟨_, rfl, rfl, ?_⟩ | refine ⟨rfl, ?_⟩ | refine And.intro (by omega) ?_ | refine And.intro ⟨by omega, by omega⟩ ?_ | refine And.intro ⟨_, _, (by show NB _ _; (repeat (first | assumption | exact NB.byte (by omega) | exact NB.w32 (by omega) | apply NB.add | apply NB.mul))), (by show NB _ _; (repeat (first | assumption | exact NB.byte (by omega) | exact NB.w32 (by omega) | apply NB.add | apply NB.mul))), by omega⟩ ?_)
    exact q1 b hb H hc

/-! ### lists of other lengths are written otherwise -/
abbrev shN (l : List Nat) : Str := (PyData.list ((ci l).map PyData.int)).shown
theorem int_long (n : Nat) : 0 < (PyData.int (n : Int)).shown.length := by
  rw [PyData.shown_int, PyProof.Rows.ofString_len]
  exact Nat.length_repr_pos
theorem shN_ne {l m : List Nat} (h : l.length ≠ m.length) : shN l ≠ shN m := by
  intro e
  have free : ∀ l : List Nat, ∀ x ∈ (ci l).map PyData.int, 44 ∉ x.shown.cps.toList := fun l => ints_free (.inl (by decide)) _
  have c1 := comma_cnt_shown_list (free l)
  have c2 := comma_cnt_shown_list (free m)
  have e2 : (PyData.list ((ci l).map PyData.int)).shown = (PyData.list ((ci m).map PyData.int)).shown := e
  rw [e2, c2] at c1
  have h1 : ((ci l).map PyData.int).length = l.length := by unfold ci; rw [List.length_map, List.length_map]
  have h2 : ((ci m).map PyData.int).length = m.length := by unfold ci; rw [List.length_map, List.length_map]
  rw [h1, h2] at c1
  have one : ∀ x : Nat, shN [x] ≠ shN [] := fun x z => by
    have a : (shN [x]).length = (PyData.int (x : Int)).shown.length + 2 := by
      show (((Str.ofString "[" ++ Str.ofString "") ++ (PyData.int (x : Int)).shown) ++ Str.ofString "]").length = _
      rw [Str.length_append, Str.length_append, Str.length_append]
      show (1 + 0 + _) + 1 = _
      omega
    have b : (shN []).length = 2 := rfl
    have := int_long x
    rw [z, b] at a
    omega
  rcases Nat.lt_or_ge l.length m.length with g | g
  · have a1 : l = [] := List.length_eq_zero_iff.mp (by omega)
    have a2 : m.length = 1 := by omega
    obtain ⟨x, rfl⟩ := List.length_eq_one_iff.mp a2
    subst a1
    exact one x e.symm
  · have a1 : m = [] := List.length_eq_zero_iff.mp (by omega)
    have a2 : l.length = 1 := by omega
    obtain ⟨x, rfl⟩ := List.length_eq_one_iff.mp a2
    subst a1
    exact one x e
theorem rdN {l : List Nat} (hb : ∀ x ∈ l, NB 1900 x) (hl : l.length ≤ 200) : (PyData.list ((ci l).map PyData.int)).showable = true ∧ (PyData.list ((ci l).map PyData.int)).hasDict = false ∧ (PyData.list ((ci l).map PyData.int)).depth ≤ 20 ∧ (PyData.list ((ci l).map PyData.int)).shown.length ≤ sizeLine :=
  (sl_ints (ns := ci l) (N := 200) (fun n hn => by
    obtain ⟨x, hx, rfl⟩ := List.mem_map.mp hn
    exact hb x hx) (by unfold ci; rw [List.length_map]; exact hl)).ok (by decide) (by decide)
theorem nb199 {x : Nat} (h : x < 2 ^ 199) : NB 1900 x := Nat.lt_of_lt_of_le h (Nat.pow_le_pow_right (by decide) (by decide))

section
variable {α : Type} {l : List α} {e : α → V} {J : It} {G : Hp → Prop}
theorem lcI (w : WV J (l.map e) G) {g : TG} {tt : TT} {te : TE} {vs : List Nat}
    {σ : L2.St} {H1 : Hp} {D : Addr} {Qd : Hp → Prop} {rs0 : List Res} (I : Nat → List V → List Res → Prop)
    (nD' : H1 D = none) (h0 : Sep H1 rs0) (hI : I 0 [] rs0)
    (hG : ∀ i acc rs H, I i acc rs → Sep H (.obj D (.lst acc) :: rs) → G H)
    (hs : ∀ i x acc rs H, l[i]? = some x → I i acc rs → Sep H (.obj D (.lst acc) :: rs) →
      g (e x) (wipe σ vs) H fun σ2 H2 => wipe σ2 vs = wipe σ vs ∧
        tt σ2 H2 fun b H3 => if b = true then te σ2 H3 fun y H4 =>
          ∃ acc, H4 D = some (.lst acc) ∧ acc.length < sizeLine ∧
            LcP D I (i + 1) (upd H4 D (.lst (acc ++ [y])))
        else LcP D I (i + 1) H3)
    (hd : ∀ acc rs H, I l.length acc rs → Sep H (.obj D (.lst acc) :: rs) → Qd H) :
    ∃ W : Nat → Nat → Hp → Prop, (∃ m, W 0 m (upd H1 D (.lst []))) ∧ ∀ i m H, W i m H →
      (J.stop i H ∧ Qd H) ∨ (J.go i H ∧ ∃ Nx : Hp → Prop, (∀ H', Nx H' → ∃ m', m' < m ∧ W (i + 1) m' H') ∧ ∀ x H', J.yld i H x H' → g x (wipe σ vs) H' fun σ2 H2 => wipe σ2 vs = wipe σ vs ∧ tt σ2 H2 fun b H3 =>
        if b = true then te σ2 H3 fun y H4 => ∃ acc, H4 D = some (.lst acc) ∧ acc.length < sizeLine ∧ Nx (upd H4 D (.lst (acc ++ [y]))) else Nx H3) :=
  lc_it w (LcP D I) (⟨[], rs0, hI, h0.new' nD'⟩)
    (fun i H _ ⟨⟨acc, rs, h, hc⟩⟩ => hG i acc rs H h hc)
    (fun i x H H' _ ⟨⟨acc, rs, h, hc⟩⟩ ⟨e1, ex⟩ => by
      subst e1
      obtain ⟨y, e3, rfl⟩ := map_get ex
      exact hs i y acc rs H' e3 h hc)
    fun H ⟨⟨acc, rs, h, hc⟩⟩ => hd acc rs H (by rw [List.length_map] at h; exact h) hc
end

/-! ### the law -/
structure sp_told (C_BadSigns : Addr) (vs : List V) (H : Hp) (Q : VK) (E : XK) : Prop where
  ex : ∃ (v : V) (n : String) (rs : List Res), vs = [v] ∧
    (Sep H rs) ∧
    (thTy rs v n) ∧
    (isListV n = false → ∀ H' g, Sep H' (.obj g (.lst []) :: rs) → Q (.ref g) H') ∧
    (isListV n = true → ∃ xs k, HSeq rs v xs ∧ xs.length ≤ k ∧ k ≤ 100000 ∧ (∀ x ∈ xs, ThR rs x) ∧
      (∀ H' g, Sep H' (.obj g (.lst (nV (hread xs).toList)) :: rs) → Q (.ref g) H'))
theorem ok_told {P : Program} {w : World} {K : PySem.W.Frag}
    {mg : Str → Option Value} {base : Heap} {C_BadSigns : Addr}
    {f : Addr} {fd : FuncData}
    (F : Fun K "_law_told" "_law_told" s_told f fd) (Z : Zs mg)
    (e_BadSigns : ErrC K mg "BadSigns" C_BadSigns)
    (D_from_halves : DdX P w K mg base "from_halves" 3 ["signs"] (sp_from_halves C_BadSigns)) :
    FnOk P w K mg base CX0 4 f fd ["thing"] (sp_told C_BadSigns) := by
  refine F.ok sc_told (fun vs H Q E h => ?_)
    (fun cdv A outer s H vs Q E hr h => ?_)
  · obtain ⟨v, n, rs, rfl, _⟩ := h.ex
    rfl
  obtain ⟨v, n, rs, rfl, hc, hv, hno, hyes⟩ := h.ex
  have hu := hu_of hr
  refine ⟨_, (pss_cons /- kept = None -/ (ps_set (i := 1) sc_told.nd rfl (Or.inl rfl) pe_non)
(pss_cons /- try: -/ (ps_try_kept (i := 2) rfl rfl rfl sc_told.nd rfl rfl ⟨by rfl, by decide, .inl e_BadSigns.g⟩ (fun W pn xe tk pw_ => (pss_one /- return [from_halves(thing)] -/ (ps_ret (pe_lst' (pa_cons (pe_dX D_from_halves tk (hr.mono (by decide)) (by rfl) (pa_cons (pv 0) pa_nil)) pa_nil)))))
(fun a_ oe_ cls_ d_ pn_ hz_ hf_ => (pss_one /- kept = e -/ (ps_set (i := 1) sc_told.nd rfl (Or.inl rfl) (pv 2)))))
(pss_one /- return [] if isinstance(kept, ValueError) else None -/ (ps_ret (pe_ifExp (pt_val (pe_callB (call_isKN (K := K)) (by rfl) Z.isinstance (by decide +kernel) (pa_cons (pv 1) (pa_cons (pe_bltn (v := .ty "ValueError") (by rfl) Z.ValueError (by decide +kernel) rfl) pa_nil)))) (pe_lst' pa_nil) pe_non))))), ?_⟩
  repeat (first | refine ⟨_, _, rfl, rfl, ?_⟩ | refine ⟨_, _, rfl, ?_⟩ | refine ⟨_, rfl, ?_⟩ | refine ⟨_, rfl, rfl, ?_⟩ | refine ⟨rfl, ?_⟩)
  refine ⟨_, _, _, rfl, hc.sub (by repeat (first | with_reducible exact Sub.refl | exact Sub.nil | (apply Sub.pen; (focus ((repeat (first | exact Pick.here | apply Pick.there | assumption)); done)); (focus omega)) | (apply Sub.cons; (focus ((repeat (first | exact Pick.here | apply Pick.there | assumption)); done))) | apply Sub.drop)), hv, fun hl H hc => ?_, fun hl => ?_⟩
  · have q := hno hl
    refine ⟨e_BadSigns.ex, fun a na => ?_⟩
    repeat (first | refine ⟨_, _, rfl, rfl, ?_⟩ | refine ⟨_, _, rfl, ?_⟩ | refine ⟨_, rfl, ?_⟩ | refine ⟨_, rfl, rfl, ?_⟩ | refine ⟨rfl, ?_⟩)
    intro H2 nE
    replace hc := hc.new nE
    repeat (first | refine ⟨_, _, rfl, rfl, ?_⟩ | refine ⟨_, _, rfl, ?_⟩ | refine ⟨_, rfl, ?_⟩ | refine ⟨_, rfl, rfl, ?_⟩ | refine ⟨rfl, ?_⟩)
    refine ⟨a, _, .ty "ValueError", .type "ValueError", true, rfl, (hc.at (by (repeat (first | exact Pick.here | apply Pick.there | assumption)))), e_BadSigns.c, fun u r => r, e_BadSigns.kit, ?_⟩
    repeat (first | refine ⟨_, _, rfl, rfl, ?_⟩ | refine ⟨_, _, rfl, ?_⟩ | refine ⟨_, rfl, ?_⟩ | refine ⟨_, rfl, rfl, ?_⟩ | refine ⟨rfl, ?_⟩)
    (first | refine ⟨Nat.le_of_ble_eq_true rfl, fun g H ng => ?_⟩ | refine fun g H ng => ?_); replace hc := hc.new ng
    exact q H g (hc.sub (by repeat (first | with_reducible exact Sub.refl | exact Sub.nil | (apply Sub.pen; (focus ((repeat (first | exact Pick.here | apply Pick.there | assumption)); done)); (focus omega)) | (apply Sub.cons; (focus ((repeat (first | exact Pick.here | apply Pick.there | assumption)); done))) | apply Sub.drop)))
  obtain ⟨xs, k, h1, h2, h3, h4, q⟩ := hyes hl
  refine ⟨xs, k, h1, h2, h3, h4, fun b hb H hc => ?_, fun hb H hc => ?_⟩
  · rw [hb] at q
    repeat (first | refine ⟨_, _, rfl, rfl, ?_⟩ | refine ⟨_, _, rfl, ?_⟩ | refine ⟨_, rfl, ?_⟩ | refine ⟨_, rfl, rfl, ?_⟩ | refine ⟨rfl, ?_⟩)
    (first | refine ⟨Nat.le_of_ble_eq_true rfl, fun g H ng => ?_⟩ | refine fun g H ng => ?_); replace hc := hc.new ng
    exact q H g (hc.sub (by repeat (first | with_reducible exact Sub.refl | exact Sub.nil | (apply Sub.pen; (focus ((repeat (first | exact Pick.here | apply Pick.there | assumption)); done)); (focus omega)) | (apply Sub.cons; (focus ((repeat (first | exact Pick.here | apply Pick.there | assumption)); done))) | apply Sub.drop)))
  · rw [hb] at q
    refine ⟨e_BadSigns.ex, fun a na => ?_⟩
    repeat (first | refine ⟨_, _, rfl, rfl, ?_⟩ | refine ⟨_, _, rfl, ?_⟩ | refine ⟨_, rfl, ?_⟩ | refine ⟨_, rfl, rfl, ?_⟩ | refine ⟨rfl, ?_⟩)
    intro H2 nE
    replace hc := hc.new nE
    repeat (first | refine ⟨_, _, rfl, rfl, ?_⟩ | refine ⟨_, _, rfl, ?_⟩ | refine ⟨_, rfl, ?_⟩ | refine ⟨_, rfl, rfl, ?_⟩ | refine ⟨rfl, ?_⟩)
    refine ⟨a, _, .ty "ValueError", .type "ValueError", true, rfl, (hc.at (by (repeat (first | exact Pick.here | apply Pick.there | assumption)))), e_BadSigns.c, fun u r => r, e_BadSigns.kit, ?_⟩
    repeat (first | refine ⟨_, _, rfl, rfl, ?_⟩ | refine ⟨_, _, rfl, ?_⟩ | refine ⟨_, rfl, ?_⟩ | refine ⟨_, rfl, rfl, ?_⟩ | refine ⟨rfl, ?_⟩)
    (first | refine ⟨Nat.le_of_ble_eq_true rfl, fun g H ng => ?_⟩ | refine fun g H ng => ?_); replace hc := hc.new ng
    exact q H g (hc.sub (by repeat (first | with_reducible exact Sub.refl | exact Sub.nil | (apply Sub.pen; (focus ((repeat (first | exact Pick.here | apply Pick.there | assumption)); done)); (focus omega)) | (apply Sub.cons; (focus ((repeat (first | exact Pick.here | apply Pick.there | assumption)); done))) | apply Sub.drop)))
def rdV (l : List Nat) : List Nat := (hread (nV l)).toList
theorem sign3 {d : Nat} (h : d < 3) : isSignV (.int (d : Nat)) = true := decide_eq_true ⟨Int.natCast_nonneg d, by omega⟩
theorem hst3 {b d : Nat} (h : d < 3) : hst (some b) (.int (d : Nat)) = if 3 * b + d = 0 ∨ (3 * b + d) % 2 = 1 then none else some ((3 * b + d) / 2) := by
  show (if isSignV (.int (d : Nat)) = true then _ else none) = _
  rw [if_pos (sign3 h)]; rfl
theorem hread_hv (b : Nat) : hread (nV (hv b)) = some b := by
  induction b using Nat.strongRecOn with
  | ind b ih =>
    by_cases h : b = 0
    · subst h; rw [hv_zero]; rfl
    · have := ih (2 * b / 3) (by omega)
      unfold hread at this ⊢
      rw [hv_pos h, nV_app, List.foldl_append, this]
      show hst (some (2 * b / 3)) (.int (2 * b % 3 : Nat)) = some b
      rw [hst3 (by omega), if_neg (by omega)]
      congr 1
      omega
theorem rdV_hv (b : Nat) : rdV (hv b) = [b] := by
  unfold rdV
  rw [hread_hv]; rfl
structure sp_read (vs : List V) (H : Hp) (Q : VK) (E : XK) : Prop where
  ex : ∃ (a : Addr) (l : List Nat) (rs t : List Res), vs = [.ref a] ∧
    (Sep H rs) ∧
    (Pick (.obj a (.lst (nV l))) rs t) ∧
    (l.length ≤ 100000) ∧
    (∀ x ∈ l, x < 3) ∧
    (∀ H' g, Sep H' (.obj g (.lst (nV (rdV l))) :: rs) → Q (.ref g) H')
theorem ok_read {P : Program} {w : World} {K : PySem.W.Frag}
    {mg : Str → Option Value} {base : Heap}
    {f : Addr} {fd : FuncData}
    (F : Fun K "_law_read" "_law_read" s_read f fd) (Z : Zs mg) :
    FnOk P w K mg base CX0 1 f fd ["signs"] sp_read := by
  refine F.ok sc_read (fun vs H Q E h => ?_)
    (fun cdv A outer s H vs Q E hr h => ?_)
  · obtain ⟨a, l, rs, t, rfl, _⟩ := h.ex
    rfl
  obtain ⟨a, l, rs, t, rfl, hc, hp, hl, h3, q⟩ := h.ex
  have hu := hu_of hr
  refine ⟨_, (pss_cons /- book = 0 -/ (ps_set (i := 1) sc_read.nd rfl (Or.inl rfl) (pe_nat 0))
(pss_cons /- for one in signs: -/ (ps_for PassesOwn.never rfl (pi_list (pv 0)) (pg_name (i := 2) sc_read.nd rfl (Or.inl rfl))
(pss_cons /- twice = 3 * book + one -/ (ps_set (i := 3) sc_read.nd rfl (Or.inl rfl) (pe_op op_addN (pe_op op_mulN (pe_nat 3) (pv 1)) (pv 2)))
(C8.pss_cut /- if twice % 2 == 1 or (book == 0 and one == 0): -/ (ps_if (PW.pt (pw_or (pt_cmpR op_eqN (pe_op op_modNN (pv 3) (pe_nat 2)) (pe_nat 1) (nomark _)) (pw_or1 (PW.pt (pw_and (pt_cmpR op_eqN (pv 1) (pe_nat 0) (nomark _)) (pw_and1 (pt_cmpR op_eqN (pv 2) (pe_nat 0) (nomark _))))))))
(pss_one /- return [] -/ (ps_ret (pe_lst' pa_nil)))
pss_nil)
(pss_one /- book = twice // 2 -/ (ps_set (i := 1) sc_read.nd rfl (Or.inl rfl) (pe_op op_fdivN (pv 3) (pe_nat 2)))))))
(pss_one /- return [book] -/ (ps_ret (pe_lst' (pa_cons (pv 1) pa_nil)))))), ?_⟩
  repeat (first | refine ⟨_, _, rfl, rfl, ?_⟩ | refine ⟨_, _, rfl, ?_⟩ | refine ⟨_, rfl, ?_⟩ | refine ⟨_, rfl, rfl, ?_⟩ | refine ⟨rfl, ?_⟩)
  refine ⟨⟨_, hc.sq hp⟩, ?_⟩
  refine forA (e := eN) (l := l) (wv_list (K := K) (a := a)) (fun j σ rs' => ∃ b : Nat, (∃ v_one v_twice : Option V, σ = [some (.ref a), some (.int (b : Nat)), v_one, v_twice]) ∧ rs = rs' ∧ ((nV l).take j).foldl hst (some 0) = some b ∧ NB j b)
    (.mk' hc ⟨0, (by (repeat (apply Exists.intro)); exact rfl), rfl, rfl, Nat.one_pos⟩) (by rintro j σ rs' H ⟨b, _, rfl, _⟩ hc; exact hc.sq hp) ?_ ?_
  · rintro j d σ rs' H ex ⟨b, ⟨v_one, v_twice, rfl⟩, rfl, hb, nb⟩ hc
    have hj := (List.getElem?_eq_some_iff.mp ex).1
    have hd := h3 d (List.mem_of_getElem? ex)
    have exV : (nV l)[j]? = some (.int (d : Nat)) := by
      unfold nV
      rw [List.getElem?_map, ex]; rfl
    have hnext : ((nV l).take (j + 1)).foldl hst (some 0) = hst (some b) (.int (d : Nat)) := by
      rw [List.take_add_one, exV, Option.toList_some, List.foldl_append, hb]; rfl
    rw [hst3 hd] at hnext
    have none_q : 3 * b + d = 0 ∨ (3 * b + d) % 2 = 1 → rdV l = [] := fun z => by
      unfold rdV
      rw [hread_cut (j := j + 1) (by rw [hnext, if_pos z])]; rfl
    repeat (first | refine ⟨_, _, rfl, rfl, ?_⟩ | refine ⟨_, _, rfl, ?_⟩ | refine ⟨_, rfl, ?_⟩ | refine ⟨_, rfl, rfl, ?_⟩ | refine ⟨rfl, ?_⟩ | refine And.intro (by omega) ?_ | refine And.intro ⟨by omega, by omega⟩ ?_ | refine And.intro ⟨_, _, (by show NB _ _; (repeat (first | assumption | exact NB.byte (by omega) | exact NB.w32 (by omega) | apply NB.add | apply NB.mul))), (by show NB _ _; (repeat (first | assumption | exact NB.byte (by omega) | exact NB.w32 (by omega) | apply NB.add | apply NB.mul))), by omega⟩ ?_)
    refine ⟨RaP (fun _ σ rs' => (∃ v_one : Option V, σ = [some (.ref a), some (.int (b : Nat)), v_one, some (.int (3 * b + d : Nat))]) ∧ rs = rs' ∧ ¬ (3 * b + d = 0 ∨ (3 * b + d) % 2 = 1)) 0, ?_, ?_⟩
    · repeat (first | refine ⟨_, _, rfl, rfl, ?_⟩ | refine ⟨_, _, rfl, ?_⟩ | refine ⟨_, rfl, ?_⟩ | refine ⟨_, rfl, rfl, ?_⟩ | refine ⟨rfl, ?_⟩ | refine And.intro (by omega) ?_ | refine And.intro ⟨by omega, by omega⟩ ?_ | refine And.intro ⟨_, _, (by show NB _ _; (repeat (first | assumption | exact NB.byte (by omega) | exact NB.w32 (by omega) | apply NB.add | apply NB.mul))), (by show NB _ _; (repeat (first | assumption | exact NB.byte (by omega) | exact NB.w32 (by omega) | apply NB.add | apply NB.mul))), by omega⟩ ?_)
      refine iteD (fun h => ?_) (fun h => ?_)
      · rw [none_q (.inr h)] at q
        repeat (first | refine ⟨_, _, rfl, rfl, ?_⟩ | refine ⟨_, _, rfl, ?_⟩ | refine ⟨_, rfl, ?_⟩ | refine ⟨_, rfl, rfl, ?_⟩ | refine ⟨rfl, ?_⟩)
        (first | refine ⟨Nat.le_of_ble_eq_true rfl, fun g H ng => ?_⟩ | refine fun g H ng => ?_); replace hc := hc.new ng
        exact q H g hc
      repeat (first | refine ⟨_, _, rfl, rfl, ?_⟩ | refine ⟨_, _, rfl, ?_⟩ | refine ⟨_, rfl, ?_⟩ | refine ⟨_, rfl, rfl, ?_⟩ | refine ⟨rfl, ?_⟩ | refine And.intro (by omega) ?_ | refine And.intro ⟨by omega, by omega⟩ ?_ | refine And.intro ⟨_, _, (by show NB _ _; (repeat (first | assumption | exact NB.byte (by omega) | exact NB.w32 (by omega) | apply NB.add | apply NB.mul))), (by show NB _ _; (repeat (first | assumption | exact NB.byte (by omega) | exact NB.w32 (by omega) | apply NB.add | apply NB.mul))), by omega⟩ ?_)
      refine iteD (fun h2 => ?_) (fun h2 => ?_)
      · repeat (first | refine ⟨_, _, rfl, rfl, ?_⟩ | refine ⟨_, _, rfl, ?_⟩ | refine ⟨_, rfl, ?_⟩ | refine ⟨_, rfl, rfl, ?_⟩ | refine ⟨rfl, ?_⟩ | refine And.intro (by omega) ?_ | refine And.intro ⟨by omega, by omega⟩ ?_ | refine And.intro ⟨_, _, (by show NB _ _; (repeat (first | assumption | exact NB.byte (by omega) | exact NB.w32 (by omega) | apply NB.add | apply NB.mul))), (by show NB _ _; (repeat (first | assumption | exact NB.byte (by omega) | exact NB.w32 (by omega) | apply NB.add | apply NB.mul))), by omega⟩ ?_)
        refine iteD (fun h4 => ?_) (fun h4 => ?_)
        · rw [none_q (.inl (by omega))] at q
          repeat (first | refine ⟨_, _, rfl, rfl, ?_⟩ | refine ⟨_, _, rfl, ?_⟩ | refine ⟨_, rfl, ?_⟩ | refine ⟨_, rfl, rfl, ?_⟩ | refine ⟨rfl, ?_⟩)
          (first | refine ⟨Nat.le_of_ble_eq_true rfl, fun g H ng => ?_⟩ | refine fun g H ng => ?_); replace hc := hc.new ng
          exact q H g hc
        · exact .mk' hc ⟨(by (repeat (apply Exists.intro)); exact rfl), rfl, by omega⟩
      · exact .mk' hc ⟨(by (repeat (apply Exists.intro)); exact rfl), rfl, by omega⟩
    rintro σ H ⟨⟨rs', ⟨⟨v_one, rfl⟩, rfl, hn⟩, hc⟩⟩
    rw [if_neg hn] at hnext
    repeat (first | refine ⟨_, _, rfl, rfl, ?_⟩ | refine ⟨_, _, rfl, ?_⟩ | refine ⟨_, rfl, ?_⟩ | refine ⟨_, rfl, rfl, ?_⟩ | refine ⟨rfl, ?_⟩ | refine And.intro (by omega) ?_ | refine And.intro ⟨by omega, by omega⟩ ?_ | refine And.intro ⟨_, _, (by show NB _ _; (repeat (first | assumption | exact NB.byte (by omega) | exact NB.w32 (by omega) | apply NB.add | apply NB.mul))), (by show NB _ _; (repeat (first | assumption | exact NB.byte (by omega) | exact NB.w32 (by omega) | apply NB.add | apply NB.mul))), by omega⟩ ?_)
    have nb2 : NB (j + 1) ((3 * b + d) / 2) := by
      show _ < 2 ^ (j + 1)
      have := nb.w
      rw [Nat.pow_succ]; omega
    exact .mk' hc ⟨(3 * b + d) / 2, (by (repeat (apply Exists.intro)); exact rfl), rfl, hnext, nb2⟩
  · rintro σ rs' H ⟨b, ⟨v_one, v_twice, rfl⟩, rfl, hb, nb⟩ hc
    rw [List.take_of_length_le (by rw [nV_len]; exact Nat.le_refl _)] at hb
    have e : rdV l = [b] := by
      unfold rdV hread
      rw [hb]; rfl
    rw [e] at q
    repeat (first | refine ⟨_, _, rfl, rfl, ?_⟩ | refine ⟨_, _, rfl, ?_⟩ | refine ⟨_, rfl, ?_⟩ | refine ⟨_, rfl, rfl, ?_⟩ | refine ⟨rfl, ?_⟩ | refine And.intro (by omega) ?_ | refine And.intro ⟨by omega, by omega⟩ ?_ | refine And.intro ⟨_, _, (by show NB _ _; (repeat (first | assumption | exact NB.byte (by omega) | exact NB.w32 (by omega) | apply NB.add | apply NB.mul))), (by show NB _ _; (repeat (first | assumption | exact NB.byte (by omega) | exact NB.w32 (by omega) | apply NB.add | apply NB.mul))), by omega⟩ ?_)
    (first | refine ⟨Nat.le_of_ble_eq_true rfl, fun g H ng => ?_⟩ | refine fun g H ng => ?_); replace hc := hc.new ng
    exact q H g hc
theorem noSign : ∀ xs : List V, (xs.filterMap fun x => if isSignV x = true then none else some x).isEmpty = xs.all isSignV
  | [] => rfl
  | x :: xs => by
    rw [List.filterMap_cons, List.all_cons, ← noSign xs]
    cases h : isSignV x <;> simp
theorem ThR.up {r : Res} {rs : List Res} {v : V} (h : ThR rs v) : ThR (r :: rs) v := by
  obtain ⟨n, h⟩ := h.ex
  refine ⟨n, ?_⟩
  cases v with
  | ref a =>
    rcases h with ⟨e, xs, t, p⟩ | ⟨e, xs, t, p⟩ | ⟨e, xs, t, p⟩
    · exact .inl ⟨e, xs, _, .there p⟩
    · exact .inr (.inl ⟨e, xs, _, .there p⟩)
    · exact .inr (.inr ⟨e, xs, _, .there p⟩)
  | _ => exact h
structure sp_is_signs (vs : List V) (H : Hp) (Q : VK) (E : XK) : Prop where
  ex : ∃ (a : Addr) (xs : List V) (rs t : List Res), vs = [.ref a] ∧
    (Sep H rs) ∧
    (Pick (.obj a (.lst xs)) rs t) ∧
    (xs.length ≤ 100000) ∧
    (∀ x ∈ xs, ThR rs x) ∧
    (∀ H', Sep H' rs → Q (.bl (xs.all isSignV)) H')
theorem ok_is_signs {P : Program} {w : World} {K : PySem.W.Frag}
    {mg : Str → Option Value} {base : Heap}
    {f : Addr} {fd : FuncData}
    (F : Fun K "_law_is_signs" "_law_is_signs" s_is_signs f fd) (Z : Zs mg)
    (D_law_is_number : Dd P w K mg base "_law_is_number" 1 ["thing"] sp_law_is_number) :
    FnOk P w K mg base CX0 2 f fd ["thing"] sp_is_signs := by
  refine F.ok sc_is_signs (fun vs H Q E h => ?_)
    (fun cdv A outer s H vs Q E hr h => ?_)
  · obtain ⟨a, xs, rs, t, rfl, _⟩ := h.ex
    rfl
  obtain ⟨a, xs, rs, t, rfl, hc, hp, hl, hx, q⟩ := h.ex
  have hu := hu_of hr
  refine ⟨_, (pss_cons /- if not isinstance(thing, (list, tuple)): -/ (ps_if (pt_not (pt_val (pe_callB call_isiT (by rfl) Z.isinstance (by decide +kernel) (pa_cons (pv 0) (pa_cons (pe_tup' (pa_cons (pe_bltn (v := .ty "list") (by rfl) Z.list (by decide +kernel) rfl) (pa_cons (pe_bltn (v := .ty "tuple") (by rfl) Z.tuple (by decide +kernel) rfl) pa_nil))) pa_nil)))))
(pss_one /- return False -/ (ps_ret pe_bl))
pss_nil)
(pss_one /- return [one for one in thing if not _law_is_number(one) or one > 2] == [] -/ (ps_ret (pe_cmpR (op_eqE hr.units (K := K)) (pe_lc (own := [("one", 1)]) (g := (gName 1)) (by rfl) sc_is_signs.nd (pi_list (pv 0)) (blkOk_by (own := [("one", 1)]) (N := N_is_signs) (sc := defScope s_is_signs) (by decide +kernel)) (fun _ _ _ _ _ => pg_name (i := 1) sc_is_signs.nd rfl (Or.inl rfl)) (fun _ _ _ _ _ => pts_one (PW.pt (pw_or (pt_not (pt_val (pe_d D_law_is_number (hr.mono (by decide)) (by rfl) (pa_cons (pv 1) pa_nil)))) (pw_or1 (pt_cmpR op_gtN (pv 1) (pe_nat 2) (nomark _)))))) (fun _ _ _ _ _ => (pv 1))) (pe_lst' pa_nil) (nomark _))))), ?_⟩
  repeat (first | refine ⟨_, _, rfl, rfl, ?_⟩ | refine ⟨_, _, rfl, ?_⟩ | refine ⟨_, rfl, ?_⟩ | refine ⟨_, rfl, rfl, ?_⟩ | refine ⟨rfl, ?_⟩)
  (first | refine ⟨Nat.le_of_ble_eq_true rfl, fun T H nT => ?_⟩ | refine fun T H nT => ?_); replace hc := hc.new nT
  refine ⟨.ref a, T, _, .type "list", _, _, rfl, (hc.at (by (repeat (first | exact Pick.here | apply Pick.there | assumption)))), .cons (.ty _) (.cons (.ty _) .nil), .base (.lst (hc.at (.there hp))), kit_two (b := true) (c := false) (by decide +kernel) (by decide +kernel), ?_⟩
  repeat (first | refine ⟨_, _, rfl, rfl, ?_⟩ | refine ⟨_, _, rfl, ?_⟩ | refine ⟨_, rfl, ?_⟩ | refine ⟨_, rfl, rfl, ?_⟩ | refine ⟨rfl, ?_⟩)
  refine ⟨⟨_, hc.sq (.there hp)⟩, fun D hD => ?_⟩
  refine lcA (e := fun v : V => v) (l := xs) (wv_id (wv_list (K := K) (a := a))) hD hc (fun _ _ hc => hc.sq (.there (.there hp))) (fun x => if isSignV x = true then none else some x) ?_ ?_
  · rintro j x H ex hc
    refine ⟨rfl, ?_⟩
    repeat (first | refine ⟨_, _, rfl, rfl, ?_⟩ | refine ⟨_, _, rfl, ?_⟩ | refine ⟨_, rfl, ?_⟩ | refine ⟨_, rfl, rfl, ?_⟩ | refine ⟨rfl, ?_⟩ | refine And.intro (by omega) ?_ | refine And.intro ⟨by omega, by omega⟩ ?_ | refine And.intro ⟨_, _, (by show NB _ _; (repeat (first | assumption | exact NB.byte (by omega) | exact NB.w32 (by omega) | apply NB.add | apply NB.mul))), (by show NB _ _; (repeat (first | assumption | exact NB.byte (by omega) | exact NB.w32 (by omega) | apply NB.add | apply NB.mul))), by omega⟩ ?_)
    refine ⟨_, _, rfl, hc.sub (by repeat (first | with_reducible exact Sub.refl | exact Sub.nil | (apply Sub.pen; (focus ((repeat (first | exact Pick.here | apply Pick.there | assumption)); done)); (focus omega)) | (apply Sub.cons; (focus ((repeat (first | exact Pick.here | apply Pick.there | assumption)); done))) | apply Sub.drop)), (hx x (List.mem_of_getElem? ex)).up.up, fun H hc => ?_⟩
    have hln : xs.length ≤ 16777216 := by omega
    cases hnum : isNumV x with
    | false =>
      have e : isSignV x = false := by
        cases x with
        | int i => exact decide_eq_false fun z => absurd (show decide (0 ≤ i) = false from hnum) (by rw [decide_eq_true z.1]; decide)
        | _ => rfl
      repeat (first | refine ⟨_, _, rfl, rfl, ?_⟩ | refine ⟨_, _, rfl, ?_⟩ | refine ⟨_, rfl, ?_⟩ | refine ⟨_, rfl, rfl, ?_⟩ | refine ⟨rfl, ?_⟩)
      exact lcYes (hc.sub (by repeat (first | with_reducible exact Sub.refl | exact Sub.nil | (apply Sub.pen; (focus ((repeat (first | exact Pick.here | apply Pick.there | assumption)); done)); (focus omega)) | (apply Sub.cons; (focus ((repeat (first | exact Pick.here | apply Pick.there | assumption)); done))) | apply Sub.drop))) ex hln (by rw [e]; rfl)
    | true =>
    obtain ⟨d, rfl⟩ := isNumV_of hnum
    repeat (first | refine ⟨_, _, rfl, rfl, ?_⟩ | refine ⟨_, _, rfl, ?_⟩ | refine ⟨_, rfl, ?_⟩ | refine ⟨_, rfl, rfl, ?_⟩ | refine ⟨rfl, ?_⟩ | refine And.intro (by omega) ?_ | refine And.intro ⟨by omega, by omega⟩ ?_ | refine And.intro ⟨_, _, (by show NB _ _; (repeat (first | assumption | exact NB.byte (by omega) | exact NB.w32 (by omega) | apply NB.add | apply NB.mul))), (by show NB _ _; (repeat (first | assumption | exact NB.byte (by omega) | exact NB.w32 (by omega) | apply NB.add | apply NB.mul))), by omega⟩ ?_)
    refine iteD (fun h => ?_) (fun h => ?_)
    · repeat (first | refine ⟨_, _, rfl, rfl, ?_⟩ | refine ⟨_, _, rfl, ?_⟩ | refine ⟨_, rfl, ?_⟩ | refine ⟨_, rfl, rfl, ?_⟩ | refine ⟨rfl, ?_⟩ | refine And.intro (by omega) ?_ | refine And.intro ⟨by omega, by omega⟩ ?_ | refine And.intro ⟨_, _, (by show NB _ _; (repeat (first | assumption | exact NB.byte (by omega) | exact NB.w32 (by omega) | apply NB.add | apply NB.mul))), (by show NB _ _; (repeat (first | assumption | exact NB.byte (by omega) | exact NB.w32 (by omega) | apply NB.add | apply NB.mul))), by omega⟩ ?_)
      exact lcYes (hc.sub (by repeat (first | with_reducible exact Sub.refl | exact Sub.nil | (apply Sub.pen; (focus ((repeat (first | exact Pick.here | apply Pick.there | assumption)); done)); (focus omega)) | (apply Sub.cons; (focus ((repeat (first | exact Pick.here | apply Pick.there | assumption)); done))) | apply Sub.drop))) ex hln (by rw [if_neg]; intro z; obtain ⟨d', h1, h2⟩ := isSignV_of z; have := vint h2; omega)
    · exact lcNo (hc.sub (by repeat (first | with_reducible exact Sub.refl | exact Sub.nil | (apply Sub.pen; (focus ((repeat (first | exact Pick.here | apply Pick.there | assumption)); done)); (focus omega)) | (apply Sub.cons; (focus ((repeat (first | exact Pick.here | apply Pick.there | assumption)); done))) | apply Sub.drop))) ex (by rw [sign3 (by omega)]; rfl)
  rintro H hc
  repeat (first | refine ⟨_, _, rfl, rfl, ?_⟩ | refine ⟨_, _, rfl, ?_⟩ | refine ⟨_, rfl, ?_⟩ | refine ⟨_, rfl, rfl, ?_⟩ | refine ⟨rfl, ?_⟩ | refine And.intro (by omega) ?_ | refine And.intro ⟨by omega, by omega⟩ ?_ | refine And.intro ⟨_, _, (by show NB _ _; (repeat (first | assumption | exact NB.byte (by omega) | exact NB.w32 (by omega) | apply NB.add | apply NB.mul))), (by show NB _ _; (repeat (first | assumption | exact NB.byte (by omega) | exact NB.w32 (by omega) | apply NB.add | apply NB.mul))), by omega⟩ ?_)
  (first | refine ⟨Nat.le_of_ble_eq_true rfl, fun E H nE => ?_⟩ | refine fun E H nE => ?_); replace hc := hc.new nE
  refine ⟨D, E, _, rfl, rfl, (hc.sq (by (repeat (first | exact Pick.here | apply Pick.there | assumption)))), (hc.sq (by (repeat (first | exact Pick.here | apply Pick.there | assumption)))), ?_⟩
  rw [noSign]
  exact q H (hc.sub (by repeat (first | with_reducible exact Sub.refl | exact Sub.nil | (apply Sub.pen; (focus ((repeat (first | exact Pick.here | apply Pick.there | assumption)); done)); (focus omega)) | (apply Sub.cons; (focus ((repeat (first | exact Pick.here | apply Pick.there | assumption)); done))) | apply Sub.drop)))
theorem signs_of : ∀ {xs : List V}, xs.all isSignV = true → ∃ l : List Nat, xs = nV l ∧ ∀ x ∈ l, x < 3
  | [], _ => ⟨[], rfl, (fun _ h => nomatch h)⟩
  | x :: xs, h => by
    rw [List.all_cons, Bool.and_eq_true] at h
    obtain ⟨d, hd, rfl⟩ := isSignV_of h.1
    obtain ⟨l, rfl, hl⟩ := signs_of h.2
    refine ⟨d :: l, rfl, fun y hy => ?_⟩
    rcases List.mem_cons.mp hy with e | e
    · rw [e]; exact hd
    · exact hl y e
theorem hst_bad {o : Option Nat} {v : V} (h : isSignV v = false) : hst o v = none := by
  cases o with
  | none => rfl
  | some b =>
    show (if isSignV v = true then _ else none) = none
    rw [h]; rfl
theorem hread_bad : ∀ {xs : List V} (o : Option Nat), xs.all isSignV = false → xs.foldl hst o = none
  | [], _, h => by cases h
  | x :: xs, o, h => by
    rw [List.all_cons] at h
    show xs.foldl hst (hst o x) = none
    cases hx : isSignV x with
    | false => rw [hst_bad hx, hread_none]
    | true => rw [hx, Bool.true_and] at h; exact hread_bad _ h
theorem thL {rs t : List Res} {a : Addr} {xs : List V} (p : Pick (.obj a (.lst xs)) rs t) : thTy rs (.ref a) "list" := .inl ⟨rfl, _, _, p⟩
theorem thT {rs t : List Res} {a : Addr} {xs : List V} (p : Pick (.obj a (.tup xs)) rs t) : thTy rs (.ref a) "tuple" := .inr (.inl ⟨rfl, _, _, p⟩)
theorem thN {rs : List Res} {l : List Nat} : ∀ x ∈ nV l, ThR rs x := fun x hx => by
  obtain ⟨y, _, rfl⟩ := mem_nV hx
  exact .int
theorem hread_lt : ∀ (xs : List V) (b k c : Nat), b < 2 ^ k → xs.foldl hst (some b) = some c → c < 2 ^ (k + xs.length)
  | [], b, k, c, h, e => by
    have : b = c := Option.some.inj e
    subst this; exact h
  | x :: xs, b, k, c, h, e => by
    have e2 : xs.foldl hst (hst (some b) x) = some c := e
    cases hx : isSignV x with
    | false => rw [hst_bad hx, hread_none] at e2; cases e2
    | true =>
      obtain ⟨d, hd, rfl⟩ := isSignV_of hx
      rw [hst3 hd] at e2
      by_cases z : 3 * b + d = 0 ∨ (3 * b + d) % 2 = 1
      · rw [if_pos z, hread_none] at e2; cases e2
      · rw [if_neg z] at e2
        have := hread_lt xs ((3 * b + d) / 2) (k + 1) c (by rw [Nat.pow_succ]; omega) e2
        rw [List.length_cons]
        rw [show k + 1 + xs.length = k + (xs.length + 1) by omega] at this
        exact this
theorem hread_nb {xs : List V} (h : xs.length ≤ 1900) : ∀ x ∈ (hread xs).toList, NB 1900 x := fun x hx => by
  cases e : hread xs with
  | none => rw [e] at hx; cases hx
  | some c =>
    rw [e] at hx
    have ex : x = c := by simpa using hx
    have := hread_lt xs 0 0 c (by decide) e
    rw [Nat.zero_add] at this
    rw [ex]
    exact Nat.lt_of_lt_of_le this (Nat.pow_le_pow_right (by decide) h)
theorem hread_few {xs : List V} : (hread xs).toList.length ≤ 200 := by
  cases hread xs with
  | none => exact Nat.zero_le _
  | some b => show 1 ≤ 200; decide

theorem ok_law {P : Program} {w : World} {K : PySem.W.Frag}
    {mg : Str → Option Value} {base : Heap} {C_BadSigns : Addr}
    {f : Addr} {fd : FuncData}
    (F : Fun K "law" "law" s_law f fd) (Z : Zs mg)
    (D_pen3 : Dd P w K mg base "_law_pen" 1 ["script"] (sp_pen3 K))
    (D_far : Dd P w K mg base "_law_far" 3 ["pen"] sp_far)
    (D_halves : Dd P w K mg base "halves" 1 ["book"] sp_halves)
    (D_is_signs : Dd P w K mg base "_law_is_signs" 2 ["thing"] sp_is_signs)
    (D_read : Dd P w K mg base "_law_read" 1 ["signs"] sp_read)
    (D_told : Dd P w K mg base "_law_told" 4 ["thing"] (sp_told C_BadSigns))
    (D_draw3 : Dd P w K mg base "_law_draw" 1 ["pen", "many"] sp_draw3)
    (D_pick3 : Dd P w K mg base "_law_pick" 2 ["pen", "some"] (sp_pick3 K))
    (D_from_halves : DdX P w K mg base "from_halves" 3 ["signs"] (sp_from_halves C_BadSigns)) :
    FnG P w K mg base CX0 5 f fd ["script"] (spLaw K) := by
  refine fnG_of F sc_law (fun vs H Q E h => ?_)
    (fun cdv A outer s H vs Q E gd hr h => ?_)
  · obtain ⟨a, ns, rfl, _⟩ := h
    rfl
  obtain ⟨a, ns, rfl, hs, hl, hb, q⟩ := h
  have hu := hu_of hr
  refine ⟨_, (pss_cons /- pen = _law_pen(script) -/ (ps_set (i := 1) sc_law.nd rfl (Or.inr rfl) (pe_d D_pen3 (hr.mono (by decide)) (by rfl) (pa_cons (pv 0) pa_nil)))
(pss_cons /- for turn in range(3 + min(6, len(script))): -/ (ps_for PassesOwn.never rfl (pi_rgN1 (by rfl) Z.range (pa_cons (pe_op op_addN (pe_nat 3) (pe_callB (call_min2N rfl) (by rfl) Z.min (by decide +kernel) (pa_cons (pe_nat 6) (pa_cons (pe_callB (call_lenN (K := K)) (by rfl) Z.len (by decide +kernel) (pa_cons (pv 0) pa_nil)) pa_nil)))) pa_nil)) (pg_name (i := 2) sc_law.nd rfl (Or.inl rfl))
(pss_cons /- book = _law_far(pen) -/ (ps_set (i := 3) sc_law.nd rfl (Or.inl rfl) (pe_d D_far (hr.mono (by decide)) (by rfl) (pa_cons (pv 1) pa_nil)))
(pss_cons /- signs = halves(book) -/ (ps_set (i := 4) sc_law.nd rfl (Or.inl rfl) (pe_d D_halves (hr.mono (by decide)) (by rfl) (pa_cons (pv 3) pa_nil)))
(pss_cons /- if not isinstance(signs, list) or not _law_is_signs(signs) or repr(_law_read(signs)) != repr([book]): -/ (ps_if (PW.pt (pw_or (pt_not (pt_val (pe_callB call_isiList (by rfl) Z.isinstance (by decide +kernel) (pa_cons (pv 4) (pa_cons (pe_bltn (v := .ty "list") (by rfl) Z.list (by decide +kernel) rfl) pa_nil))))) (pw_or (pt_not (pt_val (pe_d D_is_signs (hr.mono (by decide)) (by rfl) (pa_cons (pv 4) pa_nil)))) (pw_or1 (pt_cmpR op_neS (pe_callB (call_reprD gd hr.units) (by rfl) Z.repr (by decide +kernel) (pa_cons (pe_d D_read (hr.mono (by decide)) (by rfl) (pa_cons (pv 4) pa_nil)) pa_nil)) (pe_callB (call_reprD gd hr.units) (by rfl) Z.repr (by decide +kernel) (pa_cons (pe_lst' (pa_cons (pv 3) pa_nil)) pa_nil)) (nomark _))))))
(pss_one /- return False -/ (ps_ret pe_bl))
pss_nil)
(pss_cons /- kept = list(signs) -/ (ps_set (i := 5) sc_law.nd rfl (Or.inl rfl) (pe_callTy (call_listN (K := K)) (by rfl) Z.list (by decide +kernel) (pa_cons (pv 4) pa_nil)))
(pss_cons /- if repr(_law_told(tuple(signs))) != repr([book]): -/ (ps_if (pt_cmpR op_neS (pe_callB (call_reprD gd hr.units) (by rfl) Z.repr (by decide +kernel) (pa_cons (pe_d D_told (hr.mono (by decide)) (by rfl) (pa_cons (pe_callTy call_tuple_of (by rfl) Z.tuple (by decide +kernel) (pa_cons (pv 4) pa_nil)) pa_nil)) pa_nil)) (pe_callB (call_reprD gd hr.units) (by rfl) Z.repr (by decide +kernel) (pa_cons (pe_lst' (pa_cons (pv 3) pa_nil)) pa_nil)) (nomark _))
(pss_one /- return False -/ (ps_ret pe_bl))
pss_nil)
(pss_cons /- signs.append(7) -/ (ps_expr (pe_app (pv 4) (pe_nat 7)))
(pss_cons /- if halves(book) != kept or repr(_law_told(kept)) != repr([book]): -/ (ps_if (PW.pt (pw_or (pt_cmpR (op_neL hr.units (K := K)) (pe_d D_halves (hr.mono (by decide)) (by rfl) (pa_cons (pv 3) pa_nil)) (pv 5) (nomark _)) (pw_or1 (pt_cmpR op_neS (pe_callB (call_reprD gd hr.units) (by rfl) Z.repr (by decide +kernel) (pa_cons (pe_d D_told (hr.mono (by decide)) (by rfl) (pa_cons (pv 5) pa_nil)) pa_nil)) (pe_callB (call_reprD gd hr.units) (by rfl) Z.repr (by decide +kernel) (pa_cons (pe_lst' (pa_cons (pv 3) pa_nil)) pa_nil)) (nomark _)))))
(pss_one /- return False -/ (ps_ret pe_bl))
pss_nil)
(pss_cons /- for again in range(4): -/ (ps_for PassesOwn.never rfl (pi_rgN1 (by rfl) Z.range (pa_cons (pe_nat 4) pa_nil)) (pg_name (i := 6) sc_law.nd rfl (Or.inl rfl))
(pss_cons /- at, some = (_law_draw(pen, len(kept) + 1), list(kept)) -/ (ps_par (i := 7) (j := 8) (by rfl) sc_law.nd rfl rfl (by decide) rfl rfl (pa_cons (pe_d D_draw3 (hr.mono (by decide)) (by rfl) (pa_cons (pv 1) (pa_cons (pe_op op_addN (pe_callB (call_lenN (K := K)) (by rfl) Z.len (by decide +kernel) (pa_cons (pv 5) pa_nil)) (pe_nat 1)) pa_nil))) (pa_cons (pe_callTy (call_listN (K := K)) (by rfl) Z.list (by decide +kernel) (pa_cons (pv 5) pa_nil)) pa_nil)) (by rfl))
(pss_cons /- one = _law_pick(pen, [0, 1, 2, 0, 1, 2, 3, -1, True, False, None, '1', (1,)]) -/ (ps_set (i := 9) sc_law.nd rfl (Or.inl rfl) (pe_d D_pick3 (hr.mono (by decide)) (by rfl) (pa_cons (pv 1) (pa_cons (pe_lst' (pa_cons (pe_nat 0) (pa_cons (pe_nat 1) (pa_cons (pe_nat 2) (pa_cons (pe_nat 0) (pa_cons (pe_nat 1) (pa_cons (pe_nat 2) (pa_cons (pe_nat 3) (pa_cons (pe_un un_neg (pe_nat 1)) (pa_cons pe_bl (pa_cons pe_bl (pa_cons pe_non (pa_cons pe_str (pa_cons (pe_tup' (pa_cons (pe_nat 1) pa_nil)) pa_nil)))))))))))))) pa_nil))))
(pss_cons /- kind = _law_draw(pen, 3) -/ (ps_set (i := 10) sc_law.nd rfl (Or.inl rfl) (pe_d D_draw3 (hr.mono (by decide)) (by rfl) (pa_cons (pv 1) (pa_cons (pe_nat 3) pa_nil))))
(pss_cons /- bent = some[:at] + [one] * int(kind < 2) + some[at + int(kind > 0):] -/ (ps_set (i := 11) sc_law.nd rfl (Or.inl rfl) (pe_op op_cat' (pe_op op_cat' (pe_slice (sl_listN (K := K)) (pv 8) po_none (po_some (pv 7))) (pe_op op_repN (pe_lst' (pa_cons (pv 9) pa_nil)) (pe_callTy call_intB (by rfl) Z.int (by decide +kernel) (pa_cons (pe_cmpR op_ltN (pv 10) (pe_nat 2) (nomark _)) pa_nil)))) (pe_slice (sl_listN (K := K)) (pv 8) (po_some (pe_op op_addN (pv 7) (pe_callTy call_intB (by rfl) Z.int (by decide +kernel) (pa_cons (pe_cmpR op_gtN (pv 10) (pe_nat 0) (nomark _)) pa_nil)))) po_none)))
(C8.pss_cut /- due = _law_read(bent) if _law_is_signs(bent) else [] -/ (ps_set (i := 12) sc_law.nd rfl (Or.inl rfl) (pe_ifExp (pt_val (pe_d D_is_signs (hr.mono (by decide)) (by rfl) (pa_cons (pv 11) pa_nil))) (pe_d D_read (hr.mono (by decide)) (by rfl) (pa_cons (pv 11) pa_nil)) (pe_lst' pa_nil)))
(pss_one /- if repr(_law_told(bent)) != repr(due): -/ (ps_if (pt_cmpR op_neS (pe_callB (call_reprD gd hr.units) (by rfl) Z.repr (by decide +kernel) (pa_cons (pe_d D_told (hr.mono (by decide)) (by rfl) (pa_cons (pv 11) pa_nil)) pa_nil)) (pe_callB (call_reprD gd hr.units) (by rfl) Z.repr (by decide +kernel) (pa_cons (pv 12) pa_nil)) (nomark _))
(pss_one /- return False -/ (ps_ret pe_bl))
pss_nil))))))))
(pss_cons /- few = [_law_draw(pen, 3) for k in range(_law_draw(pen, 31))] -/ (ps_setLc (i := 13) (own := [("k", 14)]) (g := (gName 14)) (by rfl) sc_law.nd rfl rfl (sw_true rfl rfl rfl (by decide +kernel)) (pi_rgN1 (by rfl) Z.range (pa_cons (pe_d D_draw3 (hr.mono (by decide)) (by rfl) (pa_cons (pv 1) (pa_cons (pe_nat 31) pa_nil))) pa_nil)) (blkOk_by (own := [("k", 14)]) (N := N_law) (sc := defScope s_law) (by decide +kernel)) (fun _ _ _ _ _ => pg_name (i := 14) sc_law.nd rfl (Or.inl rfl)) (fun _ _ _ _ _ => pts_nil) (fun _ _ _ _ _ => (pe_d D_draw3 (hr.mono (by decide)) (by rfl) (pa_cons (pv 1) (pa_cons (pe_nat 3) pa_nil)))))
(pss_cons /- if repr(_law_told(few)) != repr(_law_read(few)): -/ (ps_if (pt_cmpR op_neS (pe_callB (call_reprD gd hr.units) (by rfl) Z.repr (by decide +kernel) (pa_cons (pe_d D_told (hr.mono (by decide)) (by rfl) (pa_cons (pv 13) pa_nil)) pa_nil)) (pe_callB (call_reprD gd hr.units) (by rfl) Z.repr (by decide +kernel) (pa_cons (pe_d D_read (hr.mono (by decide)) (by rfl) (pa_cons (pv 13) pa_nil)) pa_nil)) (nomark _))
(pss_one /- return False -/ (ps_ret pe_bl))
pss_nil)
(pss_cons /- thing = _law_pick(pen, [None, 0, 2, True, '', '2', {}, {2: 1}, [[2]], (2, [1]), '21']) -/ (ps_set (i := 15) sc_law.nd rfl (Or.inl rfl) (pe_d D_pick3 (hr.mono (by decide)) (by rfl) (pa_cons (pv 1) (pa_cons (pe_lst' (pa_cons pe_non (pa_cons (pe_nat 0) (pa_cons (pe_nat 2) (pa_cons pe_bl (pa_cons pe_str (pa_cons pe_str (pa_cons pe_dnewK (pa_cons (pe_disp (pps_cons (pe_nat 2) (pe_nat 1) pps_nil) (by rfl) (by rfl) (fun z => by cases z) (by decide)) (pa_cons (pe_lst' (pa_cons (pe_lst' (pa_cons (pe_nat 2) pa_nil)) pa_nil)) (pa_cons (pe_tup' (pa_cons (pe_nat 2) (pa_cons (pe_lst' (pa_cons (pe_nat 1) pa_nil)) pa_nil))) (pa_cons pe_str pa_nil)))))))))))) pa_nil))))
(pss_one /- if repr(_law_told(thing)) != '[]': -/ (ps_if (pt_cmpR op_neS (pe_callB (call_reprD gd hr.units) (by rfl) Z.repr (by decide +kernel) (pa_cons (pe_d D_told (hr.mono (by decide)) (by rfl) (pa_cons (pv 15) pa_nil)) pa_nil)) pe_str (nomark _))
(pss_one /- return False -/ (ps_ret pe_bl))
pss_nil))))))))))))))
(pss_one /- return from_halves([]) == 0 and halves(0) == [] and (from_halves((2, 1)) == 2) -/ (ps_ret (pe_and (pe_cmpR op_eqN (pe_dX0 D_from_halves (hr.mono (by decide)) (by rfl) (pa_cons (pe_lst' pa_nil) pa_nil)) (pe_nat 0) (nomark _)) (pe_and (pe_cmpR (op_eqL hr.units (K := K)) (pe_d D_halves (hr.mono (by decide)) (by rfl) (pa_cons (pe_nat 0) pa_nil)) (pe_lst' pa_nil) (nomark _)) (pe_one (pe_cmpR op_eqN (pe_dX0 D_from_halves (hr.mono (by decide)) (by rfl) (pa_cons (pe_tup' (pa_cons (pe_nat 2) (pa_cons (pe_nat 1) pa_nil))) pa_nil)) (pe_nat 2) (nomark _))))))))), ?_⟩
  refine ⟨_, rfl, a, ns, rfl, hs, hl, hb, fun H p hc => ?_⟩
  repeat (first | refine ⟨_, _, rfl, rfl, ?_⟩ | refine ⟨_, _, rfl, ?_⟩ | refine ⟨_, rfl, ?_⟩ | refine ⟨_, rfl, rfl, ?_⟩ | refine ⟨rfl, ?_⟩ | refine And.intro (by omega) ?_ | refine And.intro ⟨by omega, by omega⟩ ?_ | refine And.intro ⟨_, _, (by show NB _ _; (repeat (first | assumption | exact NB.byte (by omega) | exact NB.w32 (by omega) | apply NB.add | apply NB.mul))), (by show NB _ _; (repeat (first | assumption | exact NB.byte (by omega) | exact NB.w32 (by omega) | apply NB.add | apply NB.mul))), by omega⟩ ?_)
  have hlen : (ns.map V.int).length ≤ 63 := by rw [List.length_map]; exact hl
  refine ⟨_, _, rfl, .inl (hc.sqS (by (repeat (first | exact Pick.here | apply Pick.there | assumption)))), ?_⟩
  repeat (first | refine ⟨_, _, rfl, rfl, ?_⟩ | refine ⟨_, _, rfl, ?_⟩ | refine ⟨_, rfl, ?_⟩ | refine ⟨_, rfl, rfl, ?_⟩ | refine ⟨rfl, ?_⟩ | refine And.intro (by omega) ?_ | refine And.intro ⟨by omega, by omega⟩ ?_ | refine And.intro ⟨_, _, (by show NB _ _; (repeat (first | assumption | exact NB.byte (by omega) | exact NB.w32 (by omega) | apply NB.add | apply NB.mul))), (by show NB _ _; (repeat (first | assumption | exact NB.byte (by omega) | exact NB.w32 (by omega) | apply NB.add | apply NB.mul))), by omega⟩ ?_)
  refine forR (n := _) (fun i σ rs' => ∃ c, c ≤ 10000 * i ∧ (∃ v_turn v_book v_signs v_kept v_again v_at v_some v_one v_kind v_bent v_due v_few v_k v_thing : Option V, σ = [some (.ref a), some (.ref p), v_turn, v_book, v_signs, v_kept, v_again, v_at, v_some, v_one, v_kind, v_bent, v_due, v_few, v_k, v_thing]) ∧ rs' = [.pen p c])
    (.mk' (hc.sub (by repeat (first | with_reducible exact Sub.refl | exact Sub.nil | (apply Sub.pen; (focus ((repeat (first | exact Pick.here | apply Pick.there | assumption)); done)); (focus omega)) | (apply Sub.cons; (focus ((repeat (first | exact Pick.here | apply Pick.there | assumption)); done))) | apply Sub.drop))) ⟨0, by omega, (by (repeat (apply Exists.intro)); exact rfl), rfl⟩) ?_ ?_
  · rintro i σ rs' H hi ⟨c, hcn, ⟨v_turn, v_book, v_signs, v_kept, v_again, v_at, v_some, v_one, v_kind, v_bent, v_due, v_few, v_k, v_thing, rfl⟩, rfl⟩ hc
    repeat (first | refine ⟨_, _, rfl, rfl, ?_⟩ | refine ⟨_, _, rfl, ?_⟩ | refine ⟨_, rfl, ?_⟩ | refine ⟨_, rfl, rfl, ?_⟩ | refine ⟨rfl, ?_⟩ | refine And.intro (by omega) ?_ | refine And.intro ⟨by omega, by omega⟩ ?_ | refine And.intro ⟨_, _, (by show NB _ _; (repeat (first | assumption | exact NB.byte (by omega) | exact NB.w32 (by omega) | apply NB.add | apply NB.mul))), (by show NB _ _; (repeat (first | assumption | exact NB.byte (by omega) | exact NB.w32 (by omega) | apply NB.add | apply NB.mul))), by omega⟩ ?_)
    refine ⟨_, _, _, rfl, hc.sub (by repeat (first | with_reducible exact Sub.refl | exact Sub.nil | (apply Sub.pen; (focus ((repeat (first | exact Pick.here | apply Pick.there | assumption)); done)); (focus omega)) | (apply Sub.cons; (focus ((repeat (first | exact Pick.here | apply Pick.there | assumption)); done))) | apply Sub.drop)), by omega, fun H b hc hb => ?_⟩
    have nbb : NB 1900 b := by show b < 2 ^ 1900; exact Nat.lt_of_lt_of_le hb (by decide +kernel)
    have nb2 : NB 200 b := by show b < 2 ^ 200; exact Nat.lt_of_lt_of_le hb (by decide)
    repeat (first | refine ⟨_, _, rfl, rfl, ?_⟩ | refine ⟨_, _, rfl, ?_⟩ | refine ⟨_, rfl, ?_⟩ | refine ⟨_, rfl, rfl, ?_⟩ | refine ⟨rfl, ?_⟩ | refine And.intro (by omega) ?_ | refine And.intro ⟨by omega, by omega⟩ ?_ | refine And.intro ⟨_, _, (by show NB _ _; (repeat (first | assumption | exact NB.byte (by omega) | exact NB.w32 (by omega) | apply NB.add | apply NB.mul))), (by show NB _ _; (repeat (first | assumption | exact NB.byte (by omega) | exact NB.w32 (by omega) | apply NB.add | apply NB.mul))), by omega⟩ ?_)
    refine ⟨_, _, _, rfl, hc.sub (by repeat (first | with_reducible exact Sub.refl | exact Sub.nil | (apply Sub.pen; (focus ((repeat (first | exact Pick.here | apply Pick.there | assumption)); done)); (focus omega)) | (apply Sub.cons; (focus ((repeat (first | exact Pick.here | apply Pick.there | assumption)); done))) | apply Sub.drop)), nb2, by decide, fun H S hc => ?_⟩
    have hl := hv_len nb2
    have hlt := hv_lt b
    repeat (first | refine ⟨_, _, rfl, rfl, ?_⟩ | refine ⟨_, _, rfl, ?_⟩ | refine ⟨_, rfl, ?_⟩ | refine ⟨_, rfl, rfl, ?_⟩ | refine ⟨rfl, ?_⟩ | refine And.intro (by omega) ?_ | refine And.intro ⟨by omega, by omega⟩ ?_ | refine And.intro ⟨_, _, (by show NB _ _; (repeat (first | assumption | exact NB.byte (by omega) | exact NB.w32 (by omega) | apply NB.add | apply NB.mul))), (by show NB _ _; (repeat (first | assumption | exact NB.byte (by omega) | exact NB.w32 (by omega) | apply NB.add | apply NB.mul))), by omega⟩ ?_)
    refine ⟨S, _, rfl, (hc.at (by (repeat (first | exact Pick.here | apply Pick.there | assumption)))), ?_⟩
    repeat (first | refine ⟨_, _, rfl, rfl, ?_⟩ | refine ⟨_, _, rfl, ?_⟩ | refine ⟨_, rfl, ?_⟩ | refine ⟨_, rfl, rfl, ?_⟩ | refine ⟨rfl, ?_⟩)
    have hall : (nV (hv b)).all isSignV = true := List.all_eq_true.mpr fun x hx => by
      obtain ⟨y, hy, rfl⟩ := mem_nV hx
      exact sign3 (hlt y hy)
    refine ⟨_, _, _, _, rfl, hc.sub (by repeat (first | with_reducible exact Sub.refl | exact Sub.nil | (apply Sub.pen; (focus ((repeat (first | exact Pick.here | apply Pick.there | assumption)); done)); (focus omega)) | (apply Sub.cons; (focus ((repeat (first | exact Pick.here | apply Pick.there | assumption)); done))) | apply Sub.drop)), (by (repeat (first | exact Pick.here | apply Pick.there | assumption))), by rw [nV_len]; omega, thN, fun H hc => ?_⟩
    rw [hall]
    repeat (first | refine ⟨_, _, rfl, rfl, ?_⟩ | refine ⟨_, _, rfl, ?_⟩ | refine ⟨_, rfl, ?_⟩ | refine ⟨_, rfl, rfl, ?_⟩ | refine ⟨rfl, ?_⟩)
    refine ⟨_, _, _, _, rfl, hc.sub (by repeat (first | with_reducible exact Sub.refl | exact Sub.nil | (apply Sub.pen; (focus ((repeat (first | exact Pick.here | apply Pick.there | assumption)); done)); (focus omega)) | (apply Sub.cons; (focus ((repeat (first | exact Pick.here | apply Pick.there | assumption)); done))) | apply Sub.drop)), (by (repeat (first | exact Pick.here | apply Pick.there | assumption))), by omega, hlt, fun H G hc => ?_⟩
    rw [rdV_hv] at hc
    obtain ⟨k1, k2, k3, k4⟩ := rdN (l := [b]) (fun x hx => by rw [List.mem_singleton] at hx; rw [hx]; exact nbb) (by show 1 ≤ 200; decide)
    refine ⟨.ref G, _, rfl, dpN (hc.sq (by (repeat (first | exact Pick.here | apply Pick.there | assumption)))), k1, k2, k3, k4, ?_⟩
    repeat (first | refine ⟨_, _, rfl, rfl, ?_⟩ | refine ⟨_, _, rfl, ?_⟩ | refine ⟨_, rfl, ?_⟩ | refine ⟨_, rfl, rfl, ?_⟩ | refine ⟨rfl, ?_⟩)
    (first | refine ⟨Nat.le_of_ble_eq_true rfl, fun L1 H nL1 => ?_⟩ | refine fun L1 H nL1 => ?_); replace hc := hc.new nL1
    replace hc := hc.re (nV [b])
    repeat (first | refine ⟨_, _, rfl, rfl, ?_⟩ | refine ⟨_, _, rfl, ?_⟩ | refine ⟨_, rfl, ?_⟩ | refine ⟨_, rfl, rfl, ?_⟩ | refine ⟨rfl, ?_⟩)
    refine ⟨.ref L1, _, rfl, dpN (hc.sq (by (repeat (first | exact Pick.here | apply Pick.there | assumption)))), k1, k2, k3, k4, ?_⟩
    repeat (first | refine ⟨_, _, rfl, rfl, ?_⟩ | refine ⟨_, _, rfl, ?_⟩ | refine ⟨_, rfl, ?_⟩ | refine ⟨_, rfl, rfl, ?_⟩ | refine ⟨rfl, ?_⟩)
    refine iteNT rfl ?_
    repeat (first | refine ⟨_, _, rfl, rfl, ?_⟩ | refine ⟨_, _, rfl, ?_⟩ | refine ⟨_, rfl, ?_⟩ | refine ⟨_, rfl, rfl, ?_⟩ | refine ⟨rfl, ?_⟩)
    refine ⟨S, _, rfl, .inl (hc.sq (by (repeat (first | exact Pick.here | apply Pick.there | assumption)))), ?_⟩
    (first | refine ⟨Nat.le_of_ble_eq_true rfl, fun K0 H nK0 => ?_⟩ | refine fun K0 H nK0 => ?_); replace hc := hc.new nK0
    repeat (first | refine ⟨_, _, rfl, rfl, ?_⟩ | refine ⟨_, _, rfl, ?_⟩ | refine ⟨_, rfl, ?_⟩ | refine ⟨_, rfl, rfl, ?_⟩ | refine ⟨rfl, ?_⟩)
    refine ⟨S, _, rfl, .inl ⟨(hc.sq (by (repeat (first | exact Pick.here | apply Pick.there | assumption)))), fun U nU => ?_⟩⟩
    replace hc := hc.new' (o := .tup (nV (hv b))) nU
    generalize upd H U (HO.tup (nV (hv b))) = H at hc ⊢
    repeat (first | refine ⟨_, _, rfl, rfl, ?_⟩ | refine ⟨_, _, rfl, ?_⟩ | refine ⟨_, rfl, ?_⟩ | refine ⟨_, rfl, rfl, ?_⟩ | refine ⟨rfl, ?_⟩)
    refine ⟨_, "tuple", _, rfl, hc.sub .refl, thT (by (repeat (first | exact Pick.here | apply Pick.there | assumption))), (fun h => by cases h), fun _ => ⟨_, 1000, .tup (by (repeat (first | exact Pick.here | apply Pick.there | assumption))), by rw [nV_len]; omega, by decide, thN, fun H G2 hc => ?_⟩⟩
    rw [hread_hv] at hc
    replace hc := hc.re (nV [b])
    refine ⟨.ref G2, _, rfl, dpN (hc.sq (by (repeat (first | exact Pick.here | apply Pick.there | assumption)))), k1, k2, k3, k4, ?_⟩
    repeat (first | refine ⟨_, _, rfl, rfl, ?_⟩ | refine ⟨_, _, rfl, ?_⟩ | refine ⟨_, rfl, ?_⟩ | refine ⟨_, rfl, rfl, ?_⟩ | refine ⟨rfl, ?_⟩)
    (first | refine ⟨Nat.le_of_ble_eq_true rfl, fun L2 H nL2 => ?_⟩ | refine fun L2 H nL2 => ?_); replace hc := hc.new nL2
    replace hc := hc.re (nV [b])
    repeat (first | refine ⟨_, _, rfl, rfl, ?_⟩ | refine ⟨_, _, rfl, ?_⟩ | refine ⟨_, rfl, ?_⟩ | refine ⟨_, rfl, rfl, ?_⟩ | refine ⟨rfl, ?_⟩)
    refine ⟨.ref L2, _, rfl, dpN (hc.sq (by (repeat (first | exact Pick.here | apply Pick.there | assumption)))), k1, k2, k3, k4, ?_⟩
    repeat (first | refine ⟨_, _, rfl, rfl, ?_⟩ | refine ⟨_, _, rfl, ?_⟩ | refine ⟨_, rfl, ?_⟩ | refine ⟨_, rfl, rfl, ?_⟩ | refine ⟨rfl, ?_⟩)
    refine iteNT rfl ?_
    repeat (first | refine ⟨_, _, rfl, rfl, ?_⟩ | refine ⟨_, _, rfl, ?_⟩ | refine ⟨_, rfl, ?_⟩ | refine ⟨_, rfl, rfl, ?_⟩ | refine ⟨rfl, ?_⟩)
    refine ⟨⟨_, hc.at (by (repeat (first | exact Pick.here | apply Pick.there | assumption)))⟩, ?_⟩
    repeat (first | refine ⟨_, _, rfl, rfl, ?_⟩ | refine ⟨_, _, rfl, ?_⟩ | refine ⟨_, rfl, ?_⟩ | refine ⟨_, rfl, rfl, ?_⟩ | refine ⟨rfl, ?_⟩)
    refine ⟨_, hc.at (by (repeat (first | exact Pick.here | apply Pick.there | assumption))), (by rw [nV_len]; omega), fun H eH => ?_⟩; replace hc := hc.put (by (repeat (first | exact Pick.here | apply Pick.there | assumption))) eH
    repeat (first | refine ⟨_, _, rfl, rfl, ?_⟩ | refine ⟨_, _, rfl, ?_⟩ | refine ⟨_, rfl, ?_⟩ | refine ⟨_, rfl, rfl, ?_⟩ | refine ⟨rfl, ?_⟩)
    refine ⟨_, _, _, rfl, hc.sub (by repeat (first | with_reducible exact Sub.refl | exact Sub.nil | (apply Sub.pen; (focus ((repeat (first | exact Pick.here | apply Pick.there | assumption)); done)); (focus omega)) | (apply Sub.cons; (focus ((repeat (first | exact Pick.here | apply Pick.there | assumption)); done))) | apply Sub.drop)), nb2, by decide, fun H S2 hc => ?_⟩
    repeat (first | refine ⟨_, _, rfl, rfl, ?_⟩ | refine ⟨_, _, rfl, ?_⟩ | refine ⟨_, rfl, ?_⟩ | refine ⟨_, rfl, rfl, ?_⟩ | refine ⟨rfl, ?_⟩)
    refine ⟨S2, K0, _, _, rfl, rfl, (hc.sq (by (repeat (first | exact Pick.here | apply Pick.there | assumption)))), (hc.sq (by (repeat (first | exact Pick.here | apply Pick.there | assumption)))), ?_⟩
    repeat (first | refine ⟨_, _, rfl, rfl, ?_⟩ | refine ⟨_, _, rfl, ?_⟩ | refine ⟨_, rfl, ?_⟩ | refine ⟨_, rfl, rfl, ?_⟩ | refine ⟨rfl, ?_⟩)
    refine iteNT rfl ?_
    repeat (first | refine ⟨_, _, rfl, rfl, ?_⟩ | refine ⟨_, _, rfl, ?_⟩ | refine ⟨_, rfl, ?_⟩ | refine ⟨_, rfl, rfl, ?_⟩ | refine ⟨rfl, ?_⟩)
    refine ⟨_, "list", _, rfl, hc.sub .refl, thL (xs := nV (hv b)) (a := K0) (by (repeat (first | exact Pick.here | apply Pick.there | assumption))), (fun h => by cases h), fun _ => ⟨_, 1000, .lst (a := K0) (xs := nV (hv b)) (by (repeat (first | exact Pick.here | apply Pick.there | assumption))), by rw [nV_len]; omega, by decide, thN, fun H G3 hc => ?_⟩⟩
    rw [hread_hv] at hc
    replace hc := hc.re (nV [b])
    refine ⟨.ref G3, _, rfl, dpN (hc.sq (by (repeat (first | exact Pick.here | apply Pick.there | assumption)))), k1, k2, k3, k4, ?_⟩
    repeat (first | refine ⟨_, _, rfl, rfl, ?_⟩ | refine ⟨_, _, rfl, ?_⟩ | refine ⟨_, rfl, ?_⟩ | refine ⟨_, rfl, rfl, ?_⟩ | refine ⟨rfl, ?_⟩)
    (first | refine ⟨Nat.le_of_ble_eq_true rfl, fun L3 H nL3 => ?_⟩ | refine fun L3 H nL3 => ?_); replace hc := hc.new nL3
    replace hc := hc.re (nV [b])
    repeat (first | refine ⟨_, _, rfl, rfl, ?_⟩ | refine ⟨_, _, rfl, ?_⟩ | refine ⟨_, rfl, ?_⟩ | refine ⟨_, rfl, rfl, ?_⟩ | refine ⟨rfl, ?_⟩)
    refine ⟨.ref L3, _, rfl, dpN (hc.sq (by (repeat (first | exact Pick.here | apply Pick.there | assumption)))), k1, k2, k3, k4, ?_⟩
    repeat (first | refine ⟨_, _, rfl, rfl, ?_⟩ | refine ⟨_, _, rfl, ?_⟩ | refine ⟨_, rfl, ?_⟩ | refine ⟨_, rfl, rfl, ?_⟩ | refine ⟨rfl, ?_⟩)
    refine iteNT rfl ?_
    repeat (first | refine ⟨_, _, rfl, rfl, ?_⟩ | refine ⟨_, _, rfl, ?_⟩ | refine ⟨_, rfl, ?_⟩ | refine ⟨_, rfl, rfl, ?_⟩ | refine ⟨rfl, ?_⟩ | refine And.intro (by omega) ?_ | refine And.intro ⟨by omega, by omega⟩ ?_ | refine And.intro ⟨_, _, (by show NB _ _; (repeat (first | assumption | exact NB.byte (by omega) | exact NB.w32 (by omega) | apply NB.add | apply NB.mul))), (by show NB _ _; (repeat (first | assumption | exact NB.byte (by omega) | exact NB.w32 (by omega) | apply NB.add | apply NB.mul))), by omega⟩ ?_)
    replace hc := hc.sub (t := [.obj K0 (.lst (nV (hv b))), .pen p (c + 1000)]) (by repeat (first | with_reducible exact Sub.refl | exact Sub.nil | (apply Sub.pen; (focus ((repeat (first | exact Pick.here | apply Pick.there | assumption)); done)); (focus omega)) | (apply Sub.cons; (focus ((repeat (first | exact Pick.here | apply Pick.there | assumption)); done))) | apply Sub.drop))
    refine forR (n := _) (fun j σ rs' => (∃ v_turn v_book v_signs v_again v_at v_some v_one v_kind v_bent v_due v_few v_k v_thing : Option V, σ = [some (.ref a), some (.ref p), v_turn, v_book, v_signs, some (.ref K0), v_again, v_at, v_some, v_one, v_kind, v_bent, v_due, v_few, v_k, v_thing]) ∧ rs' = [.obj K0 (.lst (nV (hv b))), .pen p (c + 1000 + 10 * j)])
      (.mk' (hc.sub (by repeat (first | with_reducible exact Sub.refl | exact Sub.nil | (apply Sub.pen; (focus ((repeat (first | exact Pick.here | apply Pick.there | assumption)); done)); (focus omega)) | (apply Sub.cons; (focus ((repeat (first | exact Pick.here | apply Pick.there | assumption)); done))) | apply Sub.drop))) ⟨(by (repeat (apply Exists.intro)); exact rfl), rfl⟩) ?_ ?_
    · rintro j σ rs' H hj ⟨⟨v_turn, v_book, v_signs, v_again, v_at, v_some, v_one, v_kind, v_bent, v_due, v_few, v_k, v_thing, rfl⟩, rfl⟩ hc
      repeat (first | refine ⟨_, _, rfl, rfl, ?_⟩ | refine ⟨_, _, rfl, ?_⟩ | refine ⟨_, rfl, ?_⟩ | refine ⟨_, rfl, rfl, ?_⟩ | refine ⟨rfl, ?_⟩)
      refine ⟨_, _, rfl, .inl (hc.sq (by (repeat (first | exact Pick.here | apply Pick.there | assumption)))), ?_⟩
      repeat (first | refine ⟨_, _, rfl, rfl, ?_⟩ | refine ⟨_, _, rfl, ?_⟩ | refine ⟨_, rfl, ?_⟩ | refine ⟨_, rfl, rfl, ?_⟩ | refine ⟨rfl, ?_⟩)
      rw [nV_len]
      refine ⟨_, _, _, _, rfl, hc.sub (by repeat (first | with_reducible exact Sub.refl | exact Sub.nil | (apply Sub.pen; (focus ((repeat (first | exact Pick.here | apply Pick.there | assumption)); done)); (focus omega)) | (apply Sub.cons; (focus ((repeat (first | exact Pick.here | apply Pick.there | assumption)); done))) | apply Sub.drop)), ⟨by omega, by omega, by omega⟩, fun H at_ hc hat => ?_⟩
      repeat (first | refine ⟨_, _, rfl, rfl, ?_⟩ | refine ⟨_, _, rfl, ?_⟩ | refine ⟨_, rfl, ?_⟩ | refine ⟨_, rfl, rfl, ?_⟩ | refine ⟨rfl, ?_⟩)
      refine ⟨K0, _, rfl, .inl (hc.sq (by (repeat (first | exact Pick.here | apply Pick.there | assumption)))), ?_⟩
      (first | refine ⟨Nat.le_of_ble_eq_true rfl, fun S3 H nS3 => ?_⟩ | refine fun S3 H nS3 => ?_); replace hc := hc.new nS3
      repeat (first | refine ⟨_, _, rfl, rfl, ?_⟩ | refine ⟨_, _, rfl, ?_⟩ | refine ⟨_, rfl, ?_⟩ | refine ⟨_, rfl, rfl, ?_⟩ | refine ⟨rfl, ?_⟩)
      (first | refine ⟨Nat.le_of_ble_eq_true rfl, fun T1 H nT1 => ?_⟩ | refine fun T1 H nT1 => ?_); replace hc := hc.new nT1
      repeat (first | refine ⟨_, _, rfl, rfl, ?_⟩ | refine ⟨_, _, rfl, ?_⟩ | refine ⟨_, rfl, ?_⟩ | refine ⟨_, rfl, rfl, ?_⟩ | refine ⟨rfl, ?_⟩)
      (first | refine ⟨Nat.le_of_ble_eq_true rfl, fun L4 H nL4 => ?_⟩ | refine fun L4 H nL4 => ?_); replace hc := hc.new nL4
      repeat (first | refine ⟨_, _, rfl, rfl, ?_⟩ | refine ⟨_, _, rfl, ?_⟩ | refine ⟨_, rfl, ?_⟩ | refine ⟨_, rfl, rfl, ?_⟩ | refine ⟨rfl, ?_⟩)
      refine ⟨_, _, _, _, _, rfl, hc.sub (by repeat (first | with_reducible exact Sub.refl | exact Sub.nil | (apply Sub.pen; (focus ((repeat (first | exact Pick.here | apply Pick.there | assumption)); done)); (focus omega)) | (apply Sub.cons; (focus ((repeat (first | exact Pick.here | apply Pick.there | assumption)); done))) | apply Sub.drop)), (hc.sq (by (repeat (first | exact Pick.here | apply Pick.there | assumption)))), ⟨by show 0 < 13; decide, by show 13 ≤ _; decide, by omega⟩, fun H v hc hmem => ?_⟩
      have hvT : ∀ {rs t : List Res}, Pick (.obj T1 (.tup [.int (1 : Nat)])) rs t → ThR rs v := fun pk => by
        simp only [List.mem_cons, List.not_mem_nil, or_false] at hmem
        rcases hmem with e | e | e | e | e | e | e | e | e | e | e | e | e <;> subst e
        all_goals first | exact .int | exact .bl | exact .non | exact .str | exact .tup pk
      repeat (first | refine ⟨_, _, rfl, rfl, ?_⟩ | refine ⟨_, _, rfl, ?_⟩ | refine ⟨_, rfl, ?_⟩ | refine ⟨_, rfl, rfl, ?_⟩ | refine ⟨rfl, ?_⟩)
      refine ⟨_, _, _, _, rfl, hc.sub (by repeat (first | with_reducible exact Sub.refl | exact Sub.nil | (apply Sub.pen; (focus ((repeat (first | exact Pick.here | apply Pick.there | assumption)); done)); (focus omega)) | (apply Sub.cons; (focus ((repeat (first | exact Pick.here | apply Pick.there | assumption)); done))) | apply Sub.drop)), ⟨by omega, by omega, by omega⟩, fun H kind hc hkind => ?_⟩
      repeat (first | refine ⟨_, _, rfl, rfl, ?_⟩ | refine ⟨_, _, rfl, ?_⟩ | refine ⟨_, rfl, ?_⟩ | refine ⟨_, rfl, rfl, ?_⟩ | refine ⟨rfl, ?_⟩)
      refine ⟨S3, nV (hv b), rfl, (hc.sq (by (repeat (first | exact Pick.here | apply Pick.there | assumption)))), fun A1 H nA1 => ?_⟩
      replace hc := hc.new nA1
      rw [cut_take] at hc
      repeat (first | refine ⟨_, _, rfl, rfl, ?_⟩ | refine ⟨_, _, rfl, ?_⟩ | refine ⟨_, rfl, ?_⟩ | refine ⟨_, rfl, rfl, ?_⟩ | refine ⟨rfl, ?_⟩)
      (first | refine ⟨Nat.le_of_ble_eq_true rfl, fun O1 H nO1 => ?_⟩ | refine fun O1 H nO1 => ?_); replace hc := hc.new nO1
      repeat (first | refine ⟨_, _, rfl, rfl, ?_⟩ | refine ⟨_, _, rfl, ?_⟩ | refine ⟨_, rfl, ?_⟩ | refine ⟨_, rfl, rfl, ?_⟩ | refine ⟨rfl, ?_⟩)
      obtain ⟨k1', hk1⟩ : ∃ k, k = (if decide (kind < 2) = true then 1 else 0) := ⟨_, rfl⟩
      have hk1b : k1' ≤ 1 := by rw [hk1]; split <;> omega
      rw [← hk1]
      refine ⟨O1, k1', [v], rfl, rfl, (hc.at (by (repeat (first | exact Pick.here | apply Pick.there | assumption)))), by omega, by show 1 * k1' ≤ _; omega, fun A2 H nA2 => ?_⟩
      replace hc := hc.new nA2
      have hflen : (List.replicate k1' [v]).flatten.length ≤ 1 := by
        have : k1' = 0 ∨ k1' = 1 := by omega
        rcases this with z | z <;> rw [z]
        · exact Nat.zero_le _
        · exact Nat.le_refl _
      have hfm : ∀ x ∈ (List.replicate k1' [v]).flatten, x = v := fun x hx => by
        obtain ⟨y, hy, hxy⟩ := List.mem_flatten.mp hx
        rw [(List.mem_replicate.mp hy).2] at hxy
        exact List.mem_singleton.mp hxy
      generalize hfl : (List.replicate k1' [v]).flatten = mid at hc hflen hfm
      have hvl : (nV (hv b)).length ≤ 400 := by rw [nV_len]; omega
      refine ⟨A1, A2, _, _, rfl, rfl, (hc.at (by (repeat (first | exact Pick.here | apply Pick.there | assumption)))), (hc.at (by (repeat (first | exact Pick.here | apply Pick.there | assumption)))), by rw [List.length_take]; omega, fun A3 H nA3 => ?_⟩
      replace hc := hc.new nA3
      repeat (first | refine ⟨_, _, rfl, rfl, ?_⟩ | refine ⟨_, _, rfl, ?_⟩ | refine ⟨_, rfl, ?_⟩ | refine ⟨_, rfl, rfl, ?_⟩ | refine ⟨rfl, ?_⟩)
      refine ⟨S3, nV (hv b), rfl, (hc.sq (by (repeat (first | exact Pick.here | apply Pick.there | assumption)))), fun A4 H nA4 => ?_⟩
      replace hc := hc.new nA4
      rw [cut_drop] at hc
      refine ⟨A3, A4, _, _, rfl, rfl, (hc.at (by (repeat (first | exact Pick.here | apply Pick.there | assumption)))), (hc.at (by (repeat (first | exact Pick.here | apply Pick.there | assumption)))), by rw [List.length_append, List.length_take, List.length_drop]; omega, fun B H nB => ?_⟩
      replace hc := hc.new nB
      have hxs : ∀ {rs t : List Res}, Pick (.obj T1 (.tup [.int (1 : Nat)])) rs t → ∀ x ∈ (nV (hv b)).take at_ ++ mid ++ (nV (hv b)).drop (at_ + if decide (0 < kind) = true then 1 else 0), ThR rs x := fun pk x hx => by
        rcases List.mem_append.mp hx with z | z
        · rcases List.mem_append.mp z with z | z
          · exact thN x (List.mem_of_mem_take z)
          · rw [hfm x z]; exact hvT pk
        · exact thN x (List.mem_of_mem_drop z)
      have hxl : ((nV (hv b)).take at_ ++ mid ++ (nV (hv b)).drop (at_ + if decide (0 < kind) = true then 1 else 0)).length ≤ 900 := by
        rw [List.length_append, List.length_append, List.length_take, List.length_drop]; omega
      generalize (nV (hv b)).take at_ ++ mid ++ (nV (hv b)).drop (at_ + if decide (0 < kind) = true then 1 else 0) = xs at hc hxs hxl
      repeat (first | refine ⟨_, _, rfl, rfl, ?_⟩ | refine ⟨_, _, rfl, ?_⟩ | refine ⟨_, rfl, ?_⟩ | refine ⟨_, rfl, rfl, ?_⟩ | refine ⟨rfl, ?_⟩)
      refine ⟨RaP (fun _ σ rs' => ∃ G, (∃ v_turn v_book v_signs v_again v_at v_some v_one v_kind v_few v_k v_thing : Option V, σ = [some (.ref a), some (.ref p), v_turn, v_book, v_signs, some (.ref K0), v_again, v_at, v_some, v_one, v_kind, some (.ref B), some (.ref G), v_few, v_k, v_thing]) ∧
        rs' = [.obj G (.lst (nV (hread xs).toList)), .obj B (.lst xs), .obj T1 (.tup [.int (1 : Nat)]), .obj K0 (.lst (nV (hv b))), .pen p (c + 1000 + 10 * j + 5)]) 0, ?_, ?_⟩
      · repeat (first | refine ⟨_, _, rfl, rfl, ?_⟩ | refine ⟨_, _, rfl, ?_⟩ | refine ⟨_, rfl, ?_⟩ | refine ⟨_, rfl, rfl, ?_⟩ | refine ⟨rfl, ?_⟩)
        refine ⟨_, _, _, _, rfl, hc.sub (by repeat (first | with_reducible exact Sub.refl | exact Sub.nil | (apply Sub.pen; (focus ((repeat (first | exact Pick.here | apply Pick.there | assumption)); done)); (focus omega)) | (apply Sub.cons; (focus ((repeat (first | exact Pick.here | apply Pick.there | assumption)); done))) | apply Sub.drop)), (by exact (by (repeat (first | exact Pick.here | apply Pick.there | assumption))) : Pick (.obj B (.lst xs)) _ _), by omega, hxs (by (repeat (first | exact Pick.here | apply Pick.there | assumption))), fun H hc => ?_⟩
        repeat (first | refine ⟨_, _, rfl, rfl, ?_⟩ | refine ⟨_, _, rfl, ?_⟩ | refine ⟨_, rfl, ?_⟩ | refine ⟨_, rfl, rfl, ?_⟩ | refine ⟨rfl, ?_⟩)
        refine iteB (fun hall => ?_) (fun hall => ?_)
        · obtain ⟨l, rfl, hl3⟩ := signs_of hall
          rw [nV_len] at hxl
          repeat (first | refine ⟨_, _, rfl, rfl, ?_⟩ | refine ⟨_, _, rfl, ?_⟩ | refine ⟨_, rfl, ?_⟩ | refine ⟨_, rfl, rfl, ?_⟩ | refine ⟨rfl, ?_⟩)
          refine ⟨_, _, _, _, rfl, hc.sub (by repeat (first | with_reducible exact Sub.refl | exact Sub.nil | (apply Sub.pen; (focus ((repeat (first | exact Pick.here | apply Pick.there | assumption)); done)); (focus omega)) | (apply Sub.cons; (focus ((repeat (first | exact Pick.here | apply Pick.there | assumption)); done))) | apply Sub.drop)), (by exact (by (repeat (first | exact Pick.here | apply Pick.there | assumption))) : Pick (.obj B (.lst (nV l))) _ _), by omega, hl3, fun H G hc => ?_⟩
          refine .mk' (hc.sub (t := [.obj G (.lst (nV (rdV l))), .obj B (.lst (nV l)), .obj T1 (.tup [.int (1 : Nat)]), .obj K0 (.lst (nV (hv b))), .pen p (c + 1000 + 10 * j + 5)]) (by repeat (first | with_reducible exact Sub.refl | exact Sub.nil | (apply Sub.pen; (focus ((repeat (first | exact Pick.here | apply Pick.there | assumption)); done)); (focus omega)) | (apply Sub.cons; (focus ((repeat (first | exact Pick.here | apply Pick.there | assumption)); done))) | apply Sub.drop))) ⟨G, (by (repeat (apply Exists.intro)); exact rfl), rfl⟩
        · repeat (first | refine ⟨_, _, rfl, rfl, ?_⟩ | refine ⟨_, _, rfl, ?_⟩ | refine ⟨_, rfl, ?_⟩ | refine ⟨_, rfl, rfl, ?_⟩ | refine ⟨rfl, ?_⟩)
          (first | refine ⟨Nat.le_of_ble_eq_true rfl, fun G H nG => ?_⟩ | refine fun G H nG => ?_); replace hc := hc.new nG
          replace hc := hc.re (nV (hread xs).toList) (by unfold hread; rw [hread_bad _ hall]; rfl)
          exact .mk' (hc.sub (by repeat (first | with_reducible exact Sub.refl | exact Sub.nil | (apply Sub.pen; (focus ((repeat (first | exact Pick.here | apply Pick.there | assumption)); done)); (focus omega)) | (apply Sub.cons; (focus ((repeat (first | exact Pick.here | apply Pick.there | assumption)); done))) | apply Sub.drop))) ⟨G, (by (repeat (apply Exists.intro)); exact rfl), rfl⟩
      · rintro σ H ⟨⟨rs', ⟨G, ⟨v_turn, v_book, v_signs, v_again, v_at, v_some, v_one, v_kind, v_few, v_k, v_thing, rfl⟩, rfl⟩, hc⟩⟩
        repeat (first | refine ⟨_, _, rfl, rfl, ?_⟩ | refine ⟨_, _, rfl, ?_⟩ | refine ⟨_, rfl, ?_⟩ | refine ⟨_, rfl, rfl, ?_⟩ | refine ⟨rfl, ?_⟩)
        refine ⟨_, "list", _, rfl, hc.sub .refl, thL (xs := xs) (a := B) (by (repeat (first | exact Pick.here | apply Pick.there | assumption))), (fun h => by cases h), fun _ => ⟨_, 1000, .lst (a := B) (xs := xs) (by (repeat (first | exact Pick.here | apply Pick.there | assumption))), by omega, by decide, hxs (by (repeat (first | exact Pick.here | apply Pick.there | assumption))), fun H G3 hc => ?_⟩⟩
        obtain ⟨j1, j2, j3, j4⟩ := rdN (l := (hread xs).toList) (hread_nb (by omega)) hread_few
        refine ⟨.ref G3, _, rfl, dpN (hc.sq (by (repeat (first | exact Pick.here | apply Pick.there | assumption)))), j1, j2, j3, j4, ?_⟩
        repeat (first | refine ⟨_, _, rfl, rfl, ?_⟩ | refine ⟨_, _, rfl, ?_⟩ | refine ⟨_, rfl, ?_⟩ | refine ⟨_, rfl, rfl, ?_⟩ | refine ⟨rfl, ?_⟩)
        refine ⟨.ref G, _, rfl, dpN (hc.sq (by (repeat (first | exact Pick.here | apply Pick.there | assumption)))), j1, j2, j3, j4, ?_⟩
        repeat (first | refine ⟨_, _, rfl, rfl, ?_⟩ | refine ⟨_, _, rfl, ?_⟩ | refine ⟨_, rfl, ?_⟩ | refine ⟨_, rfl, rfl, ?_⟩ | refine ⟨rfl, ?_⟩)
        refine iteNT rfl ?_
        exact .mk' (hc.sub (by repeat (first | with_reducible exact Sub.refl | exact Sub.nil | (apply Sub.pen; (focus ((repeat (first | exact Pick.here | apply Pick.there | assumption)); done)); (focus omega)) | (apply Sub.cons; (focus ((repeat (first | exact Pick.here | apply Pick.there | assumption)); done))) | apply Sub.drop))) ⟨(by (repeat (apply Exists.intro)); exact rfl), rfl⟩
    · rintro σ rs' H ⟨⟨v_turn, v_book, v_signs, v_again, v_at, v_some, v_one, v_kind, v_bent, v_due, v_few, v_k, v_thing, rfl⟩, rfl⟩ hc
      repeat (first | refine ⟨_, _, rfl, rfl, ?_⟩ | refine ⟨_, _, rfl, ?_⟩ | refine ⟨_, rfl, ?_⟩ | refine ⟨_, rfl, rfl, ?_⟩ | refine ⟨rfl, ?_⟩)
      refine ⟨_, _, _, _, rfl, hc.sub (by repeat (first | with_reducible exact Sub.refl | exact Sub.nil | (apply Sub.pen; (focus ((repeat (first | exact Pick.here | apply Pick.there | assumption)); done)); (focus omega)) | (apply Sub.cons; (focus ((repeat (first | exact Pick.here | apply Pick.there | assumption)); done))) | apply Sub.drop)), ⟨by omega, by omega, by omega⟩, fun H many hc hmany => ?_⟩
      repeat (first | refine ⟨_, _, rfl, rfl, ?_⟩ | refine ⟨_, _, rfl, ?_⟩ | refine ⟨_, rfl, ?_⟩ | refine ⟨_, rfl, rfl, ?_⟩ | refine ⟨rfl, ?_⟩ | refine And.intro (by omega) ?_ | refine And.intro ⟨by omega, by omega⟩ ?_ | refine And.intro ⟨_, _, (by show NB _ _; (repeat (first | assumption | exact NB.byte (by omega) | exact NB.w32 (by omega) | apply NB.add | apply NB.mul))), (by show NB _ _; (repeat (first | assumption | exact NB.byte (by omega) | exact NB.w32 (by omega) | apply NB.add | apply NB.mul))), by omega⟩ ?_)
      intro F nF
      refine lcI (e := eN) (l := List.range many) wv_rg (fun k acc rs' => ∃ l : List Nat, acc = nV l ∧ l.length = k ∧ (∀ x ∈ l, x < 3) ∧ rs' = [.pen p (c + 2000 + k)])
        nF (hc.sub (by repeat (first | with_reducible exact Sub.refl | exact Sub.nil | (apply Sub.pen; (focus ((repeat (first | exact Pick.here | apply Pick.there | assumption)); done)); (focus omega)) | (apply Sub.cons; (focus ((repeat (first | exact Pick.here | apply Pick.there | assumption)); done))) | apply Sub.drop))) ⟨[], rfl, rfl, (fun x h => by cases h), rfl⟩ (fun _ _ _ _ _ _ => trivial) ?_ ?_
      · rintro k x acc rs' H ex ⟨l, rfl, hl, h3, rfl⟩ hc
        have hk := (rg_get ex).1
        refine ⟨rfl, ?_⟩
        repeat (first | refine ⟨_, _, rfl, rfl, ?_⟩ | refine ⟨_, _, rfl, ?_⟩ | refine ⟨_, rfl, ?_⟩ | refine ⟨_, rfl, rfl, ?_⟩ | refine ⟨rfl, ?_⟩)
        refine ⟨_, _, _, _, rfl, hc.sub (by repeat (first | with_reducible exact Sub.refl | exact Sub.nil | (apply Sub.pen; (focus ((repeat (first | exact Pick.here | apply Pick.there | assumption)); done)); (focus omega)) | (apply Sub.cons; (focus ((repeat (first | exact Pick.here | apply Pick.there | assumption)); done))) | apply Sub.drop)), ⟨by omega, by omega, by omega⟩, fun H y hc hy => ?_⟩
        refine LcP.app (hc.sub (t := .obj F (.lst (nV l)) :: [.pen p (c + 2000 + (k + 1))]) (by repeat (first | with_reducible exact Sub.refl | exact Sub.nil | (apply Sub.pen; (focus ((repeat (first | exact Pick.here | apply Pick.there | assumption)); done)); (focus omega)) | (apply Sub.cons; (focus ((repeat (first | exact Pick.here | apply Pick.there | assumption)); done))) | apply Sub.drop))) (by rw [nV_len]; omega) ⟨l ++ [y], by rw [nV_app]; rfl, by rw [List.length_append, hl]; rfl, fun z hz => ?_, rfl⟩
        rcases List.mem_append.mp hz with e | e
        · exact h3 z e
        · rw [List.mem_singleton] at e; rw [e]; exact hy
      rintro acc rs' H ⟨few, rfl, hl, h3, rfl⟩ hc
      rw [List.length_range] at hl hc
      repeat (first | refine ⟨_, _, rfl, rfl, ?_⟩ | refine ⟨_, _, rfl, ?_⟩ | refine ⟨_, rfl, ?_⟩ | refine ⟨_, rfl, rfl, ?_⟩ | refine ⟨rfl, ?_⟩)
      refine ⟨_, "list", _, rfl, hc.sub .refl, thL (xs := nV few) (a := F) (by (repeat (first | exact Pick.here | apply Pick.there | assumption))), (fun h => by cases h), fun _ => ⟨_, 1000, .lst (a := F) (xs := nV few) (by (repeat (first | exact Pick.here | apply Pick.there | assumption))), by rw [nV_len]; omega, by decide, thN, fun H G hc => ?_⟩⟩
      have hrd : (hread (nV few)).toList = rdV few := rfl
      rw [hrd] at hc
      obtain ⟨k1, k2, k3, k4⟩ := rdN (l := rdV few) (hread_nb (xs := nV few) (by rw [nV_len]; omega)) hread_few
      refine ⟨.ref G, _, rfl, dpN (hc.sq (by (repeat (first | exact Pick.here | apply Pick.there | assumption)))), k1, k2, k3, k4, ?_⟩
      repeat (first | refine ⟨_, _, rfl, rfl, ?_⟩ | refine ⟨_, _, rfl, ?_⟩ | refine ⟨_, rfl, ?_⟩ | refine ⟨_, rfl, rfl, ?_⟩ | refine ⟨rfl, ?_⟩)
      refine ⟨_, _, _, _, rfl, hc.sub (by repeat (first | with_reducible exact Sub.refl | exact Sub.nil | (apply Sub.pen; (focus ((repeat (first | exact Pick.here | apply Pick.there | assumption)); done)); (focus omega)) | (apply Sub.cons; (focus ((repeat (first | exact Pick.here | apply Pick.there | assumption)); done))) | apply Sub.drop)), (by exact (by (repeat (first | exact Pick.here | apply Pick.there | assumption))) : Pick (.obj F (.lst (nV few))) _ _), by omega, h3, fun H G2 hc => ?_⟩
      refine ⟨.ref G2, _, rfl, dpN (hc.sq (by (repeat (first | exact Pick.here | apply Pick.there | assumption)))), k1, k2, k3, k4, ?_⟩
      repeat (first | refine ⟨_, _, rfl, rfl, ?_⟩ | refine ⟨_, _, rfl, ?_⟩ | refine ⟨_, rfl, ?_⟩ | refine ⟨_, rfl, rfl, ?_⟩ | refine ⟨rfl, ?_⟩)
      refine iteNT rfl ?_
      repeat (first | refine ⟨_, _, rfl, rfl, ?_⟩ | refine ⟨_, _, rfl, ?_⟩ | refine ⟨_, rfl, ?_⟩ | refine ⟨_, rfl, rfl, ?_⟩ | refine ⟨rfl, ?_⟩)
      refine fun D1 nD1 => ?_
      replace hc := hc.new' (o := .dK []) nD1
      generalize upd H D1 (HO.dK []) = H at hc ⊢
      repeat (first | refine ⟨_, _, rfl, rfl, ?_⟩ | refine ⟨_, _, rfl, ?_⟩ | refine ⟨_, rfl, ?_⟩ | refine ⟨_, rfl, rfl, ?_⟩ | refine ⟨rfl, ?_⟩)
      refine fun D2 nD2 => ?_
      replace hc := hc.new' (o := .dK []) nD2
      generalize upd H D2 (HO.dK []) = H at hc ⊢
      repeat (first | refine ⟨_, _, rfl, rfl, ?_⟩ | refine ⟨_, _, rfl, ?_⟩ | refine ⟨_, rfl, ?_⟩ | refine ⟨_, rfl, rfl, ?_⟩ | refine ⟨rfl, ?_⟩)
      refine ⟨(hc.at (by (repeat (first | exact Pick.here | apply Pick.there | assumption)))), [(Sum.inl 2, .int 1)], rfl, by decide, ?_⟩
      replace hc := Sep.put (a := D2) (o' := .dK (mergeK [] [(Sum.inl 2, .int 1)])) hc (by (repeat (first | exact Pick.here | apply Pick.there | assumption))) rfl
      generalize upd H D2 (HO.dK (mergeK [] [(Sum.inl 2, .int 1)])) = H at hc ⊢
      repeat (first | refine ⟨_, _, rfl, rfl, ?_⟩ | refine ⟨_, _, rfl, ?_⟩ | refine ⟨_, rfl, ?_⟩ | refine ⟨_, rfl, rfl, ?_⟩ | refine ⟨rfl, ?_⟩)
      (first | refine ⟨Nat.le_of_ble_eq_true rfl, fun M1 H nM1 => ?_⟩ | refine fun M1 H nM1 => ?_); replace hc := hc.new nM1
      repeat (first | refine ⟨_, _, rfl, rfl, ?_⟩ | refine ⟨_, _, rfl, ?_⟩ | refine ⟨_, rfl, ?_⟩ | refine ⟨_, rfl, rfl, ?_⟩ | refine ⟨rfl, ?_⟩)
      (first | refine ⟨Nat.le_of_ble_eq_true rfl, fun M2 H nM2 => ?_⟩ | refine fun M2 H nM2 => ?_); replace hc := hc.new nM2
      repeat (first | refine ⟨_, _, rfl, rfl, ?_⟩ | refine ⟨_, _, rfl, ?_⟩ | refine ⟨_, rfl, ?_⟩ | refine ⟨_, rfl, rfl, ?_⟩ | refine ⟨rfl, ?_⟩)
      (first | refine ⟨Nat.le_of_ble_eq_true rfl, fun M3 H nM3 => ?_⟩ | refine fun M3 H nM3 => ?_); replace hc := hc.new nM3
      repeat (first | refine ⟨_, _, rfl, rfl, ?_⟩ | refine ⟨_, _, rfl, ?_⟩ | refine ⟨_, rfl, ?_⟩ | refine ⟨_, rfl, rfl, ?_⟩ | refine ⟨rfl, ?_⟩)
      (first | refine ⟨Nat.le_of_ble_eq_true rfl, fun M4 H nM4 => ?_⟩ | refine fun M4 H nM4 => ?_); replace hc := hc.new nM4
      repeat (first | refine ⟨_, _, rfl, rfl, ?_⟩ | refine ⟨_, _, rfl, ?_⟩ | refine ⟨_, rfl, ?_⟩ | refine ⟨_, rfl, rfl, ?_⟩ | refine ⟨rfl, ?_⟩)
      (first | refine ⟨Nat.le_of_ble_eq_true rfl, fun L5 H nL5 => ?_⟩ | refine fun L5 H nL5 => ?_); replace hc := hc.new nL5
      repeat (first | refine ⟨_, _, rfl, rfl, ?_⟩ | refine ⟨_, _, rfl, ?_⟩ | refine ⟨_, rfl, ?_⟩ | refine ⟨_, rfl, rfl, ?_⟩ | refine ⟨rfl, ?_⟩)
      refine ⟨_, _, _, _, _, rfl, hc.sub (by repeat (first | with_reducible exact Sub.refl | exact Sub.nil | (apply Sub.pen; (focus ((repeat (first | exact Pick.here | apply Pick.there | assumption)); done)); (focus omega)) | (apply Sub.cons; (focus ((repeat (first | exact Pick.here | apply Pick.there | assumption)); done))) | apply Sub.drop)), (hc.sq (by (repeat (first | exact Pick.here | apply Pick.there | assumption)))), ⟨by show 0 < 11; decide, by show 11 ≤ _; decide, by omega⟩, fun H v hc hmem => ?_⟩
      have key : ∃ rs n, Sep H rs ∧ Sub [.pen p (c + 9000)] rs ∧ thTy rs v n ∧ (isListV n = false ∨ ∃ xs, HSeq rs v xs ∧ xs.length ≤ 5 ∧ (∀ x ∈ xs, ThR rs x) ∧ hread xs = none) := by
        simp only [List.mem_cons, List.not_mem_nil, or_false] at hmem
        rcases hmem with e | e | e | e | e | e | e | e | e | e | e <;> subst e
        · exact ⟨_, "NoneType", hc, (by repeat (first | with_reducible exact Sub.refl | exact Sub.nil | (apply Sub.pen; (focus ((repeat (first | exact Pick.here | apply Pick.there | assumption)); done)); (focus omega)) | (apply Sub.cons; (focus ((repeat (first | exact Pick.here | apply Pick.there | assumption)); done))) | apply Sub.drop)), rfl, .inl (by decide)⟩
        · exact ⟨_, "int", hc, (by repeat (first | with_reducible exact Sub.refl | exact Sub.nil | (apply Sub.pen; (focus ((repeat (first | exact Pick.here | apply Pick.there | assumption)); done)); (focus omega)) | (apply Sub.cons; (focus ((repeat (first | exact Pick.here | apply Pick.there | assumption)); done))) | apply Sub.drop)), rfl, .inl (by decide)⟩
        · exact ⟨_, "int", hc, (by repeat (first | with_reducible exact Sub.refl | exact Sub.nil | (apply Sub.pen; (focus ((repeat (first | exact Pick.here | apply Pick.there | assumption)); done)); (focus omega)) | (apply Sub.cons; (focus ((repeat (first | exact Pick.here | apply Pick.there | assumption)); done))) | apply Sub.drop)), rfl, .inl (by decide)⟩
        · exact ⟨_, "bool", hc, (by repeat (first | with_reducible exact Sub.refl | exact Sub.nil | (apply Sub.pen; (focus ((repeat (first | exact Pick.here | apply Pick.there | assumption)); done)); (focus omega)) | (apply Sub.cons; (focus ((repeat (first | exact Pick.here | apply Pick.there | assumption)); done))) | apply Sub.drop)), rfl, .inl (by decide)⟩
        · exact ⟨_, "str", hc, (by repeat (first | with_reducible exact Sub.refl | exact Sub.nil | (apply Sub.pen; (focus ((repeat (first | exact Pick.here | apply Pick.there | assumption)); done)); (focus omega)) | (apply Sub.cons; (focus ((repeat (first | exact Pick.here | apply Pick.there | assumption)); done))) | apply Sub.drop)), rfl, .inl (by decide)⟩
        · exact ⟨_, "str", hc, (by repeat (first | with_reducible exact Sub.refl | exact Sub.nil | (apply Sub.pen; (focus ((repeat (first | exact Pick.here | apply Pick.there | assumption)); done)); (focus omega)) | (apply Sub.cons; (focus ((repeat (first | exact Pick.here | apply Pick.there | assumption)); done))) | apply Sub.drop)), rfl, .inl (by decide)⟩
        · exact ⟨_, "dict", hc, (by repeat (first | with_reducible exact Sub.refl | exact Sub.nil | (apply Sub.pen; (focus ((repeat (first | exact Pick.here | apply Pick.there | assumption)); done)); (focus omega)) | (apply Sub.cons; (focus ((repeat (first | exact Pick.here | apply Pick.there | assumption)); done))) | apply Sub.drop)), .inr (.inr ⟨rfl, _, _, (by exact (by (repeat (first | exact Pick.here | apply Pick.there | assumption))) : Pick (.obj D1 (.dK [])) _ _)⟩), .inl (by decide)⟩
        · exact ⟨_, "dict", hc, (by repeat (first | with_reducible exact Sub.refl | exact Sub.nil | (apply Sub.pen; (focus ((repeat (first | exact Pick.here | apply Pick.there | assumption)); done)); (focus omega)) | (apply Sub.cons; (focus ((repeat (first | exact Pick.here | apply Pick.there | assumption)); done))) | apply Sub.drop)), .inr (.inr ⟨rfl, _, _, (by exact (by (repeat (first | exact Pick.here | apply Pick.there | assumption))) : Pick (.obj D2 (.dK (mergeK [] [(Sum.inl 2, .int 1)]))) _ _)⟩), .inl (by decide)⟩
        · refine ⟨_, "list", hc, (by repeat (first | with_reducible exact Sub.refl | exact Sub.nil | (apply Sub.pen; (focus ((repeat (first | exact Pick.here | apply Pick.there | assumption)); done)); (focus omega)) | (apply Sub.cons; (focus ((repeat (first | exact Pick.here | apply Pick.there | assumption)); done))) | apply Sub.drop)), thL (a := M2) (xs := [.ref M1]) (by (repeat (first | exact Pick.here | apply Pick.there | assumption))), .inr ⟨[.ref M1], .lst (a := M2) (by (repeat (first | exact Pick.here | apply Pick.there | assumption))), by show 1 ≤ 5; decide, fun x hx => ?_, rfl⟩⟩
          rw [List.mem_singleton] at hx
          rw [hx]
          exact .lst (a := M1) (xs := [.int (2 : Nat)]) (by (repeat (first | exact Pick.here | apply Pick.there | assumption)))
        · refine ⟨_, "tuple", hc, (by repeat (first | with_reducible exact Sub.refl | exact Sub.nil | (apply Sub.pen; (focus ((repeat (first | exact Pick.here | apply Pick.there | assumption)); done)); (focus omega)) | (apply Sub.cons; (focus ((repeat (first | exact Pick.here | apply Pick.there | assumption)); done))) | apply Sub.drop)), thT (a := M4) (xs := [.int (2 : Nat), .ref M3]) (by (repeat (first | exact Pick.here | apply Pick.there | assumption))), .inr ⟨[.int (2 : Nat), .ref M3], .tup (a := M4) (by (repeat (first | exact Pick.here | apply Pick.there | assumption))), by show 2 ≤ 5; decide, fun x hx => ?_, hread_bad _ rfl⟩⟩
          rcases List.mem_cons.mp hx with e | hx
          · rw [e]; exact .int
          rw [List.mem_singleton] at hx
          rw [hx]
          exact .lst (a := M3) (xs := [.int (1 : Nat)]) (by (repeat (first | exact Pick.here | apply Pick.there | assumption)))
        · exact ⟨_, "str", hc, (by repeat (first | with_reducible exact Sub.refl | exact Sub.nil | (apply Sub.pen; (focus ((repeat (first | exact Pick.here | apply Pick.there | assumption)); done)); (focus omega)) | (apply Sub.cons; (focus ((repeat (first | exact Pick.here | apply Pick.there | assumption)); done))) | apply Sub.drop)), rfl, .inl (by decide)⟩
      obtain ⟨rs, n, hc, hsub, hth, hcase⟩ := key
      obtain ⟨k1, k2, k3, k4⟩ := rdN (l := []) (fun x hx => by cases hx) (Nat.zero_le _)
      repeat (first | refine ⟨_, _, rfl, rfl, ?_⟩ | refine ⟨_, _, rfl, ?_⟩ | refine ⟨_, rfl, ?_⟩ | refine ⟨_, rfl, rfl, ?_⟩ | refine ⟨rfl, ?_⟩)
      refine ⟨_, n, rs, rfl, hc, hth, fun hn H G4 hc => ?_, fun hn => ?_⟩
      · replace hc := hc.re (nV [])
        refine ⟨.ref G4, _, rfl, dpN (hc.sq (by (repeat (first | exact Pick.here | apply Pick.there | assumption)))), k1, k2, k3, k4, ?_⟩
        repeat (first | refine ⟨_, _, rfl, rfl, ?_⟩ | refine ⟨_, _, rfl, ?_⟩ | refine ⟨_, rfl, ?_⟩ | refine ⟨_, rfl, rfl, ?_⟩ | refine ⟨rfl, ?_⟩)
        refine iteNT rfl ?_
        exact .mk' (hc.sub (.drop hsub)) ⟨c + 9000, by omega, (by (repeat (apply Exists.intro)); exact rfl), rfl⟩
      · rcases hcase with z | ⟨xs, z1, z2, z3, z4⟩
        · rw [hn] at z; cases z
        refine ⟨xs, 1000, z1, by omega, by decide, z3, fun H G4 hc => ?_⟩
        rw [z4] at hc
        replace hc := hc.re (nV [])
        refine ⟨.ref G4, _, rfl, dpN (hc.sq (by (repeat (first | exact Pick.here | apply Pick.there | assumption)))), k1, k2, k3, k4, ?_⟩
        repeat (first | refine ⟨_, _, rfl, rfl, ?_⟩ | refine ⟨_, _, rfl, ?_⟩ | refine ⟨_, rfl, ?_⟩ | refine ⟨_, rfl, rfl, ?_⟩ | refine ⟨rfl, ?_⟩)
        refine iteNT rfl ?_
        exact .mk' (hc.sub (.drop hsub)) ⟨c + 9000, by omega, (by (repeat (apply Exists.intro)); exact rfl), rfl⟩
  · rintro σ rs' H ⟨c, hcn, ⟨v_turn, v_book, v_signs, v_kept, v_again, v_at, v_some, v_one, v_kind, v_bent, v_due, v_few, v_k, v_thing, rfl⟩, rfl⟩ hc
    repeat (first | refine ⟨_, _, rfl, rfl, ?_⟩ | refine ⟨_, _, rfl, ?_⟩ | refine ⟨_, rfl, ?_⟩ | refine ⟨_, rfl, rfl, ?_⟩ | refine ⟨rfl, ?_⟩ | refine And.intro (by omega) ?_ | refine And.intro ⟨by omega, by omega⟩ ?_ | refine And.intro ⟨_, _, (by show NB _ _; (repeat (first | assumption | exact NB.byte (by omega) | exact NB.w32 (by omega) | apply NB.add | apply NB.mul))), (by show NB _ _; (repeat (first | assumption | exact NB.byte (by omega) | exact NB.w32 (by omega) | apply NB.add | apply NB.mul))), by omega⟩ ?_)
    (first | refine ⟨Nat.le_of_ble_eq_true rfl, fun E0 H nE0 => ?_⟩ | refine fun E0 H nE0 => ?_); replace hc := hc.new nE0
    repeat (first | refine ⟨_, _, rfl, rfl, ?_⟩ | refine ⟨_, _, rfl, ?_⟩ | refine ⟨_, rfl, ?_⟩ | refine ⟨_, rfl, rfl, ?_⟩ | refine ⟨rfl, ?_⟩)
    refine ⟨_, "list", _, rfl, hc.sub .refl, thL (by (repeat (first | exact Pick.here | apply Pick.there | assumption))), (fun h => by cases h), fun _ => ⟨_, 1000, .lst (by (repeat (first | exact Pick.here | apply Pick.there | assumption))), by decide, by decide, (fun x h => by cases h), fun z hz H hc => ?_, fun hz => by cases hz⟩⟩
    have ez : z = 0 := (Option.some.inj hz).symm
    subst ez
    repeat (first | refine ⟨_, _, rfl, rfl, ?_⟩ | refine ⟨_, _, rfl, ?_⟩ | refine ⟨_, rfl, ?_⟩ | refine ⟨_, rfl, rfl, ?_⟩ | refine ⟨rfl, ?_⟩)
    refine ⟨_, _, _, rfl, hc.sub (by repeat (first | with_reducible exact Sub.refl | exact Sub.nil | (apply Sub.pen; (focus ((repeat (first | exact Pick.here | apply Pick.there | assumption)); done)); (focus omega)) | (apply Sub.cons; (focus ((repeat (first | exact Pick.here | apply Pick.there | assumption)); done))) | apply Sub.drop)), (show NB 1 0 from by show 0 < 2; decide), by decide, fun H Z0 hc => ?_⟩
    replace hc := hc.re (nV []) (by rw [hv_zero])
    repeat (first | refine ⟨_, _, rfl, rfl, ?_⟩ | refine ⟨_, _, rfl, ?_⟩ | refine ⟨_, rfl, ?_⟩ | refine ⟨_, rfl, rfl, ?_⟩ | refine ⟨rfl, ?_⟩)
    (first | refine ⟨Nat.le_of_ble_eq_true rfl, fun E1 H nE1 => ?_⟩ | refine fun E1 H nE1 => ?_); replace hc := hc.new nE1
    refine ⟨Z0, E1, [], [], rfl, rfl, (hc.sq (by (repeat (first | exact Pick.here | apply Pick.there | assumption)))), (hc.sq (by (repeat (first | exact Pick.here | apply Pick.there | assumption)))), ?_⟩
    repeat (first | refine ⟨_, _, rfl, rfl, ?_⟩ | refine ⟨_, _, rfl, ?_⟩ | refine ⟨_, rfl, ?_⟩ | refine ⟨_, rfl, rfl, ?_⟩ | refine ⟨rfl, ?_⟩)
    (first | refine ⟨Nat.le_of_ble_eq_true rfl, fun E2 H nE2 => ?_⟩ | refine fun E2 H nE2 => ?_); replace hc := hc.new nE2
    repeat (first | refine ⟨_, _, rfl, rfl, ?_⟩ | refine ⟨_, _, rfl, ?_⟩ | refine ⟨_, rfl, ?_⟩ | refine ⟨_, rfl, rfl, ?_⟩ | refine ⟨rfl, ?_⟩)
    refine ⟨_, "tuple", _, rfl, hc.sub .refl, thT (a := E2) (by (repeat (first | exact Pick.here | apply Pick.there | assumption))), (fun h => by cases h), fun _ => ⟨[.int (2 : Nat), .int (1 : Nat)], 1000, .tup (a := E2) (by (repeat (first | exact Pick.here | apply Pick.there | assumption))), by decide, by decide, thN (l := [2, 1]), fun z hz H hc => ?_, fun hz => ?_⟩⟩
    · have ez : z = 2 := by
        have : hread (nV [2, 1]) = some 2 := by decide +kernel
        exact (Option.some.inj (this.symm.trans hz)).symm
      subst ez
      repeat (first | refine ⟨_, _, rfl, rfl, ?_⟩ | refine ⟨_, _, rfl, ?_⟩ | refine ⟨_, rfl, ?_⟩ | refine ⟨_, rfl, rfl, ?_⟩ | refine ⟨rfl, ?_⟩)
      exact q H
    · have : hread (nV [2, 1]) = some 2 := by decide +kernel
      exact absurd (this.symm.trans hz) (by intro h; cases h)

/-! ### what the top has written, and the end -/
theorem all_mk {l : PySem.W.OpenLaw} {w : World} {K : PySem.W.Frag}
    {h : Heap} {mg : Str → Option Value} {fa : Addr} (X : K.In h)
    (G : h.Ns mainGlobals mg) (hfa : mg "law" = some (.ref fa))
    {C_BadSigns : Addr}
    {od0 an0 : Option Addr} {sl0 : Array (Option Value)} {oc0 kV0 dc0 pm0 cd0 ct0 : Value} {f0 : Addr}
    {od1 an1 : Option Addr} {sl1 : Array (Option Value)} {oc1 kV1 dc1 pm1 cd1 ct1 : Value} {f1 : Addr}
    {od2 an2 : Option Addr} {sl2 : Array (Option Value)} {oc2 kV2 dc2 pm2 cd2 ct2 : Value} {f2 : Addr}
    {od3 an3 : Option Addr} {sl3 : Array (Option Value)} {oc3 kV3 dc3 pm3 cd3 ct3 : Value} {f3 : Addr}
    {od4 an4 : Option Addr} {sl4 : Array (Option Value)} {oc4 kV4 dc4 pm4 cd4 ct4 : Value} {f4 : Addr}
    {od5 an5 : Option Addr} {sl5 : Array (Option Value)} {oc5 kV5 dc5 pm5 cd5 ct5 : Value} {f5 : Addr}
    {od6 an6 : Option Addr} {sl6 : Array (Option Value)} {oc6 kV6 dc6 pm6 cd6 ct6 : Value} {f6 : Addr}
    {od7 an7 : Option Addr} {sl7 : Array (Option Value)} {oc7 kV7 dc7 pm7 cd7 ct7 : Value} {f7 : Addr}
    {od8 an8 : Option Addr} {sl8 : Array (Option Value)} {oc8 kV8 dc8 pm8 cd8 ct8 : Value} {f8 : Addr}
    {od9 an9 : Option Addr} {sl9 : Array (Option Value)} {oc9 kV9 dc9 pm9 cd9 ct9 : Value} {f9 : Addr}
    {od10 an10 : Option Addr} {sl10 : Array (Option Value)} {oc10 kV10 dc10 pm10 cd10 ct10 : Value} {f10 : Addr}
    {od11 an11 : Option Addr} {sl11 : Array (Option Value)} {oc11 kV11 dc11 pm11 cd11 ct11 : Value} {f11 : Addr}
    {od12 an12 : Option Addr} {sl12 : Array (Option Value)} {oc12 kV12 dc12 pm12 cd12 ct12 : Value} {f12 : Addr}
    {od13 an13 : Option Addr} {sl13 : Array (Option Value)} {oc13 kV13 dc13 pm13 cd13 ct13 : Value} {f13 : Addr}
    {od14 an14 : Option Addr} {sl14 : Array (Option Value)} {oc14 kV14 dc14 pm14 cd14 ct14 : Value} {f14 : Addr}
    {od15 an15 : Option Addr} {sl15 : Array (Option Value)} {oc15 kV15 dc15 pm15 cd15 ct15 : Value} {f15 : Addr}
    (eg_BadSigns : PySem.W.nsIn K mainGlobals "BadSigns" =
      some (some (.ref C_BadSigns)))
    (eq_BadSigns : PySem.W.excIn K C_BadSigns [.type "ValueError", .type "Exception", .type "BaseException", .type "object"] "ValueError.__new__" = true)
    (ek_BadSigns : PySem.W.keepIn K (.ref C_BadSigns) = true)
    (es_BadSigns : PySem.W.subIn K (.ref C_BadSigns) (.type "BaseException") = some true)
    (et_BadSigns : PySem.W.typeIn K (.ref C_BadSigns) = some (.type "type"))
    (ee_BadSigns : PySem.W.subIn K (.ref C_BadSigns) (.ref C_BadSigns) = some true)
    (ea_BadSigns : PySem.W.findIn K (.ref C_BadSigns) "__getattribute__" = some (some (.builtin "BaseException.__getattribute__")))
    (eb_BadSigns : PySem.W.findIn K (.ref C_BadSigns) "__getattr__" = some none)
    (ed_BadSigns : PySem.W.hasDictIn K C_BadSigns = true)
    (ec_BadSigns : PySem.W.findIn K (.ref C_BadSigns) "__class__" = some (some (.builtin "object.__class__")))
    (en_BadSigns : PySem.W.specialIn K (.builtin "object.__class__") "__get__" = some (some (.builtin "getset_descriptor.__get__")))
    (eh_BadSigns : PySem.W.takesIn K (.builtin "object.__class__") = some true)
    (em_BadSigns : PySem.W.mroIn K C_BadSigns (.type "object") = some true)
    (ei_BadSigns : PySem.W.kitOne K (.ref C_BadSigns) (.type "ValueError") = some true)
    (a0 : PySem.W.nsIn K mainGlobals "_law_draw" =
      some (some (.ref f0)))
    (l0 : K.lookup f0 = some ⟨oc0, od0, .func (PySem.W.fnOf "_law_draw"
      "_law_draw" (defArgs s_draw) (defBody s_draw) (defScope s_draw) .none kV0
      dc0 pm0 an0 cd0 ct0), sl0⟩)
    (c0 : PySem.W.codeIn K cd0 "_law_draw" = true)
    (k0 : PySem.W.keepIn K (.ref f0) = true)
    (a1 : PySem.W.nsIn K mainGlobals "_law_draw" =
      some (some (.ref f1)))
    (l1 : K.lookup f1 = some ⟨oc1, od1, .func (PySem.W.fnOf "_law_draw"
      "_law_draw" (defArgs s_draw3) (defBody s_draw3) (defScope s_draw3) .none kV1
      dc1 pm1 an1 cd1 ct1), sl1⟩)
    (c1 : PySem.W.codeIn K cd1 "_law_draw" = true)
    (k1 : PySem.W.keepIn K (.ref f1) = true)
    (a2 : PySem.W.nsIn K mainGlobals "_law_pick" =
      some (some (.ref f2)))
    (l2 : K.lookup f2 = some ⟨oc2, od2, .func (PySem.W.fnOf "_law_pick"
      "_law_pick" (defArgs s_pick3) (defBody s_pick3) (defScope s_pick3) .none kV2
      dc2 pm2 an2 cd2 ct2), sl2⟩)
    (c2 : PySem.W.codeIn K cd2 "_law_pick" = true)
    (k2 : PySem.W.keepIn K (.ref f2) = true)
    (a3 : PySem.W.nsIn K mainGlobals "_law_pen" =
      some (some (.ref f3)))
    (l3 : K.lookup f3 = some ⟨oc3, od3, .func (PySem.W.fnOf "_law_pen"
      "_law_pen" (defArgs s_pen3) (defBody s_pen3) (defScope s_pen3) .none kV3
      dc3 pm3 an3 cd3 ct3), sl3⟩)
    (c3 : PySem.W.codeIn K cd3 "_law_pen" = true)
    (k3 : PySem.W.keepIn K (.ref f3) = true)
    (a4 : PySem.W.nsIn K mainGlobals "is_number" =
      some (some (.ref f4)))
    (l4 : K.lookup f4 = some ⟨oc4, od4, .func (PySem.W.fnOf "is_number"
      "is_number" (defArgs s_is_number) (defBody s_is_number) (defScope s_is_number) .none kV4
      dc4 pm4 an4 cd4 ct4), sl4⟩)
    (c4 : PySem.W.codeIn K cd4 "is_number" = true)
    (k4 : PySem.W.keepIn K (.ref f4) = true)
    (a5 : PySem.W.nsIn K mainGlobals "_law_is_number" =
      some (some (.ref f5)))
    (l5 : K.lookup f5 = some ⟨oc5, od5, .func (PySem.W.fnOf "_law_is_number"
      "_law_is_number" (defArgs s_law_is_number) (defBody s_law_is_number) (defScope s_law_is_number) .none kV5
      dc5 pm5 an5 cd5 ct5), sl5⟩)
    (c5 : PySem.W.codeIn K cd5 "_law_is_number" = true)
    (k5 : PySem.W.keepIn K (.ref f5) = true)
    (a6 : PySem.W.nsIn K mainGlobals "_law_great" =
      some (some (.ref f6)))
    (l6 : K.lookup f6 = some ⟨oc6, od6, .func (PySem.W.fnOf "_law_great"
      "_law_great" (defArgs s_great) (defBody s_great) (defScope s_great) .none kV6
      dc6 pm6 an6 cd6 ct6), sl6⟩)
    (c6 : PySem.W.codeIn K cd6 "_law_great" = true)
    (k6 : PySem.W.keepIn K (.ref f6) = true)
    (a7 : PySem.W.nsIn K mainGlobals "_law_far" =
      some (some (.ref f7)))
    (l7 : K.lookup f7 = some ⟨oc7, od7, .func (PySem.W.fnOf "_law_far"
      "_law_far" (defArgs s_far) (defBody s_far) (defScope s_far) .none kV7
      dc7 pm7 an7 cd7 ct7), sl7⟩)
    (c7 : PySem.W.codeIn K cd7 "_law_far" = true)
    (k7 : PySem.W.keepIn K (.ref f7) = true)
    (a8 : PySem.W.nsIn K mainGlobals "halves" =
      some (some (.ref f8)))
    (l8 : K.lookup f8 = some ⟨oc8, od8, .func (PySem.W.fnOf "halves"
      "halves" (defArgs s_halves) (defBody s_halves) (defScope s_halves) .none kV8
      dc8 pm8 an8 cd8 ct8), sl8⟩)
    (c8 : PySem.W.codeIn K cd8 "halves" = true)
    (k8 : PySem.W.keepIn K (.ref f8) = true)
    (a9 : PySem.W.nsIn K mainGlobals "is_list" =
      some (some (.ref f9)))
    (l9 : K.lookup f9 = some ⟨oc9, od9, .func (PySem.W.fnOf "is_list"
      "is_list" (defArgs s_is_list) (defBody s_is_list) (defScope s_is_list) .none kV9
      dc9 pm9 an9 cd9 ct9), sl9⟩)
    (c9 : PySem.W.codeIn K cd9 "is_list" = true)
    (k9 : PySem.W.keepIn K (.ref f9) = true)
    (a10 : PySem.W.nsIn K mainGlobals "is_sign" =
      some (some (.ref f10)))
    (l10 : K.lookup f10 = some ⟨oc10, od10, .func (PySem.W.fnOf "is_sign"
      "is_sign" (defArgs s_is_sign) (defBody s_is_sign) (defScope s_is_sign) .none kV10
      dc10 pm10 an10 cd10 ct10), sl10⟩)
    (c10 : PySem.W.codeIn K cd10 "is_sign" = true)
    (k10 : PySem.W.keepIn K (.ref f10) = true)
    (a11 : PySem.W.nsIn K mainGlobals "from_halves" =
      some (some (.ref f11)))
    (l11 : K.lookup f11 = some ⟨oc11, od11, .func (PySem.W.fnOf "from_halves"
      "from_halves" (defArgs s_from_halves) (defBody s_from_halves) (defScope s_from_halves) .none kV11
      dc11 pm11 an11 cd11 ct11), sl11⟩)
    (c11 : PySem.W.codeIn K cd11 "from_halves" = true)
    (k11 : PySem.W.keepIn K (.ref f11) = true)
    (a12 : PySem.W.nsIn K mainGlobals "_law_told" =
      some (some (.ref f12)))
    (l12 : K.lookup f12 = some ⟨oc12, od12, .func (PySem.W.fnOf "_law_told"
      "_law_told" (defArgs s_told) (defBody s_told) (defScope s_told) .none kV12
      dc12 pm12 an12 cd12 ct12), sl12⟩)
    (c12 : PySem.W.codeIn K cd12 "_law_told" = true)
    (k12 : PySem.W.keepIn K (.ref f12) = true)
    (a13 : PySem.W.nsIn K mainGlobals "_law_read" =
      some (some (.ref f13)))
    (l13 : K.lookup f13 = some ⟨oc13, od13, .func (PySem.W.fnOf "_law_read"
      "_law_read" (defArgs s_read) (defBody s_read) (defScope s_read) .none kV13
      dc13 pm13 an13 cd13 ct13), sl13⟩)
    (c13 : PySem.W.codeIn K cd13 "_law_read" = true)
    (k13 : PySem.W.keepIn K (.ref f13) = true)
    (a14 : PySem.W.nsIn K mainGlobals "_law_is_signs" =
      some (some (.ref f14)))
    (l14 : K.lookup f14 = some ⟨oc14, od14, .func (PySem.W.fnOf "_law_is_signs"
      "_law_is_signs" (defArgs s_is_signs) (defBody s_is_signs) (defScope s_is_signs) .none kV14
      dc14 pm14 an14 cd14 ct14), sl14⟩)
    (c14 : PySem.W.codeIn K cd14 "_law_is_signs" = true)
    (k14 : PySem.W.keepIn K (.ref f14) = true)
    (a15 : PySem.W.nsIn K mainGlobals "law" =
      some (some (.ref f15)))
    (l15 : K.lookup f15 = some ⟨oc15, od15, .func (PySem.W.fnOf "law"
      "law" (defArgs s_law) (defBody s_law) (defScope s_law) .none kV15
      dc15 pm15 an15 cd15 ct15), sl15⟩)
    (c15 : PySem.W.codeIn K cd15 "law" = true)
    (k15 : PySem.W.keepIn K (.ref f15) = true)
    (z_ValueError : PySem.W.nsIn K mainGlobals "ValueError" = some none)
    (z_abs : PySem.W.nsIn K mainGlobals "abs" = some none)
    (z_bool : PySem.W.nsIn K mainGlobals "bool" = some none)
    (z_int : PySem.W.nsIn K mainGlobals "int" = some none)
    (z_isinstance : PySem.W.nsIn K mainGlobals "isinstance" = some none)
    (z_len : PySem.W.nsIn K mainGlobals "len" = some none)
    (z_list : PySem.W.nsIn K mainGlobals "list" = some none)
    (z_min : PySem.W.nsIn K mainGlobals "min" = some none)
    (z_range : PySem.W.nsIn K mainGlobals "range" = some none)
    (z_repr : PySem.W.nsIn K mainGlobals "repr" = some none)
    (z_tuple : PySem.W.nsIn K mainGlobals "tuple" = some none) :
    ∃ fd : FuncData, (∀ (s : Shared) (v : Value),
      BindsTo s fd ⟨[v], []⟩ [("script", v)]) ∧
    ∀ base : Heap, K.In base → base.Ns mainGlobals mg →
      FnG l.prog w K mg base CX0 5 fa fd ["script"] (spLaw K) := by
  have e := hfa.symm.trans (PySem.W.mg_of X G a15)
  cases e
  have Z : Zs mg := ⟨PySem.W.mg_none_of X G z_ValueError,
    PySem.W.mg_none_of X G z_abs,
    PySem.W.mg_none_of X G z_bool,
    PySem.W.mg_none_of X G z_int,
    PySem.W.mg_none_of X G z_isinstance,
    PySem.W.mg_none_of X G z_len,
    PySem.W.mg_none_of X G z_list,
    PySem.W.mg_none_of X G z_min,
    PySem.W.mg_none_of X G z_range,
    PySem.W.mg_none_of X G z_repr,
    PySem.W.mg_none_of X G z_tuple⟩
  have e_BadSigns : ErrC K mg "BadSigns" C_BadSigns := ⟨PySem.W.mg_of X G eg_BadSigns, ⟨_, _, _, _, PySem.F.excBase_ValueError, eq_BadSigns⟩, ek_BadSigns, es_BadSigns, et_BadSigns, PySem.W.exm_ref es_BadSigns ed_BadSigns et_BadSigns ee_BadSigns, ⟨ea_BadSigns, eb_BadSigns, es_BadSigns, ed_BadSigns, ec_BadSigns, en_BadSigns, eh_BadSigns, em_BadSigns⟩, ei_BadSigns⟩
  have F0 := fun_mk (st := s_draw) l0 c0 k0
  have b0 := F0.binds (ps := ["pen", "many"])
    fun _ _ _ _ _ _ us hl =>
      match us, hl with | [_, _], _ => rfl
  have F1 := fun_mk (st := s_draw3) l1 c1 k1
  have b1 := F1.binds (ps := ["pen", "many"])
    fun _ _ _ _ _ _ us hl =>
      match us, hl with | [_, _], _ => rfl
  have F2 := fun_mk (st := s_pick3) l2 c2 k2
  have b2 := F2.binds (ps := ["pen", "some"])
    fun _ _ _ _ _ _ us hl =>
      match us, hl with | [_, _], _ => rfl
  have F3 := fun_mk (st := s_pen3) l3 c3 k3
  have b3 := F3.binds (ps := ["script"])
    fun _ _ _ _ _ _ us hl =>
      match us, hl with | [_], _ => rfl
  have F4 := fun_mk (st := s_is_number) l4 c4 k4
  have b4 := F4.binds (ps := ["thing"])
    fun _ _ _ _ _ _ us hl =>
      match us, hl with | [_], _ => rfl
  have F5 := fun_mk (st := s_law_is_number) l5 c5 k5
  have b5 := F5.binds (ps := ["thing"])
    fun _ _ _ _ _ _ us hl =>
      match us, hl with | [_], _ => rfl
  have F6 := fun_mk (st := s_great) l6 c6 k6
  have b6 := F6.binds (ps := ["pen", "figures"])
    fun _ _ _ _ _ _ us hl =>
      match us, hl with | [_, _], _ => rfl
  have F7 := fun_mk (st := s_far) l7 c7 k7
  have b7 := F7.binds (ps := ["pen"])
    fun _ _ _ _ _ _ us hl =>
      match us, hl with | [_], _ => rfl
  have F8 := fun_mk (st := s_halves) l8 c8 k8
  have b8 := F8.binds (ps := ["book"])
    fun _ _ _ _ _ _ us hl =>
      match us, hl with | [_], _ => rfl
  have F9 := fun_mk (st := s_is_list) l9 c9 k9
  have b9 := F9.binds (ps := ["thing"])
    fun _ _ _ _ _ _ us hl =>
      match us, hl with | [_], _ => rfl
  have F10 := fun_mk (st := s_is_sign) l10 c10 k10
  have b10 := F10.binds (ps := ["thing"])
    fun _ _ _ _ _ _ us hl =>
      match us, hl with | [_], _ => rfl
  have F11 := fun_mk (st := s_from_halves) l11 c11 k11
  have b11 := F11.binds (ps := ["signs"])
    fun _ _ _ _ _ _ us hl =>
      match us, hl with | [_], _ => rfl
  have F12 := fun_mk (st := s_told) l12 c12 k12
  have b12 := F12.binds (ps := ["thing"])
    fun _ _ _ _ _ _ us hl =>
      match us, hl with | [_], _ => rfl
  have F13 := fun_mk (st := s_read) l13 c13 k13
  have b13 := F13.binds (ps := ["signs"])
    fun _ _ _ _ _ _ us hl =>
      match us, hl with | [_], _ => rfl
  have F14 := fun_mk (st := s_is_signs) l14 c14 k14
  have b14 := F14.binds (ps := ["thing"])
    fun _ _ _ _ _ _ us hl =>
      match us, hl with | [_], _ => rfl
  have F15 := fun_mk (st := s_law) l15 c15 k15
  refine ⟨PySem.W.fnOf "law" "law" (defArgs s_law) (defBody s_law)
    (defScope s_law) .none kV15 dc15 pm15 an15 cd15 ct15,
    fun s v => .of_eq rfl, fun base _ _ => ?_⟩
  have D_draw : Dd l.prog w K mg base "_law_draw" 1 ["pen", "many"] spDraw :=
    ⟨_, _, PySem.W.mg_of X G a0, k0, b0, ok_draw F0 Z⟩
  have D_draw3 : Dd l.prog w K mg base "_law_draw" 1 ["pen", "many"] sp_draw3 :=
    ⟨_, _, PySem.W.mg_of X G a1, k1, b1, ok_draw3 F1 Z⟩
  have D_pick3 : Dd l.prog w K mg base "_law_pick" 2 ["pen", "some"] (sp_pick3 K) :=
    ⟨_, _, PySem.W.mg_of X G a2, k2, b2, ok_pick3 F2 Z D_draw⟩
  have D_pen3 : Dd l.prog w K mg base "_law_pen" 1 ["script"] (sp_pen3 K) :=
    ⟨_, _, PySem.W.mg_of X G a3, k3, b3, ok_pen3 F3 Z⟩
  have D_is_number : Dd l.prog w K mg base "is_number" 1 ["thing"] sp_is_number :=
    ⟨_, _, PySem.W.mg_of X G a4, k4, b4, ok_is_number F4 Z⟩
  have D_law_is_number : Dd l.prog w K mg base "_law_is_number" 1 ["thing"] sp_law_is_number :=
    ⟨_, _, PySem.W.mg_of X G a5, k5, b5, ok_law_is_number F5 Z⟩
  have D_great : Dd l.prog w K mg base "_law_great" 2 ["pen", "figures"] sp_great :=
    ⟨_, _, PySem.W.mg_of X G a6, k6, b6, ok_great F6 Z D_draw3⟩
  have D_far : Dd l.prog w K mg base "_law_far" 3 ["pen"] sp_far :=
    ⟨_, _, PySem.W.mg_of X G a7, k7, b7, ok_far F7 Z D_great D_draw3⟩
  have D_halves : Dd l.prog w K mg base "halves" 1 ["book"] sp_halves :=
    ⟨_, _, PySem.W.mg_of X G a8, k8, b8, ok_halves F8 Z⟩
  have D_is_list : Dd l.prog w K mg base "is_list" 1 ["thing"] sp_is_list :=
    ⟨_, _, PySem.W.mg_of X G a9, k9, b9, ok_is_list F9 Z⟩
  have D_is_sign : Dd l.prog w K mg base "is_sign" 2 ["thing"] sp_is_sign :=
    ⟨_, _, PySem.W.mg_of X G a10, k10, b10, ok_is_sign F10 Z D_is_number⟩
  have D_from_halves : DdX l.prog w K mg base "from_halves" 3 ["signs"] (sp_from_halves C_BadSigns) :=
    ⟨_, _, PySem.W.mg_of X G a11, k11, b11, ok_from_halves F11 Z e_BadSigns D_is_list D_is_sign⟩
  have D_told : Dd l.prog w K mg base "_law_told" 4 ["thing"] (sp_told C_BadSigns) :=
    ⟨_, _, PySem.W.mg_of X G a12, k12, b12, ok_told F12 Z e_BadSigns D_from_halves⟩
  have D_read : Dd l.prog w K mg base "_law_read" 1 ["signs"] sp_read :=
    ⟨_, _, PySem.W.mg_of X G a13, k13, b13, ok_read F13 Z⟩
  have D_is_signs : Dd l.prog w K mg base "_law_is_signs" 2 ["thing"] sp_is_signs :=
    ⟨_, _, PySem.W.mg_of X G a14, k14, b14, ok_is_signs F14 Z D_law_is_number⟩
  exact ok_law F15 Z D_pen3 D_far D_halves D_is_signs D_read D_told D_draw3 D_pick3 D_from_halves
end My
open PySem PySem.W PyProof.Rows
set_option maxRecDepth 100000 in
set_option maxHeartbeats 0 in
theorem PySem.Challenge.cw_firstbooks_k82_halves_and_lists_of_signs_holds : PySem.Challenge.rw_firstbooks_k82_halves_and_lists_of_signs.Holds := by
  w_on; o_law; k_head; (case hw => w_witness2)
  k_fill
  refine My.walkG (l := PySem.Challenge.rw_firstbooks_k82_halves_and_lists_of_signs) (n := 63) (k := 5)
    (x := "script") (CX := fun _ => L2.CX0) (sp := fun w => My.spLaw _)
    rfl (by decide) rfl ⟨rfl, by decide, by decide⟩
    (fun w h Y => PySem.W.kIn_of Y) ?F
    (fun w H a ns hl hb _ hS => ⟨a, ns, rfl, hS, hl,
      fun z hz => My.BB.of_bits (hb z hz), fun _ => rfl⟩)
    (fun _ _ _ _ _ h => h)
  case F =>
    intro w mg fa h KX G hmg
    refine' My.all_mk KX G hmg ?eg_BadSigns ?eq_BadSigns ?ek_BadSigns ?es_BadSigns ?et_BadSigns ?ee_BadSigns ?ea_BadSigns ?eb_BadSigns ?ed_BadSigns ?ec_BadSigns
      ?en_BadSigns ?eh_BadSigns ?em_BadSigns ?ei_BadSigns ?a0 ?l0 ?c0 ?k0 ?a1 ?l1
      ?c1 ?k1 ?a2 ?l2 ?c2 ?k2 ?a3 ?l3 ?c3 ?k3
      ?a4 ?l4 ?c4 ?k4 ?a5 ?l5 ?c5 ?k5 ?a6 ?l6
      ?c6 ?k6 ?a7 ?l7 ?c7 ?k7 ?a8 ?l8 ?c8 ?k8
      ?a9 ?l9 ?c9 ?k9 ?a10 ?l10 ?c10 ?k10 ?a11 ?l11
      ?c11 ?k11 ?a12 ?l12 ?c12 ?k12 ?a13 ?l13 ?c13 ?k13
      ?a14 ?l14 ?c14 ?k14 ?a15 ?l15 ?c15 ?k15 ?z_ValueError ?z_abs
      ?z_bool ?z_int ?z_isinstance ?z_len ?z_list ?z_min ?z_range ?z_repr ?z_tuple
    (case eg_BadSigns => first | k_is | rfl)
    (case eq_BadSigns => k_exc)
    (case ek_BadSigns => first | k_is | rfl)
    (case es_BadSigns => first | k_is | rfl)
    (case et_BadSigns => first | k_is | rfl)
    (case ee_BadSigns => first | k_is | rfl)
    (case ea_BadSigns => first | k_is | rfl)
    (case eb_BadSigns => first | k_is | rfl)
    (case ed_BadSigns => first | k_is | rfl)
    (case ec_BadSigns => first | k_is | rfl)
    (case en_BadSigns => first | k_is | rfl)
    (case eh_BadSigns => first | k_is | rfl)
    (case em_BadSigns => first | k_is | rfl)
    (case ei_BadSigns => first | k_is | rfl)
    (case a0 => k_is)
    (case l0 => k_is)
    (case c0 => k_is)
    (case k0 => k_is)
    (case a1 => k_is)
    (case l1 => k_is)
    (case c1 => k_is)
    (case k1 => k_is)
    (case a2 => k_is)
    (case l2 => k_is)
    (case c2 => k_is)
    (case k2 => k_is)
    (case a3 => k_is)
    (case l3 => k_is)
    (case c3 => k_is)
    (case k3 => k_is)
    (case a4 => k_is)
    (case l4 => k_is)
    (case c4 => k_is)
    (case k4 => k_is)
    (case a5 => k_is)
    (case l5 => k_is)
    (case c5 => k_is)
    (case k5 => k_is)
    (case a6 => k_is)
    (case l6 => k_is)
    (case c6 => k_is)
    (case k6 => k_is)
    (case a7 => k_is)
    (case l7 => k_is)
    (case c7 => k_is)
    (case k7 => k_is)
    (case a8 => k_is)
    (case l8 => k_is)
    (case c8 => k_is)
    (case k8 => k_is)
    (case a9 => k_is)
    (case l9 => k_is)
    (case c9 => k_is)
    (case k9 => k_is)
    (case a10 => k_is)
    (case l10 => k_is)
    (case c10 => k_is)
    (case k10 => k_is)
    (case a11 => k_is)
    (case l11 => k_is)
    (case c11 => k_is)
    (case k11 => k_is)
    (case a12 => k_is)
    (case l12 => k_is)
    (case c12 => k_is)
    (case k12 => k_is)
    (case a13 => k_is)
    (case l13 => k_is)
    (case c13 => k_is)
    (case k13 => k_is)
    (case a14 => k_is)
    (case l14 => k_is)
    (case c14 => k_is)
    (case k14 => k_is)
    (case a15 => k_is)
    (case l15 => k_is)
    (case c15 => k_is)
    (case k15 => k_is)
    (case z_ValueError => k_is)
    (case z_abs => k_is)
    (case z_bool => k_is)
    (case z_int => k_is)
    (case z_isinstance => k_is)
    (case z_len => k_is)
    (case z_list => k_is)
    (case z_min => k_is)
    (case z_range => k_is)
    (case z_repr => k_is)
    (case z_tuple => k_is)
