import PyProof.Rows.All
import Wide.All
import OpenK.AllK
import Wide.FinOn
import HandS.ForMost
import HandS.EndBits
import HandS.WideBits
import HandS.SortInts
import HandS.Conv
import HandS.Flow
import HandS.Walk
import HandS.Codes
import PyProof.ReprRoads
import PyProof.ReprLen
import KE.IntBitsLaws
import PySem.Challenge.RW_firstbooks_k25_marks_and_numbers
set_option Elab.async false
set_option linter.all false
set_option maxRecDepth 100000
set_option maxHeartbeats 4000000
namespace My
open PySem PySem.Spec PyProof.Rows L2
/-! ### a def that may ask for reprs: run where no repr is under way -/
structure FnG (P : Program) (w : World) (K : PySem.W.Frag)
    (mg : Str → Option Value) (base : Heap) (CX : CXT) (k : Nat)
    (f : Addr) (fd : FuncData) (ps : List Str) (sp : Sp) : Prop where
  len : ∀ vs H Q E, sp vs H Q E → vs.length = ps.length
  run : ∀ (A : Around) (outer : List Env) (s : Shared) (H : Hp)
    (args : Args) (us : List Value) (vs : List V) (Q : VK) (E : XK),
    A.guards = some [] → Room k A → Env0 P w K mg base A outer s H →
    BindsTo s fd args (ps.zip us) → Vals vs us → sp vs H Q E →
    codeAny (model P w) A (.call (.ref f) args)
      (CR CX outer P w H s Q E) s

section
variable {P : Program} {w : World} {K : PySem.W.Frag}
variable {mg : Str → Option Value} {base : Heap}
theorem FnG.of {CX : CXT} {k : Nat} {f : Addr} {fd : FuncData}
    {ps : List Str} {sp : Sp}
    (F : FnOk P w K mg base CX k f fd ps sp) :
    FnG P w K mg base CX k f fd ps sp :=
  ⟨F.len, fun A outer s H args us vs Q E _ hr =>
    F.run A outer s H args us vs Q E hr⟩

theorem fnG_of {x qual : Str} {st : Stmt} {f : Addr} {fd : FuncData}
    {N ps : List Str} {k : Nat} {sp : Sp}
    (F : Fun K x qual st f fd) (S : FnScope N ps (defScope st))
    (len : ∀ vs H Q E, sp vs H Q E → vs.length = ps.length)
    (body : ∀ (cdv : Value) (A : Around) (outer : List Env)
      (s : Shared) (H : Hp) (vs : List V) (Q : VK) (E : XK),
      (A.deeper (envOfC qual (defScope st)
        s.heap.objs.size f cdv)).guards = some [] →
      Room k (A.deeper (envOfC qual (defScope st)
        s.heap.objs.size f cdv)) → sp vs H Q E →
      ∃ t, PSs (cxOf CX0 P w K mg base N qual (defScope st)
          f cdv A outer s H E).nox (defBody st) t ∧
        t { nx := fun _ H' => Q .non H', rt := Q }
          (start N vs) H) :
    FnG P w K mg base CX0 (k + 1) f fd ps sp := by
  obtain ⟨oc, od, kV, doc, pm, an, cdv, ct, osl, rfl, lk, hcd⟩ := F.ex
  constructor
  · exact len
  intro A outer s H args us vs Q E gd hr en bd rv hs
  have hl := len _ _ _ _ hs
  have keep : ∀ b o, base.get? b = some o →
      s.heap.get? b = some o := fun b o e => (en.bs b o e).1
  have KX : K.In s.heap := en.mod.kin.keeps keep
  have lim : s.heap.NoLimit := en.mod.nolimit.keeps keep
  have kinds : ∀ y ∈ ps.zip us,
      (defScope st).names.lookup y.1 = some .local ∨
      ((defScope st).names.lookup y.1 = some .cell ∧
        ((cellsFrom (s.heap.objs.size + 1)
          (defScope st).names []).lookup y.1).isSome = true) := by
    rintro ⟨n, v⟩ hy
    have hp := S.par n (List.of_mem_zip hy).1
    rcases hp with q | q
    · exact Or.inl q
    · exact Or.inr ⟨q, PySem.W.cellsFrom_some _ _ _ (Or.inl q)⟩
  refine codeAny_call_function hr.depth (KX _ _ lk) rfl
    S.co S.gen rfl (PySem.W.codeRec_of KX hcd)
    (bd _ _ _ _ ?_)
  refine wpAny_newFunctionEnv_cells S.kind kinds ?_
  intro env he s1 x1
  subst he
  refine ⟨lim.keeps x1.toInCall.keep, codeAny_func ?_⟩
  obtain ⟨t, ht, hq⟩ :=
    body cdv A outer s H vs Q E gd (hr.deeper _) hs
  have I : Inv (cxOf CX0 P w K mg base N qual (defScope st)
      f cdv A outer s H E) [] (start N vs) H s1 :=
    inv_start S hr.hd en hl rv x1
  refine wpAny_mono (ht.nox.run [] s1 (start N vs) H _ I hq) ?_
    (fun e s' z => z)
  intro fl s' hf
  have fin : ∀ {σ' : L2.St} {H' : Hp} {v : V} {u : Value},
      Inv (cxOf CX0 P w K mg base N qual (defScope st)
        f cdv A outer s H E) [] σ' H' s' →
      RelV v u → Q v H' → CE outer P w H s Q u s' := by
    intro σ' H' v u J r1 q1
    exact ⟨v, H', J.os, J.bare, J.base, J.hok, r1, q1⟩
  cases fl with
  | next =>
    obtain ⟨σ', H', J, q⟩ := hf
    exact fin (v := V.non) (u := Value.none) J rfl q
  | ret u =>
    obtain ⟨v, σ', H', J, r1, q⟩ := hf
    exact fin J r1 q
  | cont =>
    obtain ⟨_, _, _, q⟩ := hf
    cases q
  | brk =>
    obtain ⟨_, _, _, q⟩ := hf
    cases q
end

section
variable {X : Cx} {CX : CXT} {k : Nat} {f : Addr} {fd : FuncData}
variable {ps : List Str} {sp : Sp} {E : XK}
theorem run_fnG {pins : List (Addr × Obj)} {σ : L2.St} {H : Hp}
    {s : Shared} {Q : VK} {us : List Value} {vs : List V}
    (F : FnG X.prog X.w X.K X.mg X.base CX k f fd ps sp)
    (gd : X.A.guards = some []) (hr : Room k X.A)
    (hb : Binds X.K fd ps []) (hx : Passes CX X E)
    (I : Inv X pins σ H s) (r : Vals vs us) (h : sp vs H Q E) :
    wpAny (model X.prog X.w) X.A (call (.ref f) us)
      (EP X pins σ Q) X.xe s := by
  have hl : (us ++ []).length = ps.length := by
    rw [List.append_nil, ← r.length]
    exact F.len _ _ _ _ h
  have hb' := hb s us I.kIn hl
  rw [List.append_nil] at hb'
  have run := F.run X.A X.stack s H ⟨us, []⟩ us vs Q E
    gd hr I.env0 hb' r h
  refine wpAny_call (codeAny_mono run ?_)
  intro r' s' hq
  cases r' with
  | error e => exact hx pins σ H s e s' I hq
  | ok fl =>
    cases fl with
    | next => cases hq
    | ret u => exact I.after hq
    | cont => cases hq
    | brk => cases hq
end

/-! ### the end: a law's call, where no repr is under way -/
section
variable {P : Program} {w : World} {K : PySem.W.Frag}
theorem call_endG {mg mb : Str → Option Value} {CX : CXT} {k : Nat}
    {fa a : Addr} {fd : FuncData} {x : Str} {sp : Sp} {s1 : Shared}
    {vs : List Value} {ns : List Int}
    (KX : K.In s1.heap) (hns : s1.heap.Ns mainGlobals mg)
    (hb : s1.heap.Ns builtinsNs mb)
    (hbb : ∀ y : Str, y ≠ "__name__" → mb y = bootBuiltins y)
    (lim : s1.heap.NoLimit) (hg : s1.gens = #[])
    (ha : s1.heap.get? a =
      some { cls := .type "list", data := .seq vs.toArray })
    (hi : IntsAre vs ns) (hl : ns.length ≤ sizeLine)
    (hr : Room k callerA)
    (F : ∀ base : Heap, K.In base → base.Ns mainGlobals mg →
      FnG P w K mg base CX k fa fd [x] sp)
    (bind : ∀ (s : Shared) (u : Value),
      BindsTo s fd ⟨[u], []⟩ [(x, u)])
    (hsp : ∀ H : Hp, Only H → SqL K H a (ns.map V.int) →
      sp [.ref a] H (fun v _ => v = .bl true) fun _ _ _ => False)
    (hCX : ∀ H e s', CX [] H s1 (fun _ _ _ => False) e s' → False) :
    codeAny (model P w) callerA (.call (.ref fa) ⟨[.ref a], []⟩)
      (fun r s' => r = .ok (.ret (.bool true)) ∧
        OldK s1.heap s'.heap ∧ s'.os = s1.os ∧ AllBare s'.gens) s1 := by
  have rv := vals_ints hi
  have lenV := hi.length
  have core : ∀ H : Hp, Only H → SqL K H a (ns.map V.int) →
      HOk P w H s1.heap → (∀ b, H b ≠ none → b = a) →
      (H a ≠ none → K.lookup a = none) →
      codeAny (model P w) callerA (.call (.ref fa) ⟨[.ref a], []⟩)
        (fun r s' => r = .ok (.ret (.bool true)) ∧
          OldK s1.heap s'.heap ∧ s'.os = s1.os ∧
          AllBare s'.gens) s1 := by
    intro H hO hS hok onlyA notK
    have isA : ∀ {b : Addr} {u : HO}, H b = some u → b = a :=
      fun {b u} q => onlyA b (by rw [q]; exact fun z => nomatch z)
    have nsIn : ∀ {b : Addr} {m : Str → Option Value},
        s1.heap.Ns b m → (hidT s1.heap H).Ns b m := by
      rintro b m ⟨o, es, ep, e, d, r⟩
      refine ⟨o, es, ep, hidT_get e ?_, d, r⟩
      cases q : H b with
      | none => rfl
      | some u =>
        have hba := isA q
        subst hba
        rw [ha] at e
        cases e
        cases d
    have kb : K.In (hidT s1.heap H) := by
      intro b o e
      refine hidT_get (KX b o e) ?_
      cases q : H b with
      | none => rfl
      | some u =>
        have hba := isA q
        subst hba
        have z := notK (by rw [q]; exact fun z => nomatch z)
        rw [z] at e
        cases e
    have hM : Mod K mg (hidT s1.heap H) := by
      refine ⟨kb, nsIn hns, ⟨mb, nsIn hb, hbb⟩, ?_⟩
      obtain ⟨mc, h1, h2⟩ := lim
      exact ⟨mc, nsIn h1, h2⟩
    have e0 : Env0 P w K mg (hidT s1.heap H) callerA [] s1 H := by
      refine ⟨rfl, hM, fun b o e => of_hidT e,
        Nat.le_of_eq (hidT_size _ _), trivial, ?_, hok, .of_eq hg⟩
      intro b hb
      cases hb
    have G := F _ kb (nsIn hns)
    have run := G.run callerA [] s1 H ⟨[.ref a], []⟩ [.ref a]
      [.ref a] _ _ rfl hr e0 (bind s1 (.ref a)) (.cons rfl .nil)
      (hsp H hO hS)
    refine codeAny_mono run ?_
    intro r s' h
    cases r with
    | error e => exact (hCX H e s' h).elim
    | ok fl =>
      cases fl with
      | next => cases h
      | brk => cases h
      | cont => cases h
      | ret u =>
        obtain ⟨v, H', os, bare, un, hok', r', q⟩ := h
        have ev : v = .bl true := q
        subst ev
        have eu : u = Value.bool true := r'
        subst eu
        refine ⟨rfl, OldK.of_keep ?_, os, bare⟩
        intro b o e
        cases q2 : H b with
        | none =>
          refine un.keep b o e q2 ?_ ?_
          · intro z; cases z
          · intro z; cases z
        | some u =>
          rcases hO b with z | ⟨ob, xs, z⟩
          · rw [q2] at z; cases z
          · have z2 := un.frzs b ob _ z
            obtain ⟨e1, _⟩ := hok b _ z
            obtain ⟨e2, _⟩ := hok' b _ z2
            rw [e] at e1
            cases e1
            exact e2
  have vlen : vs.toArray.size ≤ sizeLine := by
    rw [List.size_toArray, lenV]; exact hl
  cases hk : K.lookup a with
  | some o =>
    have e := KX a o hk
    rw [ha] at e
    cases e
    refine core (fun _ => none) (fun _ => Or.inl rfl) ?_ ?_ ?_ ?_
    · exact Or.inr ⟨_, vs.toArray, _, hk, rfl, rfl, rfl, vlen,
        by simpa using rv⟩
    · intro b u z; cases z
    · intro b z; exact absurd rfl z
    · intro z; exact absurd rfl z
  | none =>
    let ob : Obj := { cls := .type "list", data := .seq vs.toArray }
    let H : Hp := fun b =>
      if b = a then some (.frz ob (.lst (ns.map V.int))) else none
    have hA : H a = some (.frz ob (.lst (ns.map V.int))) := if_pos rfl
    have hN : ∀ b, b ≠ a → H b = none := fun b hb => if_neg hb
    refine core H ?_ (Or.inl (Or.inr ⟨ob, hA⟩)) ?_ ?_ fun _ => hk
    · intro b
      by_cases hb : b = a
      · subst hb; exact Or.inr ⟨_, _, hA⟩
      · exact Or.inl (hN b hb)
    · intro b u z
      by_cases hb : b = a
      · subst hb
        rw [hA] at z
        cases z
        exact ⟨ha, by rw [List.length_map]; exact hl, vs, _, rv, ha⟩
      · rw [hN b hb] at z
        cases z
    · intro b z
      by_cases hb : b = a
      · exact hb
      · exact absurd (hN b hb) z

theorem walkG {l : PySem.W.OpenLaw} {n k : Nat} {q : Program}
    {loose : List Str} {XP : (Str → Option Value) → Heap → Prop}
    {YP : World → Heap → Prop} {d : DefRec}
    {K : Params → PySem.W.Frag} {CX : World → CXT} {sp : World → Sp}
    {x : Str} (hn : l.most = some n) (hn2 : n ≤ sizeLine)
    (hdf : d.params.defaults = []) (hr : Room k callerA)
    (hY : ∀ (w : World) (h : Heap), YP w h → (K w.params).In h)
    (F : ∀ (w : World) (mg : Str → Option Value) (fa : Addr)
      (h : Heap), (K w.params).In h → h.Ns mainGlobals mg →
      mg d.name = some (.ref fa) → ∃ fd : FuncData,
      (∀ (s : Shared) (u : Value),
        BindsTo s fd ⟨[u], []⟩ [(x, u)]) ∧
      ∀ base : Heap, (K w.params).In base →
        base.Ns mainGlobals mg →
        FnG l.prog w (K w.params) mg base (CX w) k fa fd [x] (sp w))
    (hsp : ∀ (w : World) (H : Hp) (a : Addr) (ns : List Int),
      ns.length ≤ n →
      (∀ z ∈ ns, Builtin.Int.intBits z ≤ 1048576) → Only H →
      SqL (K w.params) H a (ns.map V.int) →
      sp w [.ref a] H (fun v _ => v = .bl true)
        fun _ _ _ => False)
    (hCX : ∀ (w : World) (H : Hp) (s : Shared) (e : Value)
      (s' : Shared), CX w [] H s (fun _ _ _ => False) e s' → False) :
    PySem.W.WalkO q loose XP YP l.row.toRowW d []
      (fun f vs => PySem.call f vs) := by
  refine Att.attach_callB hn hdf ?_
  intro w s0 s1 mg mb fa o pm cd doc a vs ns G Y _ _ _ hmg hobj hints
    hlen hbits hg
  have KX := hY w _ Y
  obtain ⟨fd, bind, hF⟩ := F w mg fa _ KX G.T.g hmg
  refine call_endG KX G.T.g G.T.b G.T.builtins G.T.nolimit hg hobj
    hints (Nat.le_trans hlen hn2) hr hF bind ?_ ?_
  · intro H hO hS
    exact hsp w H a ns hlen hbits hO hS
  · intro H e s'
    exact hCX w H s1 e s'
end

/-! ### repr of data -/
section
variable {X : Cx}
theorem call_reprD (gd : X.A.guards = some [])
    (hu : X.A.units + 64 < cLine) :
    CallR X (.builtin "repr") (fun xs H Q => ∃ v d, xs = [v] ∧
      Dp X.K H v d ∧ d.showable = true ∧ d.hasDict = false ∧
      d.depth ≤ 20 ∧ d.shown.length ≤ sizeLine ∧
      Q (.str d.shown) H) := by
  intro pins s σ H xs us Q I r h
  obtain ⟨v, d, rfl, hd, h1, h2, h3, h4, q⟩ := h
  obtain ⟨u, rfl, rx⟩ := vals1 r
  obtain ⟨as, rd⟩ := Dp.reads I d v u hd rx
  have ns := PyData.noDict_hsm (as := as) h2
  have fin : ∀ h' u tk, (∀ b o, s.heap.get? b = some o →
      h'.get? b = some o) →
      EP X pins σ Q (.str d.shown u)
        { s with heap := h', toks := tk } :=
    fun h' u tk kp => ⟨.str d.shown, H, I.kept kp, ⟨_, rfl⟩, q⟩
  have kp0 : ∀ b o, s.heap.get? b = some o →
      s.heap.get? b = some o := fun _ _ e => e
  cases hd with
  | non =>
    cases rx
    refine PySem.P.repr_of_none ?_
    have z := fin s.heap s.toks (s.toks + 1) kp0
    simpa only [PyData.shown] using z
  | bl b =>
    cases rx
    refine PySem.P.repr_of_bool ?_
    have z := fin s.heap s.toks (s.toks + 1) kp0
    simpa only [PyData.shown] using z
  | int i =>
    obtain ⟨t, rfl⟩ := rx
    refine PySem.P.repr_of_int
      (by simpa [PyData.showable] using h1) ?_
    have z := fin s.heap s.toks (s.toks + 1) kp0
    simpa only [PyData.shown] using z
  | str y =>
    obtain ⟨t, rfl⟩ := rx
    refine PySem.P.repr_of_str ?_
      (by simpa only [PyData.shown] using h4)
    have z := fin s.heap s.toks (s.toks + 1) kp0
    simpa only [PyData.shown] using z
  | lst hs ha =>
    cases rx
    exact repr_of_reads' rd h1 ns gd (by omega) kp0
      (fun h' u tk kp => fin h' u tk kp) h4
  | tup hs ha =>
    cases rx
    exact repr_of_reads' rd h1 ns gd (by omega) kp0
      (fun h' u tk kp => fin h' u tk kp) h4
end
end My

namespace My
open PySem PySem.Spec PyProof.Rows L2
/-! ### callable defs -/
structure Dd (P : Program) (w : World) (K : PySem.W.Frag)
    (mg : Str → Option Value) (base : Heap) (x : Str) (k : Nat)
    (ps : List Str) (sp : Sp) : Prop where
  ok : ∃ f fd, mg x = some (.ref f) ∧
    PySem.W.keepIn K (.ref f) = true ∧ Binds K fd ps [] ∧
    FnOk P w K mg base CX0 k f fd ps sp
section
variable {X : Cx} {x : Str} {k : Nat} {ps : List Str} {sp : Sp}
variable {p pos : Pos} {e : Expr} {es : List Expr} {t : TA}
theorem pe_d (D : Dd X.prog X.w X.K X.mg X.base x k ps sp)
    (hr : Room k X.A) (hg : Gl X x) (ha : PA X (e :: es) t)
    (hdb : (x == ("__debug__" : Str)) = false := by decide)
    (he : starEach (e :: es) X.env =
      (false, eval e X.env) :: starEach es X.env := by rfl)
    (hpl : (backTo pos (starEach es X.env)).any (·.1) = false := by
      rfl) :
    PE X (.Call (.Name x p) (e :: es) [] pos)
      (tCall sp [] E0 t) := by
  obtain ⟨f, fd, m, kp, b, G⟩ := D.ok
  exact pe_call G hr hg m kp b .nil pass0 ha hdb he hpl
end
/-- an int as a test -/
def tInt (ta : TE) : TT := fun σ H Q =>
  ta σ H fun x H' => ∃ i : Int, x = .int i ∧ Q (i != 0) H'
theorem pt_int {X : Cx} {a : Expr} {ta : TE} (ha : PE X a ta)
    (he : ∀ whole, isTrue a X.env whole =
      (do let v ← whole; standAt a.pos; holding [v] (truthy v))) :
    PT X a (tInt ta) := by
  refine ⟨fun pins s σ H Q I h => ?_⟩
  refine isTrue_plain (thn (ha.run pins s σ H _ I h) ?_) (he _)
  intro v s1 hh
  obtain ⟨x, H1, I1, r1, i, ex, q1⟩ := hh
  subst ex
  exact tru_ok pins s1 σ H1 (.int i) v Q I1 r1 ⟨(i != 0), rfl, q1⟩
/-! ### heaps -/
def Keep (p : Addr) (H H' : Hp) : Prop :=
  ∀ b o, H b = some o → b ≠ p → H' b = some o
theorem Keep.refl {p : Addr} {H : Hp} : Keep p H H := fun _ _ h _ => h
theorem Keep.trans {p : Addr} {H H1 H2 : Hp} (a : Keep p H H1)
    (b : Keep p H1 H2) : Keep p H H2 :=
  fun c o h n => b c o (a c o h n) n
theorem Same.keep {p : Addr} {H H' : Hp} (s : Same H H') :
    Keep p H H' := fun b o h _ => s b o h
theorem Keep.set {p : Addr} {H H' : Hp} {o : HO} (k : Keep p H H') :
    Keep p H (upd H' p o) := fun b u h n => by
  rw [upd_ne n]; exact k b u h n
theorem Keep.new {p q : Addr} {H H' : Hp} {o : HO} (k : Keep p H H')
    (hq : H' q = none) : Keep p H (upd H' q o) := fun b u h n => by
  have z := k b u h n
  rw [upd_ne (ne_of_none z hq)]; exact z
theorem Keep.seq {K : PySem.W.Frag} {p a : Addr} {H H' : Hp}
    {xs : List V} (k : Keep p H H') (n : a ≠ p)
    (h : SqL K H a xs) : SqL K H' a xs := by
  rcases h with (h | ⟨o, h⟩) | h
  · exact .inl (.inl (k _ _ h n))
  · exact .inl (.inr ⟨o, k _ _ h n⟩)
  · exact .inr h
theorem same_new {H H' : Hp} {q : Addr} {o : HO} (k : Same H H')
    (hq : H' q = none) : Same H (upd H' q o) := fun b u h => by
  have z := k b u h
  rw [upd_ne (ne_of_none z hq)]; exact z
theorem upd_of {H : Hp} {q b : Addr} {o u : HO} (hq : H q = none)
    (h : H b = some u) : upd H q o b = some u := by
  rw [upd_ne (ne_of_none h hq)]; exact h
theorem map_get {α β : Type} {l : List α} {f : α → β} {i : Nat} {x : β}
    (h : (l.map f)[i]? = some x) : ∃ s, l[i]? = some s ∧ x = f s := by
  rw [List.getElem?_map] at h
  obtain ⟨s, h1, h2⟩ := Option.map_eq_some_iff.mp h
  exact ⟨s, h1, h2.symm⟩
theorem idx_nat {j n : Nat} (h : j < n) :
    seqIndex? (j : Int) n = some j := by
  exact PySem.seqIndex_of (k := (j : Int)) (by omega) (by omega)
theorem eraseIdx_map {α β : Type} (f : α → β) : ∀ (l : List α) (j : Nat),
    (l.map f).eraseIdx j = (l.eraseIdx j).map f
  | [], _ => rfl
  | x :: r, 0 => rfl
  | x :: r, j + 1 => by
    show f x :: (r.map f).eraseIdx j = f x :: (r.eraseIdx j).map f
    rw [eraseIdx_map f r j]
/-! ### sizes of ints -/
def BB (k : Nat) (z : Int) : Prop := z.natAbs < 2 ^ k
theorem BB.mono {j k : Nat} {z : Int} (h : BB j z) (l : j ≤ k) :
    BB k z := Nat.lt_of_lt_of_le h (Nat.pow_le_pow_right (by decide) l)
theorem BB.zero {k : Nat} : BB k 0 := Nat.two_pow_pos _
theorem BB.le {k : Nat} {y z : Int} (h : BB k z)
    (l : y.natAbs ≤ z.natAbs) : BB k y := Nat.lt_of_le_of_lt l h
theorem BB.add {k : Nat} {y z : Int} (a : BB k y) (b : BB k z) :
    BB (k + 1) (y + z) := by
  have e : 2 ^ (k + 1) = 2 ^ k * 2 := Nat.pow_succ ..
  unfold BB at *
  rw [e]; omega
theorem BB.sub {k : Nat} {y z : Int} (a : BB k y) (b : BB k z) :
    BB (k + 1) (y - z) := by
  have e : 2 ^ (k + 1) = 2 ^ k * 2 := Nat.pow_succ ..
  unfold BB at *
  rw [e]; omega
theorem BB.mul {j k : Nat} {y z : Int} (a : BB j y) (b : BB k z) :
    BB (j + k) (y * z) := wide_lt a b
theorem BB.div {k : Nat} {y m : Int} (a : BB k y) (h : 0 < m) :
    BB k (y / m) := by
  refine a.le ?_
  obtain ⟨n, rfl⟩ := Int.eq_ofNat_of_zero_le (Int.le_of_lt h)
  rcases Int.natAbs_eq y with e | e
  · rw [e]
    have : ((y.natAbs : Int) / (n : Int)) = ((y.natAbs / n : Nat) : Int) := rfl
    rw [this, Int.natAbs_natCast, Int.natAbs_natCast]
    exact Nat.div_le_self _ _
  · have h1 : y / (n : Int) ≤ 0 := by
      rw [e]
      have := Int.ediv_le_ediv h (show -(y.natAbs : Int) ≤ 0 by omega)
      simpa using this
    have h2 : -(y.natAbs : Int) ≤ y / (n : Int) := by
      rw [Int.le_ediv_iff_mul_le h]
      have h3 : (y.natAbs : Int) * 1 ≤ (y.natAbs : Int) * (n : Int) :=
        Int.mul_le_mul_of_nonneg_left (by omega) (by omega)
      have h4 : -(y.natAbs : Int) * (n : Int) = -((y.natAbs : Int) * n) := Int.neg_mul ..
      omega
    omega
theorem BB.bits {k : Nat} {z : Int} (h : BB k z) :
    Builtin.Int.intBits z ≤ k := PyProof.Rows.intBits_le h
theorem BB.of_bits {k : Nat} {z : Int}
    (h : Builtin.Int.intBits z ≤ k) : BB k z :=
  PySem.intBits_le_iff.mp h
theorem BB.small {z : Int} (h : z.natAbs < 18446744073709551616) :
    BB 64 z := h
theorem mulX_ok {j k : Nat} {y z : Int} (a : BB j y) (b : BB k z)
    (h : j + k ≤ 134217728) : CMulX y z := mulx_ok a b h
theorem divW_ok {k : Nat} {i m : Int} (h : 0 < m) (b : BB k m)
    (h0 : 0 < k) (h9 : k ≤ 9000) : CDivW i m := wide_div h b h0 h9
/-! ### lists of ints as data -/
section
variable {K : PySem.W.Frag} {H : Hp}
theorem dp_ints : ∀ ns : List Int,
    DpAll K H (ns.map V.int) (ns.map PyData.int)
  | [] => .nil
  | n :: r => .cons (.int n) (dp_ints r)
theorem dpL {a : Addr} {ns : List Int} (h : SqL K H a (ns.map V.int)) :
    Dp K H (.ref a) (.list (ns.map PyData.int)) := .lst h (dp_ints ns)
theorem eqv_ints : ∀ (ns ms : List Int),
    PyData.eqvAll (ns.map .int) (ms.map .int) = decide (ns = ms)
  | [], [] => rfl
  | [], m :: ms => rfl
  | n :: ns, [] => rfl
  | n :: ns, m :: ms => by
    show (PyData.eqv (.int n) (.int m) && PyData.eqvAll (ns.map .int) (ms.map .int)) = _
    rw [eqv_ints ns ms]
    have e : PyData.eqv (.int n) (.int m) = (n == m) := by
      rw [PyData.eqv]
    rw [e]
    by_cases h1 : n = m
    · by_cases h2 : ns = ms
      · simp [h1, h2]
      · simp [h1, h2]
    · have : (n == m) = false := by simpa using h1
      simp [h1]
theorem eqvL (ns ms : List Int) :
    PyData.eqv (.list (ns.map .int)) (.list (ms.map .int)) =
      decide (ns = ms) := by
  rw [PyData.eqv]; exact eqv_ints ns ms
theorem canLay_ints : ∀ ns : List Int,
    PyData.canLayAll0 (ns.map .int) = true
  | [] => rfl
  | n :: r => by
    rw [List.map_cons, PyData.canLayAll0, canLay_ints r]
    simp [PyData.canLay0]
theorem depth_ints : ∀ ns : List Int,
    PyData.depthAll (ns.map .int) = 0
  | [] => rfl
  | n :: r => by
    rw [List.map_cons, PyData.depthAll, depth_ints r]
    simp [PyData.depth]
theorem shapedL (ns : List Int) :
    SeqAt.shaped (.list (ns.map .int)) = true := by
  unfold SeqAt.shaped
  rw [Bool.and_eq_true]
  constructor
  · rw [PyData.canLay0]; exact canLay_ints ns
  · rw [PyData.depth, depth_ints]; rfl
end
/-! ### what a repr may be asked of -/
structure SL (D L : Nat) (d : PyData) : Prop where
  sh : d.showable = true
  nd : d.hasDict = false
  dp : d.depth ≤ D
  ln : d.shown.length ≤ L
theorem sl_none : SL 0 4 .none := ⟨rfl, rfl, by decide, by decide⟩
theorem sl_bool (b : Bool) : SL 0 5 (.bool b) :=
  ⟨rfl, rfl, by cases b <;> decide, by cases b <;> decide⟩
theorem sl_int {i : Int} (h : BB 1900 i) : SL 0 1910 (.int i) := by
  have e : i.natAbs.log2 < 1920 := by
    by_cases z : i.natAbs = 0
    · rw [z]; decide
    · have := (Nat.log2_lt z).mpr h
      omega
  refine ⟨?_, rfl, Nat.le_refl _, ?_⟩
  · rw [PyData.showable]; exact decide_eq_true e
  · have hn : (toString i.natAbs).length ≤ 1900 :=
      nat_repr_length_le (by decide) h
    rw [PyData.shown]
    have e2 : (Str.ofString (toString i)).length =
      (toString i).length := PySem.ofString_length _
    rw [e2]
    cases i with
    | ofNat n =>
      show (toString n).length ≤ 1910
      exact Nat.le_trans hn (by decide)
    | negSucc n =>
      show ("-" ++ toString (n + 1)).length ≤ 1910
      rw [String.length_append]
      have : (toString (n + 1)).length ≤ 1900 := hn
      have e3 : ("-" : String).length = 1 := rfl
      omega
theorem sl_all {D L : Nat} : ∀ {xs : List PyData},
    (∀ x ∈ xs, SL D L x) → PyData.showableAll xs = true ∧
      PyData.hasDictAll xs = false ∧ PyData.depthAll xs ≤ D ∧
      ((PyData.shownAll xs).map (·.length)).sum ≤ xs.length * L ∧
      (PyData.shownAll xs).length = xs.length
  | [], _ => ⟨rfl, rfl, Nat.zero_le _, Nat.zero_le _, rfl⟩
  | x :: r, h => by
    have hx := h x (List.mem_cons_self ..)
    obtain ⟨h1, h2, h3, h4, h5⟩ :=
      sl_all fun y hy => h y (List.mem_cons_of_mem _ hy)
    refine ⟨?_, ?_, ?_, ?_, ?_⟩
    · rw [PyData.showableAll, hx.sh, h1]; rfl
    · rw [PyData.hasDictAll, hx.nd, h2]; rfl
    · rw [PyData.depthAll]; exact Nat.max_le.mpr ⟨hx.dp, h3⟩
    · rw [PyData.shownAll, List.map_cons, List.sum_cons,
        List.length_cons, Nat.succ_mul]
      have := hx.ln
      omega
    · rw [PyData.shownAll, List.length_cons, List.length_cons, h5]
theorem sld_list {D L N : Nat} {xs : List PyData}
    (h : ∀ x ∈ xs, SL D L x) (hn : xs.length ≤ N) :
    SL (D + 1) (N * (L + 2) + 3) (.list xs) := by
  obtain ⟨h1, h2, h3, h4, h5⟩ := sl_all h
  refine ⟨by rw [PyData.showable]; exact h1,
    by rw [PyData.hasDict]; exact h2,
    by rw [PyData.depth]; omega, ?_⟩
  rw [PyData.shown]
  have h6 := listText_len_le (PyData.shownAll xs)
  have h7 : xs.length * (L + 2) ≤ N * (L + 2) :=
    Nat.mul_le_mul_right _ hn
  have h8 : xs.length * (L + 2) = xs.length * L + xs.length * 2 :=
    Nat.mul_add ..
  omega
theorem sld_tuple {D L N : Nat} {xs : List PyData}
    (h : ∀ x ∈ xs, SL D L x) (hn : xs.length ≤ N) :
    SL (D + 1) (N * (L + 2) + 3) (.tuple xs) := by
  obtain ⟨h1, h2, h3, h4, h5⟩ := sl_all h
  refine ⟨by rw [PyData.showable]; exact h1,
    by rw [PyData.hasDict]; exact h2,
    by rw [PyData.depth]; omega, ?_⟩
  rw [PyData.shown]
  have h6 := tupleText_len_le (PyData.shownAll xs)
  have h7 : xs.length * (L + 2) ≤ N * (L + 2) :=
    Nat.mul_le_mul_right _ hn
  have h8 : xs.length * (L + 2) = xs.length * L + xs.length * 2 :=
    Nat.mul_add ..
  omega
theorem SL.mono {D E L M : Nat} {d : PyData} (h : SL D L d)
    (a : D ≤ E) (b : L ≤ M) : SL E M d :=
  ⟨h.sh, h.nd, Nat.le_trans h.dp a, Nat.le_trans h.ln b⟩
theorem sl_ints {ns : List Int} {N : Nat} (h : ∀ n ∈ ns, BB 1900 n)
    (hn : ns.length ≤ N) :
    SL 1 (N * 1912 + 3) (.list (ns.map .int)) := by
  refine sld_list (L := 1910) ?_ (by rw [List.length_map]; exact hn)
  intro x hx
  obtain ⟨n, hm, rfl⟩ := List.mem_map.mp hx
  exact sl_int (h n hm)
theorem SL.ok {D L : Nat} {d : PyData} (h : SL D L d) (a : D ≤ 20)
    (b : L ≤ 16777216) : d.showable = true ∧ d.hasDict = false ∧
      d.depth ≤ 20 ∧ d.shown.length ≤ sizeLine :=
  ⟨h.sh, h.nd, Nat.le_trans h.dp a,
    by rw [sizeLine_eq]; exact Nat.le_trans h.ln b⟩
/-! ### the end of readings: tests whose answer is known -/
theorem it {c : Bool} {A B : Prop} (hc : c = true) (h : A) :
    if c = true then A else B := by rw [if_pos hc]; exact h
theorem if' {c : Bool} {A B : Prop} (hc : c = false) (h : B) :
    if c = true then A else B := by
  rw [hc, if_neg Bool.false_ne_true]; exact h
end My

namespace My
/-! ### marks of a number -/
def sumP : List Nat → Nat
  | [] => 0
  | s :: r => 2 ^ s + sumP r
def orP (l : List Nat) : Nat := l.foldl (fun a s => a ||| 2 ^ s) 0
theorem add_or (k b : Nat) (h : b.testBit k = false) : 2 ^ k + b = 2 ^ k ||| b := by
  have hb : b % 2 ^ (k + 1) < 2 ^ k := by
    have h1 : b % 2 ^ (k + 1) < 2 ^ (k + 1) := Nat.mod_lt _ (Nat.two_pow_pos _)
    rcases Nat.lt_or_ge (b % 2 ^ (k + 1)) (2 ^ k) with h2 | h2
    · exact h2
    · exfalso
      have e : (b % 2 ^ (k + 1)).testBit k = true := by
        apply Nat.testBit_of_two_pow_le_and_two_pow_add_one_gt
        · exact h2
        · exact h1
      rw [Nat.testBit_mod_two_pow] at e
      simp [h] at e
  have eb : b = 2 ^ (k + 1) * (b / 2 ^ (k + 1)) + b % 2 ^ (k + 1) := (Nat.div_add_mod _ _).symm
  have h2 : 2 ^ k + b % 2 ^ (k + 1) < 2 ^ (k + 1) := by
    have e2 : 2 ^ (k + 1) = 2 ^ k * 2 := Nat.pow_succ ..
    generalize b % 2 ^ (k + 1) = r at hb
    omega
  have h3 : 2 ^ k + b % 2 ^ (k + 1) = 2 ^ k ||| b % 2 ^ (k + 1) := by
    have := Nat.two_pow_add_eq_or_of_lt hb 1
    simpa using this
  calc 2 ^ k + b = 2 ^ (k + 1) * (b / 2 ^ (k + 1)) + (2 ^ k + b % 2 ^ (k + 1)) := by omega
    _ = 2 ^ (k + 1) * (b / 2 ^ (k + 1)) ||| (2 ^ k + b % 2 ^ (k + 1)) := Nat.two_pow_add_eq_or_of_lt h2 _
    _ = 2 ^ (k + 1) * (b / 2 ^ (k + 1)) ||| (2 ^ k ||| b % 2 ^ (k + 1)) := by rw [h3]
    _ = 2 ^ k ||| (2 ^ (k + 1) * (b / 2 ^ (k + 1)) ||| b % 2 ^ (k + 1)) := by
      rw [← Nat.or_assoc, Nat.or_comm (2 ^ (k + 1) * (b / 2 ^ (k + 1))) (2 ^ k), Nat.or_assoc]
    _ = 2 ^ k ||| b := by
      rw [← Nat.two_pow_add_eq_or_of_lt (Nat.mod_lt _ (Nat.two_pow_pos _)), ← eb]
theorem foldl_or (l : List Nat) : ∀ a, l.foldl (fun a s => a ||| 2 ^ s) a = a ||| orP l := by
  unfold orP
  induction l with
  | nil => intro a; simp
  | cons s r ih =>
    intro a
    rw [List.foldl_cons, List.foldl_cons, ih, ih (0 ||| 2 ^ s), Nat.zero_or, Nat.or_assoc]
theorem orP_cons (s : Nat) (r : List Nat) : orP (s :: r) = 2 ^ s ||| orP r := by
  show (s :: r).foldl (fun a s => a ||| 2 ^ s) 0 = _
  rw [List.foldl_cons, foldl_or, Nat.zero_or]
theorem testBit_orP (l : List Nat) (i : Nat) : (orP l).testBit i = decide (i ∈ l) := by
  induction l with
  | nil => simp [orP]
  | cons s r ih =>
    rw [orP_cons, Nat.testBit_or, ih, Nat.testBit_two_pow]
    by_cases h : s = i
    · subst h; simp
    · have h' : ¬ i = s := fun z => h z.symm
      simp [h, h']
theorem sumP_or : ∀ {l : List Nat}, l.Nodup → sumP l = orP l
  | [], _ => rfl
  | s :: r, h => by
    have h' := List.nodup_cons.mp h
    rw [orP_cons, sumP, sumP_or h'.2, add_or]
    rw [testBit_orP]
    simp [h'.1]
/-- marks: rising -/
def mk (n : Nat) (w : Nat) : List Nat := (List.range w).filter n.testBit
theorem mk_sorted (n w : Nat) : (mk n w).Pairwise (· < ·) := List.Pairwise.filter _ List.pairwise_lt_range
theorem mem_mk {n w i : Nat} : i ∈ mk n w ↔ i < w ∧ n.testBit i = true := by
  unfold mk; rw [List.mem_filter, List.mem_range]
theorem sorted_ext : ∀ {l m : List Nat}, l.Pairwise (· < ·) → m.Pairwise (· < ·) → (∀ i, i ∈ l ↔ i ∈ m) → l = m
  | [], [], _, _, _ => rfl
  | [], y :: m, _, _, h => by have := (h y).mpr (List.mem_cons_self ..); cases this
  | x :: l, [], _, _, h => by have := (h x).mp (List.mem_cons_self ..); cases this
  | x :: l, y :: m, hl, hm, h => by
    have hl' := List.pairwise_cons.mp hl
    have hm' := List.pairwise_cons.mp hm
    have e : x = y := by
      have h1 := (h x).mp (List.mem_cons_self ..)
      have h2 := (h y).mpr (List.mem_cons_self ..)
      rcases List.mem_cons.mp h1 with a | a
      · exact a
      · rcases List.mem_cons.mp h2 with b | b
        · exact b.symm
        · have c1 := hm'.1 x a
          have c2 := hl'.1 y b
          omega
    subst e
    rw [sorted_ext hl'.2 hm'.2 fun i => ?_]
    constructor
    · intro hi
      rcases List.mem_cons.mp ((h i).mp (List.mem_cons_of_mem _ hi)) with a | a
      · have c := hl'.1 i hi; omega
      · exact a
    · intro hi
      rcases List.mem_cons.mp ((h i).mpr (List.mem_cons_of_mem _ hi)) with a | a
      · have c := hm'.1 i hi; omega
      · exact a
theorem lt_orP {l : List Nat} {w : Nat} (h : ∀ s ∈ l, s < w) : orP l < 2 ^ w := by
  induction l with
  | nil => exact Nat.two_pow_pos _
  | cons s r ih =>
    rw [orP_cons]
    exact Nat.or_lt_two_pow (Nat.pow_lt_pow_right (by decide) (h s (List.mem_cons_self ..))) (ih fun t ht => h t (List.mem_cons_of_mem _ ht))
theorem mk_orP {l m : List Nat} {w : Nat} (hl : ∀ s ∈ l, s < w) (hm : m.Pairwise (· < ·)) (e : ∀ i, i ∈ m ↔ i ∈ l) : mk (orP l) w = m := by
  refine sorted_ext (mk_sorted _ _) hm fun i => ?_
  rw [mem_mk, testBit_orP, e i]
  constructor
  · intro h; exact of_decide_eq_true h.2
  · intro h; exact ⟨hl i h, decide_eq_true h⟩
end My
namespace My
theorem orP3 (far : Nat) (h : 2 < far) : orP [0, 2, far] = 2 ^ far + 5 := by
  rw [← sumP_or]
  · show 2 ^ 0 + (2 ^ 2 + (2 ^ far + 0)) = _
    omega
  · simp
    omega
theorem le_orP {l : List Nat} {s : Nat} (h : s ∈ l) : 2 ^ s ≤ orP l := by
  have e : (orP l).testBit s = true := by rw [testBit_orP]; exact decide_eq_true h
  exact Nat.ge_two_pow_of_testBit e
end My

namespace My
open PySem PySem.Spec PyProof.Rows L2
def topS (i : Nat) : Stmt :=
  PySem.Challenge.pw_firstbooks_k25_marks_and_numbers.main.body.getD i (.Pass ⟨0, 0, 0, 0⟩)
abbrev s_marks : Stmt := topS 1
abbrev N_marks : List Str := ["number", "place"]
theorem sc_marks : FnScope N_marks ["number"] (defScope s_marks) :=
  ⟨rfl, rfl, rfl, by decide +kernel, rfl, by decide +kernel, by decide +kernel⟩
abbrev s_number_of : Stmt := topS 2
abbrev N_number_of : List Str := ["places", "number", "place"]
theorem sc_number_of : FnScope N_number_of ["places"] (defScope s_number_of) :=
  ⟨rfl, rfl, rfl, by decide +kernel, rfl, by decide +kernel, by decide +kernel⟩
abbrev s_top : Stmt := topS 3
abbrev N_top : List Str := ["number"]
theorem sc_top : FnScope N_top ["number"] (defScope s_top) :=
  ⟨rfl, rfl, rfl, by decide +kernel, rfl, by decide +kernel, by decide +kernel⟩
abbrev s_pen : Stmt := topS 5
abbrev N_pen : List Str := ["script", "cell"]
theorem sc_pen : FnScope N_pen ["script"] (defScope s_pen) :=
  ⟨rfl, rfl, rfl, by decide +kernel, rfl, by decide +kernel, by decide +kernel⟩
abbrev s_draw : Stmt := topS 6
abbrev N_draw : List Str := ["pen", "many", "digit", "begun", "cell", "mixed"]
theorem sc_draw : FnScope N_draw ["pen", "many"] (defScope s_draw) :=
  ⟨rfl, rfl, rfl, by decide +kernel, rfl, by decide +kernel, by decide +kernel⟩
abbrev s_pick : Stmt := topS 7
abbrev N_pick : List Str := ["pen", "some"]
theorem sc_pick : FnScope N_pick ["pen", "some"] (defScope s_pick) :=
  ⟨rfl, rfl, rfl, by decide +kernel, rfl, by decide +kernel, by decide +kernel⟩
abbrev s_shuffled : Stmt := topS 8
abbrev N_shuffled : List Str := ["pen", "some", "left", "found"]
theorem sc_shuffled : FnScope N_shuffled ["pen", "some"] (defScope s_shuffled) :=
  ⟨rfl, rfl, rfl, by decide +kernel, rfl, by decide +kernel, by decide +kernel⟩
abbrev s_spots : Stmt := topS 9
abbrev N_spots : List Str := ["pen", "low", "found", "k", "spot"]
theorem sc_spots : FnScope N_spots ["pen"] (defScope s_spots) :=
  ⟨rfl, rfl, rfl, by decide +kernel, rfl, by decide +kernel, by decide +kernel⟩
abbrev s_law : Stmt := topS 10
abbrev N_law : List Str := ["script", "pen", "turn", "spots", "handed", "due", "number", "spot", "again", "told", "far"]
theorem sc_law : FnScope N_law ["script"] (defScope s_law) :=
  ⟨rfl, rfl, rfl, by decide +kernel, rfl, by decide +kernel, by decide +kernel⟩
structure Zs (mg : Str → Option Value) : Prop where
  abs : mg "abs" = none
  len : mg "len" = none
  list : mg "list" = none
  max : mg "max" = none
  min : mg "min" = none
  range : mg "range" = none
  repr : mg "repr" = none
  sorted : mg "sorted" = none
  sum : mg "sum" = none
  tuple : mg "tuple" = none
/-! ### marks, number_of, top -/
theorem shr_cast (n k : Nat) :
    (n : Int) / 2 ^ k = ((n / 2 ^ k : Nat) : Int) := by
  rw [Int.natCast_ediv, PySem.W.kbt_cast]
theorem odd_bit (n k : Nat) :
    (((n / 2 ^ k % 2 : Nat) : Int) != 0) = n.testBit k := by
  have h : n.testBit k = decide (n / 2 ^ k % 2 = 1) := by
    rw [Nat.testBit_eq_decide_div_mod_eq]
  rw [h]
  rcases Nat.mod_two_eq_zero_or_one (n / 2 ^ k) with e | e
  · rw [e]; rfl
  · rw [e]; rfl
def bl (n : Nat) : Nat := Builtin.Int.intBits (n : Int)
theorem bl_le {n k : Nat} (h : n < 2 ^ k) : bl n ≤ k :=
  PyProof.Rows.intBits_le (by show (n : Int).natAbs < 2 ^ k; exact h)
def spMarks : Sp := fun vs H Q _ => ∃ n : Nat, vs = [.int n] ∧
  bl n ≤ 100000 ∧ ∀ H' q, Same H H' → H q = none →
    H' q = some (.lst ((mk n (bl n)).map fun i => V.int (i : Nat))) →
    Q (.ref q) H'
section
variable {P : Program} {w : World} {K : PySem.W.Frag}
variable {mg : Str → Option Value} {base : Heap}
theorem ok_marks {f : Addr} {fd : FuncData}
    (F : Fun K "marks" "marks" s_marks f fd) (Z : Zs mg) :
    FnOk P w K mg base CX0 1 f fd ["number"] spMarks := by
  refine F.ok sc_marks (fun vs H Q E h => ?_)
    (fun cdv A outer s H vs Q E hr h => ?_)
  · obtain ⟨n, rfl, _⟩ := h
    rfl
  · obtain ⟨n, rfl, hn, q⟩ := h
    have hu := hu_of hr
    refine ⟨_, (pss_one /- return [place for place in range(number.bit_length()) if number >> place & 1] -/ (ps_ret (pe_lc (own := [("place", 1)]) (g := (gName 1)) (by rfl) sc_marks.nd (pi_range1 (by rfl) Z.range (pa_cons (pe_bits (pv 0)) pa_nil)) (blkOk_by (own := [("place", 1)]) (N := N_marks) (sc := defScope s_marks) (by decide +kernel)) (fun _ _ _ _ _ => pg_name (i := 1) sc_marks.nd rfl (Or.inl rfl)) (fun _ _ _ _ _ => pts_one (pt_int (pe_op op_odd (pe_op op_shrN (pv 0) (pv 1)) pe_int) (by intro _; rfl))) (fun _ _ _ _ _ => (pv 1))))), ?_⟩
    have hb : bl n ≤ 100000 := hn
    refine ⟨.int n, rfl, (n : Int), rfl, (bl n : Int), rfl,
      by omega, by omega, fun D hD => ?_⟩
    refine lc_range (lo := 0) (n := bl n)
      (fun i H' => Same H H' ∧ H' D = some (.lst
        (((List.range i).filter n.testBit).map
          fun i => V.int (i : Nat)))) ⟨same_new (Same.refl H) hD, upd_same⟩ ?_ ?_
    · intro i H' hi hP
      obtain ⟨sm, hd⟩ := hP
      refine ⟨rfl, .int n, rfl, .int (0 + (i : Int)), rfl, (n : Int), i,
        rfl, by rw [Int.zero_add], n / 2 ^ i, by rw [shr_cast], rfl,
        _, rfl, ?_⟩
      rw [odd_bit]
      have e : (List.range (i + 1)).filter n.testBit =
          (List.range i).filter n.testBit ++
            (if n.testBit i = true then [i] else []) := by
        rw [List.range_succ, List.filter_append]
        cases h : n.testBit i <;> simp [h]
      by_cases h : n.testBit i = true
      · rw [if_pos h] at e
        refine it h ?_
        refine ⟨.int (0 + (i : Int)), rfl, _, hd, ?_, ?_, ?_⟩
        · rw [List.length_map]
          have h1 : ((List.range i).filter n.testBit).length ≤ i := by
            have := List.length_filter_le n.testBit (List.range i)
            rw [List.length_range] at this
            exact this
          rw [sizeLine_eq]; omega
        · intro b o hb
          have n1 : b ≠ D := ne_of_none hb hD
          rw [upd_ne n1]; exact sm b o hb
        · rw [upd_same, e, List.map_append, Int.zero_add]; rfl
      · rw [if_neg h, List.append_nil] at e
        refine if' (by simpa using h) ?_
        exact ⟨sm, by rw [e]; exact hd⟩
    · intro H' hP
      exact q H' D hP.1 hD hP.2

def spNumberOf (K : PySem.W.Frag) : Sp := fun vs H Q _ =>
  ∃ (a : Addr) (l : List Nat), vs = [.ref a] ∧
    (SqL K H a (l.map fun i => V.int (i : Nat)) ∨
      SqT K H a (l.map fun i => V.int (i : Nat))) ∧
    (∀ i ∈ l, i ≤ 100000) ∧ Q (.int (orP l : Nat)) H
theorem or_cast (a b : Nat) :
    Builtin.bitOr (a : Int) (b : Int) = ((a ||| b : Nat) : Int) := by
  rw [bitOr_nn (Int.natCast_nonneg _) (Int.natCast_nonneg _)]
  rfl
theorem orP_take {l : List Nat} {i s : Nat} (h : l[i]? = some s) :
    orP (l.take (i + 1)) = orP (l.take i) ||| 2 ^ s := by
  rw [List.take_add_one, h]
  show orP (l.take i ++ [s]) = _
  unfold orP
  rw [List.foldl_append]
  rfl
theorem ok_number_of {f : Addr} {fd : FuncData}
    (F : Fun K "number_of" "number_of" s_number_of f fd) (Z : Zs mg) :
    FnOk P w K mg base CX0 1 f fd ["places"] (spNumberOf K) := by
  refine F.ok sc_number_of (fun vs H Q E h => ?_)
    (fun cdv A outer s H vs Q E hr h => ?_)
  · obtain ⟨a, l, rfl, _⟩ := h
    rfl
  · obtain ⟨a, l, rfl, hs, hl, q⟩ := h
    have hu := hu_of hr
    rcases hs with hs | hs
    · refine ⟨_, (pss_cons /- number = 0 -/ (ps_set (i := 1) sc_number_of.nd rfl (Or.inl rfl) pe_int)
(pss_cons /- for place in places: -/ (ps_for PassesOwn.never rfl (pi_list (pv 0)) (pg_name (i := 2) sc_number_of.nd rfl (Or.inl rfl))
(pss_one /- number = number | 1 << place -/ (ps_set (i := 1) sc_number_of.nd rfl (Or.inl rfl) (pe_op op_or (pv 1) (pe_op op_oneShl pe_int (pv 2))))))
(pss_one /- return number -/ (ps_ret (pv 1))))), ?_⟩
      refine ⟨.ref a, rfl, a, rfl, ⟨_, hs⟩, ?_⟩
      refine for_list (K := K) (a := a)
        (xs := l.map fun i => V.int (i : Nat))
        (fun i σ H' => H' = H ∧ ∃ v, σ = [some (.ref a),
          some (.int (orP (l.take i) : Nat)), v])
        ⟨rfl, none, rfl⟩ ?_ ?_ ?_
      · rintro i σ H' _ ⟨rfl, _⟩; exact hs
      · rintro i x σ H' hx ⟨rfl, v, rfl⟩
        obtain ⟨s, h1, rfl⟩ := map_get hx
        have hle := hl s (List.mem_of_getElem? h1)
        refine ⟨_, rfl, _, rfl, s, rfl, rfl, by omega,
          _, _, rfl, rfl, rfl, some (.int (s : Nat)), ?_⟩
        rw [orP_take h1, ← or_cast, PySem.W.kbt_cast]
        rfl
      · rintro σ H' ⟨rfl, v, rfl⟩
        rw [List.length_map, List.take_length]
        exact ⟨_, rfl, q⟩
    · refine ⟨_, (pss_cons /- number = 0 -/ (ps_set (i := 1) sc_number_of.nd rfl (Or.inl rfl) pe_int)
(pss_cons /- for place in places: -/ (ps_for PassesOwn.never rfl (pi_tup (pv 0)) (pg_name (i := 2) sc_number_of.nd rfl (Or.inl rfl))
(pss_one /- number = number | 1 << place -/ (ps_set (i := 1) sc_number_of.nd rfl (Or.inl rfl) (pe_op op_or (pv 1) (pe_op op_oneShl pe_int (pv 2))))))
(pss_one /- return number -/ (ps_ret (pv 1))))), ?_⟩
      refine ⟨.ref a, rfl, a, rfl, ⟨_, hs⟩, ?_⟩
      refine for_tup (K := K) (a := a)
        (xs := l.map fun i => V.int (i : Nat))
        (fun i σ H' => H' = H ∧ ∃ v, σ = [some (.ref a),
          some (.int (orP (l.take i) : Nat)), v])
        ⟨rfl, none, rfl⟩ ?_ ?_ ?_
      · rintro i σ H' _ ⟨rfl, _⟩; exact hs
      · rintro i x σ H' hx ⟨rfl, v, rfl⟩
        obtain ⟨s, h1, rfl⟩ := map_get hx
        have hle := hl s (List.mem_of_getElem? h1)
        refine ⟨_, rfl, _, rfl, s, rfl, rfl, by omega,
          _, _, rfl, rfl, rfl, some (.int (s : Nat)), ?_⟩
        rw [orP_take h1, ← or_cast, PySem.W.kbt_cast]
        rfl
      · rintro σ H' ⟨rfl, v, rfl⟩
        rw [List.length_map, List.take_length]
        exact ⟨_, rfl, q⟩
/-- top: a mark or None -/
def topV (n : Nat) : V := if n = 0 then .non else .int ((bl n : Int) - 1)
def spTop : Sp := fun vs H Q _ => ∃ n : Nat, vs = [.int n] ∧
  Q (topV n) H
theorem ok_top {f : Addr} {fd : FuncData}
    (F : Fun K "top" "top" s_top f fd) (Z : Zs mg) :
    FnOk P w K mg base CX0 1 f fd ["number"] spTop := by
  refine F.ok sc_top (fun vs H Q E h => ?_)
    (fun cdv A outer s H vs Q E hr h => ?_)
  · obtain ⟨n, rfl, _⟩ := h
    rfl
  · obtain ⟨n, rfl, q⟩ := h
    refine ⟨_, (pss_one /- return number.bit_length() - 1 if number else None -/ (ps_ret (pe_ifExp (pt_int (pv 0) (by intro _; rfl)) (pe_op op_sub (pe_bits (pv 0)) pe_int) pe_non))), ?_⟩
    refine ⟨_, rfl, n, rfl, ?_⟩
    unfold topV at q
    by_cases h : n = 0
    · subst h
      refine if' rfl ?_
      exact q
    · rw [if_neg h] at q
      refine it (by simpa using h) ?_
      exact ⟨_, rfl, n, rfl, _, _, rfl, rfl, q⟩
end

/-! ### the pen: cells, begun, left -/
theorem ne_cb : ¬ ((Sum.inr ("cells" : Str) : Key) = Sum.inr ("begun" : Str)) := by
  decide +kernel
theorem ne_cl : ¬ ((Sum.inr ("cells" : Str) : Key) = Sum.inr ("left" : Str)) := by
  decide +kernel
theorem ne_bl : ¬ ((Sum.inr ("begun" : Str) : Key) = Sum.inr ("left" : Str)) := by
  decide +kernel
theorem ne_bc : ¬ ((Sum.inr ("begun" : Str) : Key) = Sum.inr ("cells" : Str)) :=
  fun h => ne_cb h.symm
theorem ne_lb : ¬ ((Sum.inr ("left" : Str) : Key) = Sum.inr ("begun" : Str)) :=
  fun h => ne_bl h.symm
theorem ne_lc : ¬ ((Sum.inr ("left" : Str) : Key) = Sum.inr ("cells" : Str)) :=
  fun h => ne_cl h.symm
def penKvs (c : Addr) (b l : Int) : List (Key × V) :=
  [(Sum.inr "cells", .ref c), (Sum.inr "begun", .int b),
    (Sum.inr "left", .int l)]
theorem kvs_cells (c : Addr) (b l : Int) :
    valV (penKvs c b l) (Sum.inr "cells") = some (.ref c) :=
  valV_pos rfl
theorem kvs_begun (c : Addr) (b l : Int) :
    valV (penKvs c b l) (Sum.inr "begun") = some (.int b) :=
  (valV_neg ne_cb).trans (valV_pos rfl)
theorem kvs_left (c : Addr) (b l : Int) :
    valV (penKvs c b l) (Sum.inr "left") = some (.int l) :=
  (valV_neg ne_cl).trans ((valV_neg ne_bl).trans (valV_pos rfl))
theorem put_begun (c : Addr) (b l x : Int) :
    putK (penKvs c b l) (Sum.inr "begun") (.int x) = penKvs c x l := by
  unfold putK
  rw [if_pos (by rw [valV_any, kvs_begun]; rfl)]
  unfold penKvs
  simp only [List.map_cons, List.map_nil, if_neg ne_cb, if_neg ne_lb,
    if_pos]
theorem put_left (c : Addr) (b l x : Int) :
    putK (penKvs c b l) (Sum.inr "left") (.int x) = penKvs c b x := by
  unfold putK
  rw [if_pos (by rw [valV_any, kvs_left]; rfl)]
  unfold penKvs
  simp only [List.map_cons, List.map_nil, if_neg ne_cl, if_neg ne_bl,
    if_pos]
theorem merge_pen (c : Addr) (b l : Int) :
    mergeK [] (penKvs c b l) = penKvs c b l := by
  let kc : Key := Sum.inr "cells"
  let kb : Key := Sum.inr "begun"
  let kl : Key := Sum.inr "left"
  have e1 : putK ([] : List (Key × V)) kc (V.ref c) =
      [(kc, V.ref c)] := putK_new _ valV_nil
  have e2 : putK ([(kc, V.ref c)] : List (Key × V)) kb (V.int b) =
      [(kc, V.ref c), (kb, V.int b)] :=
    putK_new _ ((valV_neg ne_cb).trans valV_nil)
  have e3 : putK ([(kc, V.ref c), (kb, V.int b)] : List (Key × V))
      kl (V.int l) = [(kc, V.ref c), (kb, V.int b), (kl, V.int l)] :=
    putK_new _ ((valV_neg ne_cl).trans ((valV_neg ne_bl).trans valV_nil))
  show putK (putK (putK [] kc (V.ref c)) kb (V.int b)) kl (V.int l) = _
  rw [e1, e2, e3]
  rfl
section
variable {H : Hp} {p c : Addr} {b l : Int}
theorem get_cells (h : H p = some (.dK (penKvs c b l))) :
    DGet H p (.str "cells") (some (.ref c)) := by
  have z := DGet.k (k := Sum.inr "cells") h
  rw [kvs_cells] at z; exact z
theorem get_begun (h : H p = some (.dK (penKvs c b l))) :
    DGet H p (.str "begun") (some (.int b)) := by
  have z := DGet.k (k := Sum.inr "begun") h
  rw [kvs_begun] at z; exact z
theorem get_left (h : H p = some (.dK (penKvs c b l))) :
    DGet H p (.str "left") (some (.int l)) := by
  have z := DGet.k (k := Sum.inr "left") h
  rw [kvs_left] at z; exact z
theorem dput_begun (h : H p = some (.dK (penKvs c b l))) (x : Int) :
    DPut H p (.str "begun") (.int x)
      (upd H p (.dK (penKvs c x l))) := by
  have z := DPut.k (k := Sum.inr "begun") (v := .int x) h
    (by show 3 < sizeLine; decide)
  rw [put_begun] at z; exact z
theorem dput_left (h : H p = some (.dK (penKvs c b l))) (x : Int) :
    DPut H p (.str "left") (.int x)
      (upd H p (.dK (penKvs c b x))) := by
  have z := DPut.k (k := Sum.inr "left") (v := .int x) h
    (by show 3 < sizeLine; decide)
  rw [put_left] at z; exact z
end
/-- the pen p, its cells at c, at most n of them begun -/
structure Pen (H : Hp) (p c : Addr) (n : Nat) : Prop where
  ex : ∃ (cs : List Int) (b : Nat) (l : Int),
    H p = some (.dK (penKvs c b l)) ∧ H c = some (.lst (cs.map V.int)) ∧
    cs.length ≤ 63 ∧ (∀ z ∈ cs, BB 1048576 z) ∧ b ≤ n ∧ BB 1048576 l
theorem Pen.mono {H : Hp} {p c : Addr} {n m : Nat} (h : Pen H p c n)
    (l : n ≤ m) : Pen H p c m := by
  obtain ⟨cs, b, x, h1, h2, h3, h4, h5, h6⟩ := h.ex
  exact ⟨cs, b, x, h1, h2, h3, h4, by omega, h6⟩
theorem Pen.p {H : Hp} {p c : Addr} {n : Nat} (h : Pen H p c n) :
    ∃ k, H p = some (.dK k) := by
  obtain ⟨cs, b, x, h1, h2, h3, h4, h5, h6⟩ := h.ex
  exact ⟨_, h1⟩
theorem Pen.c {H : Hp} {p c : Addr} {n : Nat} (h : Pen H p c n) :
    ∃ k, H c = some (.lst k) := by
  obtain ⟨cs, b, x, h1, h2, h3, h4, h5, h6⟩ := h.ex
  exact ⟨_, h2⟩
theorem Pen.same {H H' : Hp} {p c : Addr} {n : Nat} (h : Pen H p c n)
    (s : Same H H') : Pen H' p c n := by
  obtain ⟨cs, b, x, h1, h2, h3, h4, h5, h6⟩ := h.ex
  exact ⟨cs, b, x, s _ _ h1, s _ _ h2, h3, h4, h5, h6⟩
theorem Pen.new {H : Hp} {p c q : Addr} {n : Nat} {o : HO}
    (h : Pen H p c n) (hq : H q = none) : Pen (upd H q o) p c n :=
  h.same (same_new (Same.refl H) hq)
theorem Pen.set {H : Hp} {p c q : Addr} {n : Nat} {o : HO}
    (h : Pen H p c n) (np : q ≠ p) (nc : q ≠ c) :
    Pen (upd H q o) p c n := by
  obtain ⟨cs, b, x, h1, h2, h3, h4, h5, h6⟩ := h.ex
  refine ⟨cs, b, x, ?_, ?_, h3, h4, h5, h6⟩
  · rw [upd_ne (Ne.symm np)]; exact h1
  · rw [upd_ne (Ne.symm nc)]; exact h2
theorem Pen.nep {H : Hp} {p c q : Addr} {n : Nat} (h : Pen H p c n)
    (hq : H q = none) : q ≠ p := by
  obtain ⟨k, e⟩ := h.p
  exact (ne_of_none e hq).symm
theorem Pen.nec {H : Hp} {p c q : Addr} {n : Nat} (h : Pen H p c n)
    (hq : H q = none) : q ≠ c := by
  obtain ⟨k, e⟩ := h.c
  exact (ne_of_none e hq).symm
/-- no list is the pen -/
theorem Pen.nel {H : Hp} {p c q : Addr} {n : Nat} {k : List V}
    (h : Pen H p c n) (hq : H q = some (.lst k)) : q ≠ p := by
  obtain ⟨z, e⟩ := h.p
  exact ne_of hq e (by intro y; cases y)
def spDraw : Sp := fun vs H Q _ => ∃ (p c : Addr) (n : Nat) (m : Int),
  vs = [.ref p, .int m] ∧ 0 < m ∧ BB 8000 m ∧ Pen H p c n ∧
  n < 1000000000000000000 ∧ ∀ H' d, Keep p H H' → Pen H' p c (n + 1) →
    0 ≤ d → d < m → Q (.int d) H'
theorem mix_eq (x a : Int) (y : Int) : x + a = y → x = y - a := by
  omega
theorem BB.abs {k : Nat} {z : Int} (h : BB k z) :
    BB k (if z < 0 then -z else z) := by
  refine h.le ?_
  split <;> omega
section
variable {P : Program} {w : World} {K : PySem.W.Frag}
variable {mg : Str → Option Value} {base : Heap}
theorem ok_draw {f : Addr} {fd : FuncData}
    (F : Fun K "_law_draw" "_law_draw" s_draw f fd) (Z : Zs mg) :
    FnOk P w K mg base CX0 1 f fd ["pen", "many"] spDraw := by
  refine F.ok sc_draw (fun vs H Q E h => ?_)
    (fun cdv A outer s H vs Q E hr h => ?_)
  · obtain ⟨p, c, n, m, rfl, _⟩ := h
    rfl
  · obtain ⟨p, c, n, m, rfl, hm, bm, P0, hn, q⟩ := h
    have hu := hu_of hr
    obtain ⟨cs, b, l, hp, hc, hlen, hbig, hb, hl⟩ := P0.ex
    have npc : c ≠ p := (ne_of hp hc (by intro z; cases z)).symm
    refine ⟨_, (pss_cons /- if pen['left'] > 0: -/ (ps_if (pt_cmpR op_gt (pe_dget hu (pv 0) pe_str (fun _ _ => rfl)) pe_int (nomark _))
(pss_cons /- digit = pen['left'] % many -/ (ps_set (i := 2) sc_draw.nd rfl (Or.inl rfl) (pe_op op_mod (pe_dget hu (pv 0) pe_str (fun _ _ => rfl)) (pv 1)))
(pss_cons /- pen['left'] = pen['left'] // many -/ (ps_dput hu (pv 0) pe_str (pe_op op_fdivW (pe_dget hu (pv 0) pe_str (fun _ _ => rfl)) (pv 1)) rfl)
(pss_one /- return digit -/ (ps_ret (pv 2)))))
pss_nil)
(pss_cons /- begun, cell = (pen['begun'], 0) -/ (ps_par (i := 3) (j := 4) (by rfl) sc_draw.nd rfl rfl (by decide) rfl rfl (pa_cons (pe_dget hu (pv 0) pe_str (fun _ _ => rfl)) (pa_cons pe_int pa_nil)) (by rfl))
(pss_cons /- pen['begun'] = begun + 1 -/ (ps_dput hu (pv 0) pe_str (pe_op op_add (pv 3) pe_int) rfl)
(C8.pss_cut /- if pen['cells'] != []: -/ (ps_if (pt_cmpR (op_neD hr.units) (pe_dget hu (pv 0) pe_str (fun _ _ => rfl)) (pe_lst pa_nil) (nomark _))
(pss_one /- cell = pen['cells'][begun % len(pen['cells'])] -/ (ps_set (i := 4) sc_draw.nd rfl (Or.inl rfl) (pe_ix ix_list (pe_dget hu (pv 0) pe_str (fun _ _ => rfl)) (pe_op op_mod (pv 3) (pe_callB call_len_seq (by rfl) Z.len (by decide +kernel) (pa_cons (pe_dget hu (pv 0) pe_str (fun _ _ => rfl)) pa_nil))) (fun _ _ => rfl))))
pss_nil)
(C8.pss_cut /- if begun < len(pen['cells']) and abs(cell) >= 10 ** 18: -/ (ps_if (PW.pt (pw_and (pt_cmpR op_lt (pv 3) (pe_callB call_len_seq (by rfl) Z.len (by decide +kernel) (pa_cons (pe_dget hu (pv 0) pe_str (fun _ _ => rfl)) pa_nil)) (nomark _)) (pw_and1 (pt_cmpR op_ge (pe_callB call_abs (by rfl) Z.abs (by decide +kernel) (pa_cons (pv 4) pa_nil)) (pe_op op_pow pe_int pe_int) (nomark _)))))
(pss_cons /- pen['left'] = (abs(cell) - 10 ** 18) // many -/ (ps_dput hu (pv 0) pe_str (pe_op op_fdivW (pe_op op_sub (pe_callB call_abs (by rfl) Z.abs (by decide +kernel) (pa_cons (pv 4) pa_nil)) (pe_op op_pow pe_int pe_int)) (pv 1)) rfl)
(pss_one /- return (abs(cell) - 10 ** 18) % many -/ (ps_ret (pe_op op_mod (pe_op op_sub (pe_callB call_abs (by rfl) Z.abs (by decide +kernel) (pa_cons (pv 4) pa_nil)) (pe_op op_pow pe_int pe_int)) (pv 1)))))
pss_nil)
(pss_cons /- mixed = (cell + 61 * begun * begun + 29 * begun + 3) * 6364136223846793005 -/ (ps_set (i := 5) sc_draw.nd rfl (Or.inl rfl) (pe_op op_mulX (pe_op op_add (pe_op op_add (pe_op op_add (pv 4) (pe_op op_mulX (pe_op op_mulX pe_int (pv 3)) (pv 3))) (pe_op op_mulX pe_int (pv 3))) pe_int) pe_int))
(pss_cons /- mixed = (mixed + 1442695040888963407 * (begun + 1)) % 18446744073709551557 -/ (ps_set (i := 5) sc_draw.nd rfl (Or.inl rfl) (pe_op op_mod (pe_op op_add (pv 5) (pe_op op_mulX pe_int (pe_op op_add (pv 3) pe_int))) pe_int))
(pss_cons /- mixed = mixed * (mixed + 2654435761) % 18446744073709551557 -/ (ps_set (i := 5) sc_draw.nd rfl (Or.inl rfl) (pe_op op_mod (pe_op op_mulX (pv 5) (pe_op op_add (pv 5) pe_int)) pe_int))
(pss_one /- return mixed // 4294967311 % many -/ (ps_ret (pe_op op_mod (pe_op op_fdivW (pv 5) pe_int) (pv 1)))))))))))), ?_⟩
    -- if pen['left'] > 0
    refine ⟨_, rfl, p, _, rfl, get_left hp, l, 0, rfl, rfl, _, rfl, ?_⟩
    refine ite2 (fun h => ?_) (fun h => ?_)
    · refine ⟨_, rfl, p, _, rfl, get_left hp, _, rfl, _, _, rfl, rfl, hm, ?_⟩
      refine ⟨_, rfl, p, _, rfl, get_left hp, _, rfl, _, _, rfl, rfl,
        divW_ok hm bm (by decide) (by decide), _, rfl, p, _, rfl,
        dput_left hp _, ?_⟩
      refine ⟨_, rfl, ?_⟩
      refine q _ _ Keep.refl.set ⟨cs, b, l / m, upd_same, ?_, hlen,
        hbig, by omega, hl.div hm⟩ (Int.emod_nonneg _ (by omega))
        (Int.emod_lt_of_pos _ hm)
      rw [upd_ne npc]; exact hc
    · -- begun, cell
      refine ⟨_, rfl, p, _, rfl, get_begun hp, _, _, rfl, ?_⟩
      refine ⟨_, rfl, _, _, rfl, rfl, _, rfl, p, _, rfl,
        dput_begun hp _, ?_⟩
      have hp1 : (upd H p (.dK (penKvs c ((b : Int) + 1) l))) p =
        some (.dK (penKvs c ((b : Int) + 1) l)) := upd_same
      have hc1 : (upd H p (.dK (penKvs c ((b : Int) + 1) l))) c =
        some (.lst (cs.map V.int)) := by rw [upd_ne npc]; exact hc
      have k1 : Keep p H (upd H p (.dK (penKvs c ((b : Int) + 1) l))) :=
        Keep.refl.set
      generalize upd H p (.dK (penKvs c ((b : Int) + 1) l)) = H1
        at hp1 hc1 k1
      refine ⟨fun σ H2 => ∃ z : Int, BB 1048576 z ∧
        σ = [some (.ref p), some (.int m), none, some (.int (b : Int)),
          some (.int z), none] ∧
        H2 p = some (.dK (penKvs c ((b : Int) + 1) l)) ∧
        H2 c = some (.lst (cs.map V.int)) ∧ Keep p H H2, ?_, ?_⟩
      · refine ⟨_, rfl, p, _, rfl, get_cells hp1, Nat.zero_le _,
          fun q1 nq => ?_⟩
        refine ⟨.list (cs.map .int), .list (([] : List Int).map .int),
          dpL (.of (upd_of nq hc1)), dpL (.of upd_same), shapedL _,
          shapedL [], _, rfl, ?_⟩
        have hp2 := upd_of (o := .lst []) nq hp1
        have hc2 := upd_of (o := .lst []) nq hc1
        have k2 : Keep p H (upd H1 q1 (.lst [])) := k1.new nq
        rw [eqvL]
        by_cases he : cs = []
        · refine if' (by rw [decide_eq_true he]; rfl) ?_
          exact ⟨0, BB.zero, rfl, hp2, hc2, k2⟩
        · refine it (by rw [decide_eq_false he]; rfl) ?_
          have hl0 : 0 < cs.length := List.length_pos_iff.mpr he
          have hj : b % cs.length < cs.length := Nat.mod_lt _ hl0
          refine ⟨_, rfl, p, _, rfl, get_cells hp2, _, rfl, _, rfl, p,
            _, rfl, get_cells hp2, c, _, rfl, .inl (.of hc2), _, _,
            rfl, rfl, ?_, c, _, _, .int cs[b % cs.length], rfl, rfl,
            .of hc2, ?_, ?_⟩
          · rw [List.length_map]; omega
          · refine at_of (j := b % cs.length) ?_ ?_
            · rw [List.length_map]; rfl
            · rw [List.getElem?_map, List.getElem?_eq_getElem hj]; rfl
          · exact ⟨_, hbig _ (List.getElem_mem hj), rfl, hp2, hc2, k2⟩
      · rintro σ H2 ⟨z, bz, rfl, hp2, hc2, k2⟩
        have cp : CPow 10 18 := ⟨by decide, by decide, by decide⟩
        have e18 : (10 : Int) ^ (18 : Int).toNat =
          1000000000000000000 := by decide
        refine ⟨fun σ H3 => H3 = H2 ∧ σ = [some (.ref p),
          some (.int m), none, some (.int (b : Int)), some (.int z),
          none], ?_, ?_⟩
        · refine ⟨_, rfl, _, rfl, p, _, rfl, get_cells hp2, c, _, rfl,
            .inl (.of hc2), _, _, rfl, rfl, _, rfl, ?_⟩
          refine ite2 (fun h1 => ?_) (fun h1 => iteF ⟨rfl, rfl⟩)
          refine ⟨_, rfl, z, rfl, _, _, rfl, rfl, cp, _, _, rfl, rfl,
            _, rfl, ?_⟩
          refine ite2 (fun h2 => ?_) (fun h2 => ⟨rfl, rfl⟩)
          rw [e18] at h2
          have h3 := of_decide_eq_true h2
          have ba : BB 1048577 ((if z < 0 then -z else z) -
              (10 : Int) ^ (18 : Int).toNat) := by
            rw [e18]
            exact (bz.abs.sub ((show BB 64 1000000000000000000 by
              show _ < _; decide).mono (by decide)))
          refine ⟨_, rfl, z, rfl, _, _, rfl, rfl, cp, _, _, rfl, rfl,
            _, rfl, _, _, rfl, rfl, divW_ok hm bm (by decide)
            (by decide), _, rfl, p, _, rfl, dput_left hp2 _, ?_⟩
          refine ⟨_, rfl, z, rfl, _, _, rfl, rfl, cp, _, _, rfl, rfl,
            _, rfl, _, _, rfl, rfl, hm, ?_⟩
          refine q _ _ k2.set ⟨cs, b + 1, _, upd_same, ?_, hlen, hbig,
            by omega, ?_⟩ (Int.emod_nonneg _ (by omega))
            (Int.emod_lt_of_pos _ hm)
          · rw [upd_ne npc]; exact hc2
          · refine BB.div ?_ hm
            rw [e18]
            refine bz.abs.le ?_
            omega
        · rintro σ H3 ⟨rfl, rfl⟩
          have bb : BB 60 (b : Int) := by
            show b < _
            have : (2 : Nat) ^ 60 = 1152921504606846976 := by decide
            omega
          have c61 : BB 64 61 := by show _ < _; decide
          have c29 : BB 64 29 := by show _ < _; decide
          have c3 : BB 64 3 := by show _ < _; decide
          have c1 : BB 64 1 := by show _ < _; decide
          have cA : BB 64 6364136223846793005 := by show _ < _; decide
          have cC : BB 64 1442695040888963407 := by show _ < _; decide
          have cP : BB 64 2654435761 := by show _ < _; decide
          have modP : (0 : Int) < 18446744073709551557 := by decide
          have bx : BB 1048700 ((z + 61 * (b : Int) * b + 29 * b + 3) *
              6364136223846793005) := by
            have h1 := ((bz.add (((c61.mul bb).mul bb).mono
              (show 64 + 60 + 60 ≤ 1048576 by decide))).add
              ((c29.mul bb).mono
              (show 64 + 60 ≤ 1048576 + 1 by decide))).add
              (c3.mono (show 64 ≤ 1048576 + 1 + 1 by decide))
            exact (h1.mul cA).mono (by decide)
          refine ⟨_, rfl, _, rfl, _, _, rfl, rfl, mulX_ok c61 bb
            (by decide), _, rfl, _, _, rfl, rfl, mulX_ok (c61.mul bb) bb
            (by decide), _, _, rfl, rfl, _, rfl, _, _, rfl, rfl,
            mulX_ok c29 bb (by decide), _, _, rfl, rfl, _, _, rfl, rfl,
            _, _, rfl, rfl, mulX_ok (j := 1048700) (k := 64) ?_ cA
            (by decide), ?_⟩
          · have h1 := ((bz.add (((c61.mul bb).mul bb).mono
              (show 64 + 60 + 60 ≤ 1048576 by decide))).add
              ((c29.mul bb).mono
              (show 64 + 60 ≤ 1048576 + 1 by decide))).add
              (c3.mono (show 64 ≤ 1048576 + 1 + 1 by decide))
            exact h1.mono (by decide)
          refine ⟨_, rfl, _, rfl, _, _, rfl, rfl, _, _, rfl, rfl,
            mulX_ok cC ((bb.mono (by decide)).add c1) (by decide), _, _,
            rfl, rfl, _, _, rfl, rfl, modP, ?_⟩
          have yb : BB 64 (((z + 61 * (b : Int) * b + 29 * b + 3) *
              6364136223846793005 +
              1442695040888963407 * ((b : Int) + 1)) %
              18446744073709551557) := by
            generalize (z + 61 * (b : Int) * b + 29 * b + 3) *
              6364136223846793005 +
              1442695040888963407 * ((b : Int) + 1) = x
            exact BB.small (by omega)
          refine ⟨_, rfl, _, rfl, _, _, rfl, rfl, _, _, rfl, rfl,
            mulX_ok yb (yb.add cP) (by decide), _, _, rfl, rfl,
            modP, ?_⟩
          refine ⟨_, rfl, _, _, rfl, rfl, divW_ok (k := 64) (by decide)
            (by show _ < _; decide) (by decide) (by decide), _, rfl, _,
            _, rfl, rfl, hm, ?_⟩
          exact q _ _ k2 ⟨cs, b + 1, l, hp2, hc2, hlen, hbig, by omega,
            hl⟩ (Int.emod_nonneg _ (by omega)) (Int.emod_lt_of_pos _ hm)

def spPen (K : PySem.W.Frag) : Sp := fun vs H Q _ =>
  ∃ (a : Addr) (ns : List Int), vs = [.ref a] ∧
    SqL K H a (ns.map V.int) ∧ ns.length ≤ 63 ∧
    (∀ z ∈ ns, BB 1048576 z) ∧ ∀ H' p c, Same H H' → H p = none →
      H c = none → Pen H' p c 0 → Q (.ref p) H'
theorem cut_to (xs : List V) (n : Nat) (h : xs.length ≤ n) :
    cutV xs none (some (n : Int)) = xs := by
  unfold cutV
  rw [show HT.sIx xs.length 0 none = 0 from HT.sIx_none ..,
    show HT.sIx xs.length xs.length (some (n : Int)) =
      min n xs.length from HT.sIx_nat ..]
  rw [Nat.min_eq_right h]
  show List.take (xs.length - 0) xs = xs
  rw [Nat.sub_zero]
  exact List.take_length
theorem ok_pen {f : Addr} {fd : FuncData}
    (F : Fun K "_law_pen" "_law_pen" s_pen f fd) (Z : Zs mg) :
    FnOk P w K mg base CX0 1 f fd ["script"] (spPen K) := by
  refine F.ok sc_pen (fun vs H Q E h => ?_)
    (fun cdv A outer s H vs Q E hr h => ?_)
  · obtain ⟨a, ns, rfl, _⟩ := h
    rfl
  · obtain ⟨a, ns, rfl, hs, hl, hb, q⟩ := h
    have hu := hu_of hr
    refine ⟨_, (pss_one /- return {'cells': [cell for cell in script[:63]], 'begun': 0, 'left': 0} -/ (ps_ret (pe_disp (pps_cons pe_str (pe_lc (own := [("cell", 1)]) (g := (gName 1)) (by rfl) sc_pen.nd (pi_list (pe_slice sl_list (pv 0) po_none (po_some pe_int))) (blkOk_by (own := [("cell", 1)]) (N := N_pen) (sc := defScope s_pen) (by decide +kernel)) (fun _ _ _ _ _ => pg_name (i := 1) sc_pen.nd rfl (Or.inl rfl)) (fun _ _ _ _ _ => pts_nil) (fun _ _ _ _ _ => (pv 1))) (pps_cons pe_str pe_int (pps_cons pe_str pe_int pps_nil))) (by rfl) (by rfl) (fun z => by cases z) (by decide)))), ?_⟩
    intro p np
    have s1 : Same H (upd H p (.dK [])) := same_new (Same.refl H) np
    refine ⟨_, rfl, 63, rfl, a, _, rfl, s1.seq hs, fun c0 nc0 => ?_⟩
    have hc0 := cut_to (ns.map V.int) 63 (by rw [List.length_map]; exact hl)
    rw [show ((63 : Nat) : Int) = 63 from rfl] at hc0
    rw [hc0]
    have s2 : Same H (upd (upd H p (.dK [])) c0 (.lst (ns.map V.int))) :=
      same_new s1 nc0
    have hp2 : (upd (upd H p (.dK [])) c0 (.lst (ns.map V.int))) p =
      some (.dK []) := upd_of nc0 upd_same
    have hc2 : (upd (upd H p (.dK [])) c0 (.lst (ns.map V.int))) c0 =
      some (.lst (ns.map V.int)) := upd_same
    generalize upd (upd H p (.dK [])) c0 (.lst (ns.map V.int)) = H2
      at s2 hp2 hc2 ⊢
    refine ⟨c0, rfl, ⟨_, .of hc2⟩, fun D nD => ?_⟩
    refine lc_list (K := K) (a := c0) (xs := ns.map V.int)
      (fun i H' => Same H H' ∧ H' p = some (.dK []) ∧
        H' c0 = some (.lst (ns.map V.int)) ∧
        H' D = some (.lst ((ns.take i).map V.int)))
      ⟨same_new s2 nD, upd_of nD hp2, upd_of nD hc2, upd_same⟩ ?_ ?_ ?_
    · rintro i H' _ ⟨_, _, h3, _⟩
      exact .of h3
    · rintro i x H' hx ⟨h1, h2, h3, h4⟩
      refine ⟨rfl, ?_⟩
      obtain ⟨z, g1, rfl⟩ := map_get hx
      have npD : p ≠ D := ne_of_none hp2 nD
      have ncD : c0 ≠ D := ne_of_none hc2 nD
      have nDD : H D = none := s2.free nD
      refine ⟨_, rfl, _, h4, ?_, ?_, ?_, ?_, ?_⟩
      · rw [List.length_map, List.length_take, sizeLine_eq]; omega
      · intro b o hb'
        rw [upd_ne (ne_of_none hb' nDD)]; exact h1 b o hb'
      · rw [upd_ne npD]; exact h2
      · rw [upd_ne ncD]; exact h3
      · rw [upd_same, List.take_add_one, g1, List.map_append]
        rfl
    · rintro H' ⟨h1, h2, h3, h4⟩
      rw [List.length_map, List.take_length] at h4
      refine ⟨h2, penKvs D 0 0, rfl, by show 3 ≤ 15; decide, ?_⟩
      rw [merge_pen]
      have npD : D ≠ p := (ne_of_none hp2 nD).symm
      refine q _ p D ?_ np (s2.free nD)
        ⟨ns, 0, 0, upd_same, ?_, hl, hb, Nat.le_refl _, BB.zero⟩
      · intro b o hb'
        rw [upd_ne (ne_of_none hb' np)]; exact h1 b o hb'
      · rw [upd_ne npD]; exact h4
/-- reading goes on behind the pen's turns -/
theorem Keep.sq {H H' : Hp} {p a : Addr} {k : List (Key × V)}
    {xs : List V} (kp : Keep p H H') (hp : H p = some (.dK k))
    (h : SqL K H a xs) : SqL K H' a xs := by
  rcases h with (h | ⟨o, h⟩) | h
  · exact .inl (.inl (kp _ _ h (ne_of h hp (by intro z; cases z))))
  · exact .inl (.inr ⟨o, kp _ _ h (ne_of h hp (by intro z; cases z))⟩)
  · exact .inr h
theorem Keep.st {H H' : Hp} {p a : Addr} {k : List (Key × V)}
    {xs : List V} (kp : Keep p H H') (hp : H p = some (.dK k))
    (h : SqT K H a xs) : SqT K H' a xs := by
  rcases h with (h | ⟨o, h⟩) | h
  · exact .inl (.inl (kp _ _ h (ne_of h hp (by intro z; cases z))))
  · exact .inl (.inr ⟨o, kp _ _ h (ne_of h hp (by intro z; cases z))⟩)
  · exact .inr h
theorem Keep.free {H H' : Hp} {p q : Addr} (kp : Keep p H H')
    (h : H' q = none) (n : q ≠ p) : H q = none := by
  cases e : H q with
  | none => rfl
  | some o =>
    rw [kp q o e n] at h
    cases h
def spPick (K : PySem.W.Frag) : Sp := fun vs H Q _ =>
  ∃ (p c a : Addr) (n : Nat) (xs : List V), vs = [.ref p, .ref a] ∧
    SqL K H a xs ∧ 0 < xs.length ∧ xs.length ≤ 1000000 ∧ Pen H p c n ∧
    n < 1000000000000000000 ∧ ∀ H' v, Keep p H H' →
      Pen H' p c (n + 1) → v ∈ xs → Q v H'
theorem ok_pick {f : Addr} {fd : FuncData}
    (F : Fun K "_law_pick" "_law_pick" s_pick f fd) (Z : Zs mg)
    (D_draw : Dd P w K mg base "_law_draw" 1 ["pen", "many"] spDraw) :
    FnOk P w K mg base CX0 2 f fd ["pen", "some"] (spPick K) := by
  refine F.ok sc_pick (fun vs H Q E h => ?_)
    (fun cdv A outer s H vs Q E hr h => ?_)
  · obtain ⟨p, c, a, n, xs, rfl, _⟩ := h
    rfl
  · obtain ⟨p, c, a, n, xs, rfl, hs, h0, hl, P0, hn, q⟩ := h
    have hu := hu_of hr
    refine ⟨_, (pss_one /- return some[_law_draw(pen, len(some))] -/ (ps_ret (pe_ix ix_list (pv 1) (pe_d D_draw (hr.mono (by decide)) (by rfl) (pa_cons (pv 0) (pa_cons (pe_callB call_len_seq (by rfl) Z.len (by decide +kernel) (pa_cons (pv 1) pa_nil)) pa_nil))) (fun _ _ => rfl)))), ?_⟩
    obtain ⟨k, hp⟩ := P0.p
    refine ⟨_, rfl, _, rfl, _, rfl, a, xs, rfl, .inl hs, p, c, n, _,
      rfl, by omega, ?_, P0, hn, fun H' d kp P1 d0 d1 => ?_⟩
    · exact BB.mono (BB.small (by omega)) (by decide)
    · obtain ⟨j, rfl⟩ := Int.eq_ofNat_of_zero_le d0
      have hj : j < xs.length := by omega
      refine ⟨a, xs, _, xs[j], rfl, rfl, kp.sq hp hs,
        at_of rfl (List.getElem?_eq_getElem hj), ?_⟩
      exact q H' _ kp P1 (List.getElem_mem hj)
end

/-! ### shuffled ints -/
theorem take_erase {α : Type} {l : List α} {j : Nat} (h : j < l.length) :
    (l[j] :: l.eraseIdx j).Perm l := by
  induction l generalizing j with
  | nil => cases h
  | cons x r ih =>
    cases j with
    | zero => exact List.Perm.refl _
    | succ j =>
      have h' : j < r.length := Nat.lt_of_succ_lt_succ h
      show (r[j] :: x :: r.eraseIdx j).Perm (x :: r)
      exact (List.Perm.swap _ _ _).trans ((ih h').cons x)
def spShuffled (K : PySem.W.Frag) : Sp := fun vs H Q _ =>
  ∃ (p c a : Addr) (n : Nat) (xs : List Int), vs = [.ref p, .ref a] ∧
    SqL K H a (xs.map V.int) ∧ xs.length ≤ 100000 ∧ Pen H p c n ∧
    n < 100000000000000000 ∧ ∀ H' q (ys : List Int), Keep p H H' →
      Pen H' p c (n + 100000) → H q = none → q ≠ p → q ≠ c →
      H' q = some (.lst (ys.map V.int)) → ys.Perm xs → Q (.ref q) H'
section
variable {P : Program} {w : World} {K : PySem.W.Frag}
variable {mg : Str → Option Value} {base : Heap}
theorem ok_shuffled {f : Addr} {fd : FuncData}
    (F : Fun K "_law_shuffled" "_law_shuffled" s_shuffled f fd)
    (Z : Zs mg)
    (D_draw : Dd P w K mg base "_law_draw" 1 ["pen", "many"] spDraw) :
    FnOk P w K mg base CX0 2 f fd ["pen", "some"] (spShuffled K) := by
  refine F.ok sc_shuffled (fun vs H Q E h => ?_)
    (fun cdv A outer s H vs Q E hr h => ?_)
  · obtain ⟨p, c, a, n, xs, rfl, _⟩ := h
    rfl
  · obtain ⟨p, c, a, n, xs, rfl, hs, hl, P0, hn, q⟩ := h
    have hu := hu_of hr
    refine ⟨_, (pss_cons /- left, found = (list(some), []) -/ (ps_par (i := 2) (j := 3) (by rfl) sc_shuffled.nd rfl rfl (by decide) rfl rfl (pa_cons (pe_callTy call_list_of (by rfl) Z.list (by decide +kernel) (pa_cons (pv 1) pa_nil)) (pa_cons (pe_lst pa_nil) pa_nil)) (by rfl))
(pss_cons /- while left != []: -/ (ps_while PassesOwn.never (pt_cmpR (op_neD hr.units) (pv 2) (pe_lst pa_nil) (nomark _))
(pss_one /- found.append(left.pop(_law_draw(pen, len(left)))) -/ (ps_expr (pe_bm PySem.F.plainAttrs_list PySem.F.slot_list_append PySem.F.type_list_append mt_append (pv 3) (pa_cons (pe_bm PySem.F.plainAttrs_list PySem.F.slot_list_pop PySem.F.type_list_pop mt_popAt (pv 2) (pa_cons (pe_d D_draw (hr.mono (by decide)) (by rfl) (pa_cons (pv 0) (pa_cons (pe_callB call_len_seq (by rfl) Z.len (by decide +kernel) (pa_cons (pv 2) pa_nil)) pa_nil))) pa_nil)) pa_nil)))))
(pss_one /- return found -/ (ps_ret (pv 3))))), ?_⟩
    refine ⟨_, rfl, a, _, rfl, .inl hs, fun l nl => ?_⟩
    refine ⟨Nat.zero_le _, fun fo nfo => ⟨_, _, rfl, ?_⟩⟩
    have nlp := P0.nep nl
    have nlc := P0.nec nl
    have P1 := P0.new (o := .lst (xs.map V.int)) nl
    have nfp := P1.nep nfo
    have nfc := P1.nec nfo
    have nlf : l ≠ fo := ne_of_none (upd_same) nfo
    have nfH : H fo = none := (same_new (Same.refl H) nl).free nfo
    refine while_by (fun σ H' => ∃ (rem done : List Int),
        σ = [some (.ref p), some (.ref a), some (.ref l),
          some (.ref fo)] ∧ Keep p H H' ∧
        H' l = some (.lst (rem.map V.int)) ∧
        H' fo = some (.lst (done.map V.int)) ∧
        Pen H' p c (n + done.length) ∧ (done ++ rem).Perm xs)
      (fun σ H' => match H' l with
        | some (.lst r) => r.length
        | _ => 0)
      ⟨xs, [], rfl, (Keep.refl.new nl).new nfo, ?_, upd_same,
        P1.new nfo, List.Perm.refl _⟩ ?_ ?_
    · rw [upd_ne nlf]; exact upd_same
    · rintro σ H' ⟨rem, done, rfl, kp, h1, h2, P2, pm⟩
      have len := pm.length_eq
      rw [List.length_append] at len
      refine ⟨_, rfl, Nat.zero_le _, fun e ne => ?_⟩
      refine ⟨.list (rem.map .int), .list (([] : List Int).map .int),
        dpL (.of (upd_of ne h1)), dpL (.of upd_same), shapedL _,
        shapedL [], _, rfl, ?_⟩
      have nle : l ≠ e := ne_of_none h1 ne
      have nfe : fo ≠ e := ne_of_none h2 ne
      have npe := P2.nep ne
      have nce := P2.nec ne
      have g1 := upd_of (o := .lst []) ne h1
      have g2 := upd_of (o := .lst []) ne h2
      have P3 := P2.new (o := .lst []) ne
      have k3 : Keep p H (upd H' e (.lst [])) := kp.new ne
      have ml : (match H' l with
        | some (.lst r) => r.length
        | _ => 0) = rem.length := by rw [h1]; exact List.length_map ..
      rw [eqvL, ml]
      generalize upd H' e (.lst []) = H3 at g1 g2 P3 k3 ⊢
      by_cases he : rem = []
      · refine if' (by rw [decide_eq_true he]; rfl) ?_
        subst he
        rw [List.append_nil] at pm
        refine ⟨_, rfl, ?_⟩
        refine q H3 fo done k3 (P3.mono ?_) nfH nfp nfc g2 pm
        have := pm.length_eq
        omega
      · refine it (by rw [decide_eq_false he]; rfl) ?_
        have h0 : 0 < rem.length := List.length_pos_iff.mpr he
        refine ⟨_, rfl, .inl ⟨rfl, _, .of g2⟩, _, rfl,
          .inl ⟨rfl, _, .of g1⟩, _, rfl, _, rfl, l, _, rfl,
          .inl (.of g1), p, c, n + done.length, _, rfl, ?_, ?_, P3, ?_,
          fun H4 d k4 P4 d0 d1 => ?_⟩
        · rw [List.length_map]; omega
        · rw [List.length_map]
          exact BB.mono (BB.small (by omega)) (by decide)
        · omega
        · rw [List.length_map] at d1
          obtain ⟨j, rfl⟩ := Int.eq_ofNat_of_zero_le d0
          have hj : j < rem.length := by omega
          have f1 := k4 _ _ g1 nlp
          have f2 := k4 _ _ g2 nfp
          refine ⟨l, _, (j : Int), j, .int rem[j], rfl, rfl, f1, by omega,
            by omega, ?_, ?_, ?_⟩
          · exact idx_nat (by rw [List.length_map]; exact hj)
          · rw [List.getElem?_map, List.getElem?_eq_getElem hj]; rfl
          · refine ⟨fo, done.map V.int, .int rem[j], rfl, rfl, ?_,
              ?_, ?_⟩
            · rw [upd_ne (Ne.symm nlf)]; exact f2
            · rw [List.length_map, sizeLine_eq]; omega
            · refine ⟨⟨rem.eraseIdx j, done ++ [rem[j]], rfl, ?_, ?_,
                ?_, ?_, ?_⟩, ?_⟩
              · intro b o hb hbp
                rw [upd_ne (ne_of_none hb nfH),
                  upd_ne (ne_of_none hb nl)]
                exact k4 _ _ (k3 b o hb hbp) hbp
              · rw [upd_ne nlf, upd_same, eraseIdx_map]
              · rw [upd_same, List.map_append]; rfl
              · refine ((P4.set nlp nlc).set nfp nfc).mono ?_
                rw [List.length_append]
                exact Nat.le_refl _
              · refine List.Perm.trans ?_ pm
                rw [List.append_assoc]
                exact (List.Perm.refl _).append (take_erase hj)
              · show (match (upd (upd H4 l _) fo _) l with
                  | some (.lst r) => r.length
                  | _ => 0) < rem.length
                rw [upd_ne nlf, upd_same]
                show ((rem.map V.int).eraseIdx j).length < rem.length
                rw [List.length_eraseIdx, List.length_map, if_pos hj]
                omega
    · intro σ H' Q1 Q2 mono hc
      obtain ⟨v, h1, h2, h3⟩ := hc
      refine ⟨v, h1, h2, fun e ne => ?_⟩
      obtain ⟨d, e', a1, a2, a3, a4, k, a5, a6⟩ := h3 e ne
      exact ⟨d, e', a1, a2, a3, a4, k, a5, mono _ _ a6⟩
end

/-! ### spots, the law -/
def nV (l : List Nat) : List V := l.map fun i => V.int (i : Nat)
theorem nV_int (l : List Nat) :
    nV l = (l.map fun i : Nat => (i : Int)).map V.int := by
  unfold nV
  rw [List.map_map]
  rfl
def spSpots : Sp := fun vs H Q _ =>
  ∃ (p c : Addr) (n : Nat), vs = [.ref p] ∧ Pen H p c n ∧
    n < 10000000000000000 ∧ ∀ H' q (l : List Nat), Keep p H H' →
      Pen H' p c (n + 1000000) → H q = none → q ≠ p → q ≠ c →
      H' q = some (.lst (nV l)) → l.Nodup → (∀ i ∈ l, i < 200) →
      Q (.ref q) H'
theorem inV_nat {l : List Nat} {i : Nat} :
    inV (.int (i : Nat)) (nV l) = decide (i ∈ l) := by
  unfold nV
  induction l with
  | nil => rfl
  | cons x r ih =>
    show (eqV (.int (x : Nat)) (.int (i : Nat)) ||
      inV (.int (i : Nat)) (r.map fun i => V.int (i : Nat))) = _
    rw [ih]
    have e : eqV (.int (x : Nat)) (.int (i : Nat)) = decide (i = x) := by
      show ((x : Int) == (i : Int)) = decide (i = x)
      by_cases h : i = x
      · subst h; simp
      · have h' : ¬ ((x : Int) = (i : Int)) := by omega
        simp [h, h']
    rw [e]
    by_cases h1 : i = x
    · simp [h1]
    · by_cases h2 : i ∈ r
      · simp [h2]
      · simp [h1, h2]
theorem flat_nat (l : List Nat) : (nV l).all flatV = true := by
  rw [List.all_eq_true]
  intro x hx
  obtain ⟨i, _, rfl⟩ := List.mem_map.mp hx
  rfl
theorem nV_len (l : List Nat) : (nV l).length = l.length :=
  List.length_map ..
theorem nV_app (l m : List Nat) : nV (l ++ m) = nV l ++ nV m :=
  List.map_append ..
theorem nV_take (l : List Nat) (k : Nat) :
    (nV l).take k = nV (l.take k) := List.map_take.symm
theorem nV_drop (l : List Nat) (k : Nat) :
    (nV l).drop k = nV (l.drop k) := List.map_drop.symm
theorem perm_cast {ys : List Int} {l : List Nat}
    (h : ys.Perm (l.map fun i : Nat => (i : Int))) :
    ∃ ms : List Nat, ys = ms.map (fun i : Nat => (i : Int)) ∧
      ms.Perm l := by
  refine ⟨ys.map Int.toNat, ?_, ?_⟩
  · rw [List.map_map]
    have : ∀ y ∈ ys, ((fun i : Nat => (i : Int)) ∘ Int.toNat) y = y := by
      intro y hy
      obtain ⟨i, _, e⟩ := List.mem_map.mp (h.mem_iff.mp hy)
      show ((y.toNat : Nat) : Int) = y
      omega
    rw [List.map_congr_left this, List.map_id']
  · have := h.map Int.toNat
    rw [List.map_map] at this
    have e : (Int.toNat ∘ fun i : Nat => (i : Int)) = id := by
      funext i; rfl
    rw [e, List.map_id] at this
    exact this
theorem cut_take (xs : List V) (n : Nat) :
    cutV xs none (some (n : Int)) = xs.take n := by
  unfold cutV
  rw [show HT.sIx xs.length 0 none = 0 from HT.sIx_none ..,
    show HT.sIx xs.length xs.length (some (n : Int)) =
      min n xs.length from HT.sIx_nat ..]
  show List.take (min n xs.length - 0) (xs.drop 0) = xs.take n
  rw [Nat.sub_zero, List.drop_zero, List.take_eq_take_iff]
  omega
theorem cut_drop (xs : List V) (n : Nat) :
    cutV xs (some (n : Int)) none = xs.drop n := by
  unfold cutV
  rw [show HT.sIx xs.length xs.length none = xs.length from
      HT.sIx_none ..,
    show HT.sIx xs.length 0 (some (n : Int)) =
      min n xs.length from HT.sIx_nat ..]
  rcases Nat.le_total n xs.length with h | h
  · rw [Nat.min_eq_left h]
    refine List.take_of_length_le ?_
    rw [List.length_drop]; exact Nat.le_refl _
  · rw [Nat.min_eq_right h, Nat.sub_self, List.take_zero,
      List.drop_eq_nil_of_le h]
section
variable {P : Program} {w : World} {K : PySem.W.Frag}
variable {mg : Str → Option Value} {base : Heap}
theorem ok_spots {f : Addr} {fd : FuncData}
    (F : Fun K "_law_spots" "_law_spots" s_spots f fd)
    (Z : Zs mg)
    (D_draw : Dd P w K mg base "_law_draw" 1 ["pen", "many"] spDraw)
    (D_pick : Dd P w K mg base "_law_pick" 2 ["pen", "some"] (spPick K))
    (D_shuffled : Dd P w K mg base "_law_shuffled" 2 ["pen", "some"]
      (spShuffled K)) :
    FnOk P w K mg base CX0 3 f fd ["pen"] spSpots := by
  refine F.ok sc_spots (fun vs H Q E h => ?_)
    (fun cdv A outer s H vs Q E hr h => ?_)
  · obtain ⟨p, c, n, rfl, _⟩ := h
    rfl
  · obtain ⟨p, c, n, rfl, P0, hn, q⟩ := h
    have hu := hu_of hr
    obtain ⟨kk, hp0⟩ := P0.p
    have b8 : ∀ m : Int, 0 ≤ m → m < 1000000 → BB 8000 m := fun m a b =>
      BB.mono (BB.small (by omega)) (by decide)
    refine ⟨_, (pss_cons /- low, found = (_law_draw(pen, 200), []) -/ (ps_par (i := 1) (j := 2) (by rfl) sc_spots.nd rfl rfl (by decide) rfl rfl (pa_cons (pe_d D_draw (hr.mono (by decide)) (by rfl) (pa_cons (pv 0) (pa_cons pe_int pa_nil))) (pa_cons (pe_lst pa_nil) pa_nil)) (by rfl))
(pss_cons /- if _law_draw(pen, 2) == 0: -/ (ps_if (pt_cmpR op_eq (pe_d D_draw (hr.mono (by decide)) (by rfl) (pa_cons (pv 0) (pa_cons pe_int pa_nil))) pe_int (nomark _))
(pss_cons /- found = list(range(low, min(200, low + _law_pick(pen, [1, 2, 7, 30, 200])))) -/ (ps_set (i := 2) sc_spots.nd rfl (Or.inl rfl) (pe_listRg rfl (by rfl) Z.list (prg_2 (by rfl) Z.range (pv 1) (pe_callB (call_min2 rfl) (by rfl) Z.min (by decide +kernel) (pa_cons pe_int (pa_cons (pe_op op_add (pv 1) (pe_d D_pick (hr.mono (by decide)) (by rfl) (pa_cons (pv 0) (pa_cons (pe_lst (pa_cons pe_int (pa_cons pe_int (pa_cons pe_int (pa_cons pe_int (pa_cons pe_int pa_nil)))))) pa_nil)))) pa_nil))))))
(pss_one /- return _law_shuffled(pen, found[:12]) + found[12:] -/ (ps_ret (pe_op op_cat (pe_d D_shuffled (hr.mono (by decide)) (by rfl) (pa_cons (pv 0) (pa_cons (pe_slice sl_list (pv 2) po_none (po_some pe_int)) pa_nil))) (pe_slice sl_list (pv 2) (po_some pe_int) po_none)))))
pss_nil)
(pss_cons /- for k in range(_law_draw(pen, 14)): -/ (ps_for PassesOwn.never rfl (pi_range1 (by rfl) Z.range (pa_cons (pe_d D_draw (hr.mono (by decide)) (by rfl) (pa_cons (pv 0) (pa_cons pe_int pa_nil))) pa_nil)) (pg_name (i := 3) sc_spots.nd rfl (Or.inl rfl))
(pss_cons /- spot = _law_pick(pen, [_law_draw(pen, 200), 0, 199, low]) -/ (ps_set (i := 4) sc_spots.nd rfl (Or.inl rfl) (pe_d D_pick (hr.mono (by decide)) (by rfl) (pa_cons (pv 0) (pa_cons (pe_lst (pa_cons (pe_d D_draw (hr.mono (by decide)) (by rfl) (pa_cons (pv 0) (pa_cons pe_int pa_nil))) (pa_cons pe_int (pa_cons pe_int (pa_cons (pv 1) pa_nil))))) pa_nil))))
(pss_one /- if spot not in found: -/ (ps_if (pt_cmpR op_notIn_seq (pv 4) (pv 2) (by rfl))
(pss_one /- found.append(spot) -/ (ps_expr (pe_bm PySem.F.plainAttrs_list PySem.F.slot_list_append PySem.F.type_list_append mt_append (pv 2) (pa_cons (pv 4) pa_nil))))
pss_nil))))
(pss_one /- return found -/ (ps_ret (pv 2)))))), ?_⟩
    -- low, found = (_law_draw(pen, 200), [])
    refine ⟨_, rfl, p, c, n, 200, rfl, by decide,
      b8 _ (by decide) (by decide), P0, by omega, fun H1 d0 k1 P1 e0 e1 => ?_⟩
    refine ⟨Nat.zero_le _, fun fo nfo => ⟨_, _, rfl, ?_⟩⟩
    obtain ⟨low, rfl⟩ := Int.eq_ofNat_of_zero_le e0
    have nfp := P1.nep nfo
    have nfc := P1.nec nfo
    have nfH : H fo = none := k1.free nfo nfp
    have k2 : Keep p H (upd H1 fo (.lst [])) := k1.new nfo
    have P2 := P1.new (o := .lst []) nfo
    have g2 : (upd H1 fo (.lst [])) fo = some (.lst []) := upd_same
    generalize upd H1 fo (.lst []) = H2 at k2 P2 g2 ⊢
    -- if _law_draw(pen, 2) == 0
    refine ⟨_, rfl, p, c, n + 1, 2, rfl, by decide,
      b8 _ (by decide) (by decide), P2, by omega, fun H3 d3 k3 P3 e2 e3 => ?_⟩
    have k3' : Keep p H H3 := k2.trans k3
    have g3 := k3 _ _ g2 nfp
    refine ⟨rfl, _, rfl, ite2 (fun _ => ?_) (fun _ => ?_)⟩
    · -- found = list(range(low, min(200, low + ..)))
      refine ⟨_, rfl, _, rfl, _, rfl, Nat.le_of_ble_eq_true rfl,
        fun a na => ⟨p, c, a, n + 1 + 1, _, rfl, .of upd_same,
          by decide, by decide, P3.new na, by omega,
          fun H4 v k4 P4 mem => ?_⟩⟩
      obtain ⟨j, rfl, j0, j1⟩ : ∃ j : Nat, v = .int (j : Nat) ∧
          0 ≤ j ∧ j ≤ 200 := by
        simp only [List.mem_cons, List.not_mem_nil, or_false] at mem
        rcases mem with h | h | h | h | h
        · exact ⟨1, h, by omega, by omega⟩
        · exact ⟨2, h, by omega, by omega⟩
        · exact ⟨7, h, by omega, by omega⟩
        · exact ⟨30, h, by omega, by omega⟩
        · exact ⟨200, h, by omega, by omega⟩
      have k4' : Keep p H H4 := fun b o hb hbp =>
        k4 _ _ ((k3'.new na) b o hb hbp) hbp
      refine ⟨_, _, rfl, rfl, _, _, rfl, _, _, rfl, rfl, ?_,
        fun r nr => ?_⟩
      · refine RgOk.of_le (by omega) ?_ (by omega) ?_
        · split <;> omega
        · split <;> omega
      have nrp := P4.nep nr
      have nrc := P4.nec nr
      have k5 : Keep p H (upd H4 r (.lst (rgV (low : Int)
        (if (low : Int) + (j : Int) < 200 then (low : Int) + (j : Int)
          else 200)))) := k4'.new nr
      have P5 := P4.new (o := .lst (rgV (low : Int)
        (if (low : Int) + (j : Int) < 200 then (low : Int) + (j : Int)
          else 200))) nr
      have g5 : (upd H4 r (.lst (rgV (low : Int)
        (if (low : Int) + (j : Int) < 200 then (low : Int) + (j : Int)
          else 200)))) r = some (.lst (rgV (low : Int)
        (if (low : Int) + (j : Int) < 200 then (low : Int) + (j : Int)
          else 200))) := upd_same
      generalize upd H4 r (.lst (rgV (low : Int)
        (if (low : Int) + (j : Int) < 200 then (low : Int) + (j : Int)
          else 200))) = H5 at k5 P5 g5 ⊢
      obtain ⟨ct, hct, ect⟩ : ∃ ct : Nat, low + ct ≤ 200 ∧
          rgV (low : Int) (if (low : Int) + (j : Int) < 200
            then (low : Int) + (j : Int) else 200) =
          nV ((List.range ct).map fun i => low + i) := by
        refine ⟨((if (low : Int) + (j : Int) < 200
          then (low : Int) + (j : Int) else 200) - (low : Int)).toNat,
          ?_, ?_⟩
        · split <;> omega
        · unfold rgV nV
          rw [List.map_map]
          refine List.map_congr_left fun i _ => ?_
          show V.int ((low : Int) + (i : Nat)) =
            V.int ((low + i : Nat) : Int)
          rw [Int.natCast_add]
      rw [ect] at g5
      have nd : ((List.range ct).map fun i => low + i).Nodup := by
        refine List.Pairwise.map _ ?_ List.pairwise_lt_range
        intro a b h z
        omega
      have lt : ∀ i ∈ (List.range ct).map fun i => low + i, i < 200 := by
        intro i hi
        obtain ⟨x, hx, rfl⟩ := List.mem_map.mp hi
        have := List.mem_range.mp hx
        omega
      have ln : ((List.range ct).map fun i => low + i).length ≤ 200 := by
        rw [List.length_map, List.length_range]; omega
      generalize (List.range ct).map (fun i => low + i) = fs
        at g5 nd lt ln
      -- return _law_shuffled(pen, found[:12]) + found[12:]
      refine ⟨_, rfl, _, rfl, 12, rfl, r, _, rfl, .of g5,
        fun s1 ns1 => ?_⟩
      have ec := cut_take (nV fs) 12
      rw [show ((12 : Nat) : Int) = 12 from rfl, nV_take] at ec
      rw [ec]
      have ns1p := P5.nep ns1
      have P6 := P5.new (o := .lst (nV (fs.take 12))) ns1
      refine ⟨p, c, s1, n + 1 + 1 + 1, _, rfl, .of (upd_same.trans
        (by rw [nV_int])), ?_, P6, by omega,
        fun H7 s2 ys k7 P7 ns2 ns2p ns2c h7 pm => ?_⟩
      · rw [List.length_map, List.length_take]; omega
      obtain ⟨ms, rfl, pm'⟩ := perm_cast pm
      have g7 := k7 _ _ (upd_of ns1 g5) nrp
      refine ⟨_, rfl, 12, rfl, r, _, rfl, .of g7, fun s3 ns3 => ?_⟩
      have ed := cut_drop (nV fs) 12
      rw [show ((12 : Nat) : Int) = 12 from rfl, nV_drop] at ed
      rw [ed]
      rw [← nV_int] at h7
      have tl := pm'.length_eq
      rw [List.length_take] at tl
      refine ⟨s2, s3, nV ms, _, rfl, rfl, upd_of ns3 h7, upd_same, ?_,
        fun z nz => ?_⟩
      · rw [nV_len, nV_len, List.length_drop, sizeLine_eq]; omega
      have k8 : Keep p H H7 := fun b o hb hbp =>
        k7 _ _ (upd_of ns1 (k5 b o hb hbp)) hbp
      have P8 := P7.new (o := .lst (nV (fs.drop 12))) ns3
      have nzp := P8.nep nz
      have pa : (ms ++ fs.drop 12).Perm fs := by
        have := pm'.append (List.Perm.refl (fs.drop 12))
        rwa [List.take_append_drop] at this
      refine q _ z (ms ++ fs.drop 12) ((k8.new ns3).new nz)
        ((P8.new nz).mono (by omega)) ((k8.new ns3).free nz nzp) nzp
        (P8.nec nz) ?_ (pa.nodup_iff.mpr nd) fun i hi =>
          lt i (pa.mem_iff.mp hi)
      rw [upd_same, nV_app]
    · -- for k in range(_law_draw(pen, 14))
      refine ⟨_, rfl, p, c, n + 1 + 1, 14, rfl, by decide,
        b8 _ (by decide) (by decide), P3, by omega,
        fun H4 d k4 P4 d0 d1 => ?_⟩
      refine ⟨d, rfl, by omega, by omega, ?_⟩
      refine for_range (lo := 0) (n := d.toNat) (fun i σ H' =>
        ∃ (l : List Nat) (v3 v4 : Option V), σ = [some (.ref p),
          some (.int (low : Nat)), some (.ref fo), v3, v4] ∧
          Keep p H H' ∧ Pen H' p c (n + 3 + 2 * i) ∧
          H' fo = some (.lst (nV l)) ∧ l.Nodup ∧
          (∀ i ∈ l, i < 200) ∧ l.length ≤ i)
        ⟨[], none, none, rfl, k3'.trans k4, P4.mono (by omega),
          k4 _ _ g3 nfp, List.nodup_nil, fun _ h => (by cases h),
          Nat.le_refl _⟩ ?_ ?_
      · rintro i σ H' hi ⟨l, v3, v4, rfl, k5, P5, g5, nd, lt, ln⟩
        refine ⟨_, rfl, _, rfl, p, c, n + 3 + 2 * i, 200, rfl,
          by decide, b8 _ (by decide) (by decide), P5, by omega,
          fun H6 e k6 P6 e0 e1 => ⟨_, rfl, Nat.le_of_ble_eq_true rfl,
            fun a na => ⟨p, c, a, n + 3 + 2 * i + 1, _, rfl,
            .of upd_same, by show 0 < 4; decide,
            by show 4 ≤ 1000000; decide, P6.new na, by omega,
            fun H7 v k7 P7 mem => ?_⟩⟩⟩
        obtain ⟨s, rfl, s1⟩ : ∃ s : Nat, v = .int (s : Nat) ∧
            s < 200 := by
          simp only [List.mem_cons, List.not_mem_nil, or_false] at mem
          rcases mem with h | h | h | h
          · refine ⟨e.toNat, ?_, by omega⟩
            rw [h]; congr 1; omega
          · exact ⟨0, h, by omega⟩
          · exact ⟨199, h, by omega⟩
          · exact ⟨low, h, by omega⟩
        have k8 : Keep p H H7 := fun b o hb hbp =>
          k7 _ _ (upd_of na (k6 _ _ (k5 b o hb hbp) hbp)) hbp
        have g8 := k7 _ _ (upd_of na (k6 _ _ g5 nfp)) nfp
        refine ⟨_, rfl, _, rfl, fo, _, rfl, .inl (.of g8), rfl,
          flat_nat l, _, rfl, ?_⟩
        by_cases hm : s ∈ l
        · refine if' ?_ ?_
          · show (!inV (.int (s : Nat)) (nV l)) = false
            rw [inV_nat, decide_eq_true hm]; rfl
          · exact ⟨l, _, _, rfl, k8, P7.mono (by omega), g8, nd, lt,
              by omega⟩
        · refine it ?_ ?_
          · show (!inV (.int (s : Nat)) (nV l)) = true
            rw [inV_nat, decide_eq_false hm]; rfl
          · refine ⟨_, rfl, .inl ⟨rfl, _, .of g8⟩, _, rfl, fo, nV l,
              .int (s : Nat), rfl, rfl, g8, ?_, ?_⟩
            · rw [nV_len, sizeLine_eq]; omega
            · refine ⟨l ++ [s], _, _, rfl, ?_, ?_, ?_, ?_, ?_, ?_⟩
              · intro b o hb hbp
                rw [upd_ne (ne_of_none hb nfH)]; exact k8 b o hb hbp
              · exact (P7.set nfp nfc).mono (by omega)
              · rw [upd_same, nV_app]; rfl
              · rw [List.nodup_append]
                refine ⟨nd, List.pairwise_singleton _ _, ?_⟩
                intro x hx y hy z
                rw [List.mem_singleton] at hy
                subst hy; subst z
                exact hm hx
              · intro x hx
                rcases List.mem_append.mp hx with h | h
                · exact lt x h
                · rw [List.mem_singleton] at h
                  subst h; exact s1
              · rw [List.length_append, List.length_singleton]; omega
      · rintro σ H' ⟨l, v3, v4, rfl, k5, P5, g5, nd, lt, ln⟩
        refine ⟨_, rfl, ?_⟩
        exact q H' fo l k5 (P5.mono (by omega)) nfH nfp nfc g5 nd lt
end

/-! ### the law -/
theorem lt_bl {l : List Nat} {s : Nat} (h : s ∈ l) : s < bl (orP l) := by
  rcases Nat.lt_or_ge s (bl (orP l)) with h1 | h1
  · exact h1
  · exfalso
    have h2 := (PySem.intBits_le_iff (x := (orP l : Int))).mp h1
    have h3 := le_orP h
    have h4 : ((orP l : Nat) : Int).natAbs = orP l := rfl
    omega
theorem sum_pow : ∀ l : List Nat,
    (l.map fun i => (2 : Int) ^ i).sum = ((sumP l : Nat) : Int)
  | [] => rfl
  | s :: r => by
    rw [List.map_cons, List.sum_cons, sum_pow r, sumP,
      Int.natCast_add, PySem.W.kbt_cast]
def ci (l : List Nat) : List Int := l.map fun i : Nat => (i : Int)
theorem dpN {K : PySem.W.Frag} {H : Hp} {a : Addr} {l : List Nat}
    (h : SqL K H a (nV l)) :
    Dp K H (.ref a) (.list ((ci l).map PyData.int)) := by
  rw [nV_int] at h; exact dpL h
theorem sl_nats {l : List Nat} (h : ∀ i ∈ l, i < 1000)
    (hn : l.length ≤ 1000) :
    SL 1 (1000 * 1912 + 3) (.list ((ci l).map .int)) := by
  refine sl_ints ?_ (by unfold ci; rw [List.length_map]; exact hn)
  intro n hm
  obtain ⟨i, hi, rfl⟩ := List.mem_map.mp hm
  have := h i hi
  exact (BB.small (by omega)).mono (by decide)
theorem rg_nat (n : Nat) : rgV 0 (n : Int) = nV (List.range n) := by
  unfold rgV nV
  rw [show ((n : Int) - 0).toNat = n by omega]
  refine List.map_congr_left fun i _ => ?_
  show V.int (0 + (i : Int)) = V.int (i : Int)
  rw [Int.zero_add]
theorem nodup_le : ∀ (k : Nat) (l : List Nat), l.Nodup →
    (∀ i ∈ l, i < k) → l.length ≤ k
  | 0, [], _, _ => Nat.le_refl _
  | 0, x :: _, _, h => absurd (h x (List.mem_cons_self ..))
    (Nat.not_lt_zero _)
  | k + 1, l, nd, h => by
    by_cases hk : k ∈ l
    · have h1 := nodup_le k (l.erase k) (nd.erase k) fun i hi => by
        have h2 := (nd.mem_erase_iff).mp hi
        have h3 := h i h2.2
        omega
      rw [List.length_erase_of_mem hk] at h1
      omega
    · have h1 := nodup_le k l nd fun i hi => by
        have h3 := h i hi
        have h4 : i ≠ k := fun z => hk (z ▸ hi)
        omega
      omega
theorem nd_len {l : List Nat} (h : l.Nodup) (b : ∀ i ∈ l, i < 200) :
    l.length ≤ 200 := nodup_le 200 l h b
def spLaw (K : PySem.W.Frag) : Sp := fun vs H Q _ =>
  ∃ (a : Addr) (ns : List Int), vs = [.ref a] ∧
    SqL K H a (ns.map V.int) ∧ ns.length ≤ 63 ∧
    (∀ z ∈ ns, BB 1048576 z) ∧ ∀ H', Q (.bl true) H'
section
variable {P : Program} {w : World} {K : PySem.W.Frag}
variable {mg : Str → Option Value} {base : Heap}
theorem ok_law {f : Addr} {fd : FuncData}
    (F : Fun K "law" "law" s_law f fd) (Z : Zs mg)
    (D_pen : Dd P w K mg base "_law_pen" 1 ["script"] (spPen K))
    (D_draw : Dd P w K mg base "_law_draw" 1 ["pen", "many"] spDraw)
    (D_pick : Dd P w K mg base "_law_pick" 2 ["pen", "some"] (spPick K))
    (D_spots : Dd P w K mg base "_law_spots" 3 ["pen"] spSpots)
    (D_marks : Dd P w K mg base "marks" 1 ["number"] spMarks)
    (D_number_of : Dd P w K mg base "number_of" 1 ["places"]
      (spNumberOf K))
    (D_top : Dd P w K mg base "top" 1 ["number"] spTop) :
    FnG P w K mg base CX0 4 f fd ["script"] (spLaw K) := by
  refine fnG_of F sc_law (fun vs H Q E h => ?_)
    (fun cdv A outer s H vs Q E gd hr h => ?_)
  · obtain ⟨a, ns, rfl, _⟩ := h
    rfl
  · obtain ⟨a, ns, rfl, hs, hl, hb, q⟩ := h
    have hu := hu_of hr
    refine ⟨_, (pss_cons /- pen = _law_pen(script) -/ (ps_set (i := 1) sc_law.nd rfl (Or.inl rfl) (pe_d D_pen (hr.mono (by decide)) (by rfl) (pa_cons (pv 0) pa_nil)))
(pss_cons /- for turn in range(12): -/ (ps_for PassesOwn.never rfl (pi_range1 (by rfl) Z.range (pa_cons pe_int pa_nil)) (pg_name (i := 2) sc_law.nd rfl (Or.inl rfl))
(pss_cons /- spots = _law_spots(pen) -/ (ps_set (i := 3) sc_law.nd rfl (Or.inl rfl) (pe_d D_spots (hr.mono (by decide)) (by rfl) (pa_cons (pv 1) pa_nil)))
(C8.pss_cut /- if turn == 5: -/ (ps_if (pt_cmpR op_eq (pv 2) pe_int (nomark _))
(pss_one /- spots = list(range(200)) -/ (ps_set (i := 3) sc_law.nd rfl (Or.inl rfl) (pe_listRg rfl (by rfl) Z.list (prg_1 (by rfl) Z.range pe_int))))
pss_nil)
(pss_cons /- handed, due = (_law_pick(pen, [list(spots), tuple(spots)]), sorted(spots)) -/ (ps_par (i := 4) (j := 5) (by rfl) sc_law.nd rfl rfl (by decide) rfl rfl (pa_cons (pe_d D_pick (hr.mono (by decide)) (by rfl) (pa_cons (pv 1) (pa_cons (pe_lst (pa_cons (pe_callTy call_list_of (by rfl) Z.list (by decide +kernel) (pa_cons (pv 3) pa_nil)) (pa_cons (pe_callTy call_tuple_of (by rfl) Z.tuple (by decide +kernel) (pa_cons (pv 3) pa_nil)) pa_nil))) pa_nil))) (pa_cons (pe_callB cr_sortedI (by rfl) Z.sorted (by decide +kernel) (pa_cons (pv 3) pa_nil)) pa_nil)) (by rfl))
(pss_cons /- number = sum([1 << spot for spot in spots]) -/ (ps_set (i := 6) sc_law.nd rfl (Or.inl rfl) (pe_callB (cr_sum rfl) (by rfl) Z.sum (by decide +kernel) (pa_cons (pe_lc (own := [("spot", 7)]) (g := (gName 7)) (by rfl) sc_law.nd (pi_list (pv 3)) (blkOk_by (own := [("spot", 7)]) (N := N_law) (sc := defScope s_law) (by decide +kernel)) (fun _ _ _ _ _ => pg_name (i := 7) sc_law.nd rfl (Or.inl rfl)) (fun _ _ _ _ _ => pts_nil) (fun _ _ _ _ _ => (pe_op op_oneShl pe_int (pv 7)))) pa_nil)))
(pss_cons /- if repr(number_of(handed)) != repr(number) or list(handed) != spots: -/ (ps_if (PW.pt (pw_or (pt_cmpR op_ne (pe_callB (call_reprD gd hr.units) (by rfl) Z.repr (by decide +kernel) (pa_cons (pe_d D_number_of (hr.mono (by decide)) (by rfl) (pa_cons (pv 4) pa_nil)) pa_nil)) (pe_callB (call_reprD gd hr.units) (by rfl) Z.repr (by decide +kernel) (pa_cons (pv 6) pa_nil)) (nomark _)) (pw_or1 (pt_cmpR (op_neD hr.units) (pe_callTy call_list_of (by rfl) Z.list (by decide +kernel) (pa_cons (pv 4) pa_nil)) (pv 3) (nomark _)))))
(pss_one /- return False -/ (ps_ret pe_bl))
pss_nil)
(pss_cons /- for again in range(2): -/ (ps_for PassesOwn.never rfl (pi_range1 (by rfl) Z.range (pa_cons pe_int pa_nil)) (pg_name (i := 8) sc_law.nd rfl (Or.inl rfl))
(pss_cons /- told = marks(number) -/ (ps_set (i := 9) sc_law.nd rfl (Or.inl rfl) (pe_d D_marks (hr.mono (by decide)) (by rfl) (pa_cons (pv 6) pa_nil)))
(pss_cons /- if repr(told) != repr(due): -/ (ps_if (pt_cmpR op_ne (pe_callB (call_reprD gd hr.units) (by rfl) Z.repr (by decide +kernel) (pa_cons (pv 9) pa_nil)) (pe_callB (call_reprD gd hr.units) (by rfl) Z.repr (by decide +kernel) (pa_cons (pv 5) pa_nil)) (nomark _))
(pss_one /- return False -/ (ps_ret pe_bl))
pss_nil)
(pss_one /- told.append(None) -/ (ps_expr (pe_bm PySem.F.plainAttrs_list PySem.F.slot_list_append PySem.F.type_list_append mt_append (pv 9) (pa_cons pe_non pa_nil)))))))
(pss_one /- if repr(top(number)) != repr(max(due) if due != [] else None): -/ (ps_if (pt_cmpR op_ne (pe_callB (call_reprD gd hr.units) (by rfl) Z.repr (by decide +kernel) (pa_cons (pe_d D_top (hr.mono (by decide)) (by rfl) (pa_cons (pv 6) pa_nil)) pa_nil)) (pe_callB (call_reprD gd hr.units) (by rfl) Z.repr (by decide +kernel) (pa_cons (pe_ifExp (pt_cmpR (op_neD hr.units) (pv 5) (pe_lst pa_nil) (nomark _)) (pe_callB (cr_max rfl) (by rfl) Z.max (by decide +kernel) (pa_cons (pv 5) pa_nil)) pe_non) pa_nil)) (nomark _))
(pss_one /- return False -/ (ps_ret pe_bl))
pss_nil)))))))))
(pss_cons /- far = 200 + _law_draw(pen, 460) -/ (ps_set (i := 10) sc_law.nd rfl (Or.inl rfl) (pe_op op_add pe_int (pe_d D_draw (hr.mono (by decide)) (by rfl) (pa_cons (pv 1) (pa_cons pe_int pa_nil)))))
(pss_cons /- if repr([marks((1 << far) + 5), top((1 << far) + 5)]) != repr([[0, 2, far], far]): -/ (ps_if (pt_cmpR op_ne (pe_callB (call_reprD gd hr.units) (by rfl) Z.repr (by decide +kernel) (pa_cons (pe_lst (pa_cons (pe_d D_marks (hr.mono (by decide)) (by rfl) (pa_cons (pe_op op_add (pe_op op_oneShl pe_int (pv 10)) pe_int) pa_nil)) (pa_cons (pe_d D_top (hr.mono (by decide)) (by rfl) (pa_cons (pe_op op_add (pe_op op_oneShl pe_int (pv 10)) pe_int) pa_nil)) pa_nil))) pa_nil)) (pe_callB (call_reprD gd hr.units) (by rfl) Z.repr (by decide +kernel) (pa_cons (pe_lst (pa_cons (pe_lst (pa_cons pe_int (pa_cons pe_int (pa_cons (pv 10) pa_nil)))) (pa_cons (pv 10) pa_nil))) pa_nil)) (nomark _))
(pss_one /- return False -/ (ps_ret pe_bl))
pss_nil)
(pss_one /- return repr([marks(0), top(0), number_of([]), top(1), marks(11)]) == '[[], None, 0, 0, [0, 1, 3]]' -/ (ps_ret (pe_cmpR op_eq (pe_callB (call_reprD gd hr.units) (by rfl) Z.repr (by decide +kernel) (pa_cons (pe_lst (pa_cons (pe_d D_marks (hr.mono (by decide)) (by rfl) (pa_cons pe_int pa_nil)) (pa_cons (pe_d D_top (hr.mono (by decide)) (by rfl) (pa_cons pe_int pa_nil)) (pa_cons (pe_d D_number_of (hr.mono (by decide)) (by rfl) (pa_cons (pe_lst pa_nil) pa_nil)) (pa_cons (pe_d D_top (hr.mono (by decide)) (by rfl) (pa_cons pe_int pa_nil)) (pa_cons (pe_d D_marks (hr.mono (by decide)) (by rfl) (pa_cons pe_int pa_nil)) pa_nil)))))) pa_nil)) pe_str (nomark _)))))))), ?_⟩
    -- pen = _law_pen(script)
    refine ⟨_, rfl, a, ns, rfl, hs, hl, hb, fun H1 p c _ _ _ P1 => ?_⟩
    have b8 : ∀ m : Int, 0 ≤ m → m < 1000000 → BB 8000 m := fun m a b =>
      BB.mono (BB.small (by omega)) (by decide)
    -- for turn in range(12)
    refine ⟨12, rfl, by decide, by decide, ?_⟩
    refine for_range (lo := 0) (n := 12) (fun i σ H' =>
      ∃ v2 v3 v4 v5 v6 v7 v8 v9 v10, σ = [some (.ref a), some (.ref p),
        v2, v3, v4, v5, v6, v7, v8, v9, v10] ∧
        Pen H' p c (i * 10000000))
      ⟨none, none, none, none, none, none, none, none, none, rfl, P1⟩
      ?_ ?_
    · rintro i σ H2 hi ⟨v2, v3, v4, v5, v6, v7, v8, v9, v10, rfl, P2⟩
      -- spots = _law_spots(pen)
      refine ⟨_, rfl, p, c, _, rfl, P2, by omega,
        fun H3 q3 l3 _ P3 _ nqp3 nqc3 g3 nd3 lt3 => ?_⟩
      -- if turn == 5
      refine ⟨fun σ H4 => ∃ (q4 : Addr) (l : List Nat),
        σ = [some (.ref a), some (.ref p), some (.int (0 + (i : Int))),
          some (.ref q4), v4, v5, v6, v7, v8, v9, v10] ∧
        Pen H4 p c (i * 10000000 + 1000000) ∧ q4 ≠ p ∧
        H4 q4 = some (.lst (nV l)) ∧ l.Nodup ∧ ∀ i ∈ l, i < 200,
        ?_, ?_⟩
      · refine ⟨_, rfl, rfl, _, rfl, ite2 (fun _ => ?_) (fun _ => ?_)⟩
        · refine ⟨200, rfl, RgOk.of_le (by decide) (by decide)
            (by decide) (by decide), fun r nr => ?_⟩
          refine ⟨r, List.range 200, rfl, P3.new nr, P3.nep nr, ?_,
            List.nodup_range, fun i h => List.mem_range.mp h⟩
          rw [upd_same]; exact congrArg (fun z => some (HO.lst z)) (rg_nat 200)
        · exact ⟨q3, l3, rfl, P3, nqp3, g3, nd3, lt3⟩
      · rintro σ H4 ⟨q4, l, rfl, P4, nqp, g4, nd, lt⟩
        have ln := nd_len nd lt
        have lo : orP l < 2 ^ 200 := lt_orP lt
        obtain ⟨kk, hp4⟩ := P4.p
        -- handed, due = ..
        refine ⟨_, rfl, _, rfl, q4, nV l, rfl, .inl (.of g4),
          fun l1 nl1 => ?_⟩
        have g5 := upd_of (o := .lst (nV l)) nl1 g4
        have P5 := P4.new (o := .lst (nV l)) nl1
        have f5 : (upd H4 l1 (.lst (nV l))) l1 = some (.lst (nV l)) :=
          upd_same
        generalize upd H4 l1 (.lst (nV l)) = H5 at g5 P5 f5 ⊢
        refine ⟨_, rfl, q4, nV l, rfl, .inl ⟨.of g5, fun t1 nt1 => ?_⟩⟩
        have g6 := upd_of (o := .tup (nV l)) nt1 g5
        have f6 := upd_of (o := .tup (nV l)) nt1 f5
        have P6 := P5.new (o := .tup (nV l)) nt1
        have t6 : (upd H5 t1 (.tup (nV l))) t1 = some (.tup (nV l)) :=
          upd_same
        have nl1p := P6.nel f6
        have nt1p : t1 ≠ p := P5.nep nt1
        generalize upd H5 t1 (.tup (nV l)) = H6 at g6 f6 P6 t6 ⊢
        refine ⟨by show 2 ≤ sizeLine; decide, fun a7 na7 => ?_⟩
        refine ⟨p, c, a7, _, _, rfl, .of upd_same, by show 0 < 2; decide,
          by show 2 ≤ 1000000; decide, P6.new na7, by omega,
          fun H8 v k8 P8 mem => ?_⟩
        have g8 := k8 _ _ (upd_of na7 g6) nqp
        have f8 := k8 _ _ (upd_of na7 f6) nl1p
        have t8 := k8 _ _ (upd_of na7 t6) nt1p
        obtain ⟨ha, rfl, hh⟩ : ∃ ha, v = .ref ha ∧
            (H8 ha = some (.lst (nV l)) ∨
              H8 ha = some (.tup (nV l))) := by
          simp only [List.mem_cons, List.not_mem_nil, or_false] at mem
          rcases mem with h | h
          · exact ⟨l1, h, .inl f8⟩
          · exact ⟨t1, h, .inr t8⟩
        refine ⟨_, rfl, q4, ci l, rfl, .of (g8.trans (by
          rw [nV_int]; rfl)), fun ds dd pm srt nd9 => ?_⟩
        obtain ⟨m, rfl, pm'⟩ := perm_cast pm
        have srt' : m.Pairwise (· < ·) := by
          have h1 : m.Pairwise (· ≤ ·) := by
            rw [List.pairwise_map] at srt
            refine srt.imp ?_
            intro x y h
            omega
          have h2 : m.Pairwise (· ≠ ·) := pm'.nodup_iff.mpr nd
          refine (h1.and h2).imp ?_
          intro x y h
          omega
        have mm : ∀ i, i ∈ m ↔ i ∈ l := fun i => pm'.mem_iff
        have hmk : mk (orP l) (bl (orP l)) = m :=
          mk_orP (fun s h => lt_bl h) srt' mm
        have g9 := upd_of (o := .lst ((m.map fun i : Nat =>
          (i : Int)).map V.int)) nd9 g8
        have P9 := P8.new (o := .lst ((m.map fun i : Nat =>
          (i : Int)).map V.int)) nd9
        have hh9 : (upd H8 dd (.lst ((m.map fun i : Nat =>
            (i : Int)).map V.int))) ha = some (.lst (nV l)) ∨
            (upd H8 dd (.lst ((m.map fun i : Nat =>
            (i : Int)).map V.int))) ha = some (.tup (nV l)) :=
          hh.imp (upd_of nd9) (upd_of nd9)
        have d9 : (upd H8 dd (.lst ((m.map fun i : Nat =>
            (i : Int)).map V.int))) dd = some (.lst (nV m)) := by
          rw [upd_same, nV_int]
        refine ⟨_, _, rfl, ?_⟩
        generalize upd H8 dd (.lst ((m.map fun i : Nat =>
          (i : Int)).map V.int)) = H9 at g9 P9 hh9 d9 ⊢
        -- number = sum(..)
        refine ⟨_, rfl, q4, rfl, ⟨_, .of g9⟩, fun D nD => ?_⟩
        refine lc_list (K := K) (a := q4) (xs := nV l)
          (fun i H' => Same H9 H' ∧ H' D = some (.lst
            (((l.take i).map fun i => (2 : Int) ^ i).map V.int)))
          ⟨same_new (Same.refl _) nD, upd_same⟩ ?_ ?_ ?_
        · rintro i H' _ ⟨h1, _⟩
          exact .of (h1 _ _ g9)
        · rintro i x H' hx ⟨h1, h2⟩
          obtain ⟨z, e1, rfl⟩ := map_get hx
          have hz := lt z (List.mem_of_getElem? e1)
          refine ⟨rfl, _, rfl, z, rfl, rfl, by omega, _, h2, ?_, ?_, ?_⟩
          · rw [List.length_map, List.length_map, List.length_take,
              sizeLine_eq]
            omega
          · intro b o hb'
            rw [upd_ne (ne_of_none hb' nD)]; exact h1 b o hb'
          · rw [upd_same, List.take_add_one, e1, List.map_append,
              List.map_append]
            rfl
        · rintro H10 ⟨s10, h10⟩
          rw [nV_len, List.take_length] at h10
          refine ⟨D, _, rfl, .of h10, ?_⟩
          rw [sum_pow, sumP_or nd]
          have g10 := s10 _ _ g9
          have d10 := s10 _ _ d9
          have P10 := P9.same s10
          have hh10 : H10 ha = some (.lst (nV l)) ∨
            H10 ha = some (.tup (nV l)) :=
            hh9.imp (s10 _ _) (s10 _ _)
          have hsq : SqL K H10 ha (nV l) ∨ SqT K H10 ha (nV l) :=
            hh10.imp SqL.of SqT.of
          have bN : BB 1900 ((orP l : Nat) : Int) := by
            have : BB 200 ((orP l : Nat) : Int) := lo
            exact this.mono (by decide)
          obtain ⟨a1, a2, a3, a4⟩ := (sl_int bN).ok (by decide)
            (by decide)
          -- repr(number_of(handed)) != repr(number) or ..
          refine ⟨_, rfl, ha, l, rfl, hsq, fun i h => by
            have := lt i h; omega, ?_⟩
          refine ⟨_, .int (orP l : Nat), rfl, .int _, a1, a2, a3, a4,
            _, rfl, _, .int (orP l : Nat), rfl, .int _, a1, a2, a3, a4,
            rfl, _, rfl, iteNS rfl ?_⟩
          refine ⟨_, rfl, ha, nV l, rfl, hsq, fun l2 nl2 => ?_⟩
          refine ⟨_, rfl, .list ((ci l).map .int), .list ((ci l).map .int),
            dpN (.of upd_same), dpN (.of (upd_of nl2 g10)), shapedL _,
            shapedL _, _, rfl, ?_⟩
          refine if' (by rw [eqvL, decide_eq_true rfl]; rfl) ?_
          have d11 := upd_of (o := .lst (nV l)) nl2 d10
          have P11 := P10.new (o := .lst (nV l)) nl2
          generalize upd H10 l2 (.lst (nV l)) = H11 at d11 P11 ⊢
          -- for again in range(2)
          have ltm : ∀ i ∈ m, i < 1000 := fun i h => by
            have := lt i ((mm i).mp h); omega
          have lnm : m.length ≤ 1000 := by
            have := pm'.length_eq; omega
          obtain ⟨c1, c2, c3, c4⟩ := (sl_nats ltm lnm).ok (by decide)
            (by decide)
          refine ⟨2, rfl, by decide, by decide, ?_⟩
          refine for_range (lo := 0) (n := 2) (fun j σ H' =>
            ∃ w7 w8 w9, σ = [some (.ref a), some (.ref p),
              some (.int (0 + (i : Int))), some (.ref q4),
              some (.ref ha), some (.ref dd),
              some (.int ((orP l : Nat) : Int)), w7, w8, w9, v10] ∧
              H' dd = some (.lst (nV m)) ∧
              Pen H' p c (i * 10000000 + 1000001))
            ⟨_, _, _, rfl, d11, P11.mono (by omega)⟩ ?_ ?_
          · rintro j σ H12 hj ⟨w7, w8, w9, rfl, d12, P12⟩
            refine ⟨_, rfl, orP l, rfl, ?_, fun H13 t s13 nt h13 => ?_⟩
            · have := bl_le lo
              omega
            rw [hmk] at h13
            have d13 := s13 _ _ d12
            have ndt : dd ≠ t := ne_of_none d12 nt
            refine ⟨_, rfl, _, .list ((ci m).map .int), rfl,
              dpN (.of h13), c1, c2, c3, c4, _, rfl, _,
              .list ((ci m).map .int), rfl, dpN (.of d13), c1, c2, c3,
              c4, rfl, _, rfl, iteNS rfl ?_⟩
            refine ⟨_, rfl, .inl ⟨rfl, _, .of h13⟩, t, nV m, .non, rfl,
              rfl, h13, ?_, ?_⟩
            · rw [nV_len, sizeLine_eq]; omega
            · refine ⟨_, _, _, rfl, ?_, ?_⟩
              · rw [upd_ne ndt]; exact d13
              · exact (P12.same s13).set (P12.nep nt) (P12.nec nt)
          · rintro σ H12 ⟨w7, w8, w9, rfl, d12, P12⟩
            -- repr(top(number)) != repr(..)
            refine ⟨_, rfl, orP l, rfl, ?_⟩
            by_cases hl0 : l = []
            · subst hl0
              have m0 : m = [] := pm'.eq_nil
              subst m0
              obtain ⟨e1, e2, e3, e4⟩ := sl_none.ok (by decide)
                (by decide)
              refine ⟨_, .none, rfl, .non, e1, e2, e3, e4, ?_⟩
              refine ⟨_, rfl, Nat.zero_le _, fun e ne => ?_⟩
              refine ⟨.list ((ci []).map .int),
                .list (([] : List Int).map .int),
                dpN (.of (upd_of ne d12)), dpL (.of upd_same),
                shapedL _, shapedL [], _, rfl, ?_⟩
              refine if' (by rw [eqvL]; rfl) ?_
              refine ⟨_, .none, rfl, .non, e1, e2, e3, e4, rfl, _, rfl,
                iteNS rfl ?_⟩
              exact ⟨_, _, _, _, _, _, _, _, _, rfl,
                (P12.new ne).mono (by omega)⟩
            · have m0 : m ≠ [] := fun z => by
                subst z
                exact hl0 pm'.symm.eq_nil
              have nz : orP l ≠ 0 := by
                obtain ⟨s, hs'⟩ := List.exists_mem_of_ne_nil l hl0
                have := le_orP hs'
                have := Nat.two_pow_pos s
                omega
              have tv : topV (orP l) =
                  .int ((bl (orP l) : Int) - 1) := if_neg nz
              rw [tv]
              have bb : bl (orP l) ≤ 200 := bl_le lo
              obtain ⟨e1, e2, e3, e4⟩ := (sl_int
                (i := (bl (orP l) : Int) - 1)
                ((BB.small (by omega)).mono (by decide))).ok (by decide)
                (by decide)
              refine ⟨_, .int ((bl (orP l) : Int) - 1), rfl, .int _,
                e1, e2, e3, e4, ?_⟩
              refine ⟨_, rfl, Nat.zero_le _, fun e ne => ?_⟩
              refine ⟨.list ((ci m).map .int),
                .list (([] : List Int).map .int),
                dpN (.of (upd_of ne d12)), dpL (.of upd_same),
                shapedL _, shapedL [], _, rfl, ?_⟩
              have m1 : ¬ (ci m = []) := fun z => m0
                (List.map_eq_nil_iff.mp z)
              refine it (by rw [eqvL, decide_eq_false m1]; rfl) ?_
              refine ⟨_, rfl, dd, ci m, rfl, .of ((upd_of ne d12).trans
                (by rw [nV_int]; rfl)), ?_, fun mx hmx hall => ?_⟩
              · unfold ci
                rw [List.length_map]
                exact List.length_pos_iff.mpr m0
              have emx : mx = (bl (orP l) : Int) - 1 := by
                obtain ⟨x, hx, rfl⟩ := List.mem_map.mp hmx
                have h1 := lt_bl ((mm x).mp hx)
                have h2 : bl (orP l) ≤ x + 1 := by
                  refine bl_le (lt_orP fun s hs' => ?_)
                  have h3 := hall (s : Int) (List.mem_map.mpr
                    ⟨s, (mm s).mpr hs', rfl⟩)
                  omega
                omega
              subst emx
              refine ⟨_, .int ((bl (orP l) : Int) - 1), rfl, .int _,
                e1, e2, e3, e4, rfl, _, rfl, iteNS rfl ?_⟩
              exact ⟨_, _, _, _, _, _, _, _, _, rfl,
                (P12.new ne).mono (by omega)⟩
    · rintro σ H2 ⟨v2, v3, v4, v5, v6, v7, v8, v9, v10, rfl, P2⟩
      -- far = 200 + _law_draw(pen, 460)
      refine ⟨_, rfl, p, c, _, 460, rfl, by decide,
        b8 _ (by decide) (by decide), P2, by omega,
        fun H3 d k3 P3 d0 d1 => ⟨_, _, rfl, rfl, ?_⟩⟩
      obtain ⟨far, hfar, e0, e1⟩ : ∃ far : Nat, 200 + d = (far : Int) ∧
          200 ≤ far ∧ far < 660 := ⟨(200 + d).toNat, by omega, by omega,
          by omega⟩
      simp only [hfar]
      have eN : (2 : Int) ^ far + 5 = ((2 ^ far + 5 : Nat) : Int) := by
        rw [Int.natCast_add, PySem.W.kbt_cast]; rfl
      have eO := orP3 far (by omega)
      have lt3 : ∀ s ∈ [0, 2, far], s < 1000 := by
        intro s hs'
        simp only [List.mem_cons, List.not_mem_nil, or_false] at hs'
        omega
      have eM : mk (2 ^ far + 5) (bl (2 ^ far + 5)) = [0, 2, far] := by
        rw [← eO]
        refine mk_orP (fun s h => lt_bl h) ?_ fun i => Iff.rfl
        simp
        omega
      have eB : bl (2 ^ far + 5) = far + 1 := by
        have h1 : far < bl (orP [0, 2, far]) :=
          lt_bl (by simp)
        have h2 : bl (orP [0, 2, far]) ≤ far + 1 := by
          refine bl_le (lt_orP fun s hs' => ?_)
          simp only [List.mem_cons, List.not_mem_nil, or_false] at hs'
          omega
        rw [eO] at h1 h2
        omega
      have eT : topV (2 ^ far + 5) = .int (far : Int) := by
        have e2 : ((bl (2 ^ far + 5) : Nat) : Int) - 1 = (far : Int) := by
          rw [eB]; omega
        unfold topV
        rw [if_neg (Nat.succ_ne_zero (2 ^ far + 4)), e2]
      obtain ⟨c1, c2, c3, c4⟩ : PyData.showable (.list [.list ((ci
          [0, 2, far]).map .int), .int (far : Int)]) = true ∧ _ ∧ _ ∧ _ :=
        (sld_list (D := 1) (L := 1000 * 1912 + 3) (N := 2) (xs := [.list
          ((ci [0, 2, far]).map .int), .int (far : Int)]) (by
          intro x hx
          simp only [List.mem_cons, List.not_mem_nil, or_false] at hx
          rcases hx with h | h
          · rw [h]; exact sl_nats lt3 (by show 3 ≤ 1000; decide)
          · rw [h]
            exact (sl_int ((BB.small (by omega)).mono (by decide))).mono
              (by decide) (by decide)) (Nat.le_refl _)).ok (by decide)
          (by decide)
      -- repr([marks(..), top(..)])
      refine ⟨_, rfl, far, rfl, rfl, by omega, _, _, rfl, rfl,
        2 ^ far + 5, congrArg (fun z => [V.int z]) eN, ?_,
        fun H4 q4 s4 nq4 h4 => ?_⟩
      · rw [eB]; omega
      rw [eM] at h4
      refine ⟨_, rfl, far, rfl, rfl, by omega, _, _, rfl, rfl,
        2 ^ far + 5, congrArg (fun z => [V.int z]) eN, ?_⟩
      rw [eT]
      refine ⟨by show 2 ≤ sizeLine; decide, fun p5 np5 => ?_⟩
      refine ⟨_, .list [.list ((ci [0, 2, far]).map .int),
        .int (far : Int)], rfl, .lst (.of upd_same) (.cons (dpN (.of
        (upd_of np5 h4))) (.cons (.int _) .nil)), c1, c2, c3, c4, ?_⟩
      refine ⟨_, rfl, by show 3 ≤ sizeLine; decide, fun p6 np6 =>
        ⟨_, rfl, by show 2 ≤ sizeLine; decide, fun p7 np7 => ?_⟩⟩
      refine ⟨_, .list [.list ((ci [0, 2, far]).map .int),
        .int (far : Int)], rfl, .lst (.of upd_same) (.cons (dpN (l :=
        [0, 2, far]) (.of (upd_of np7 upd_same))) (.cons (.int _) .nil)),
        c1, c2, c3, c4, rfl, _, rfl, iteNS rfl ?_⟩
      -- the last row
      refine ⟨0, rfl, by decide +kernel, fun H8 q8 s8 nq8 h8 => ?_⟩
      refine ⟨0, rfl, ?_⟩
      refine ⟨Nat.zero_le _, fun q9 nq9 => ⟨q9, [], rfl,
        .inl (.of upd_same), (fun i h => nomatch h), ?_⟩⟩
      refine ⟨1, rfl, ?_⟩
      refine ⟨11, rfl, by decide +kernel, fun H10 q10 s10 nq10 h10 => ?_⟩
      refine ⟨by show 5 ≤ sizeLine; decide, fun q11 nq11 => ?_⟩
      have e8 : mk 0 (bl 0) = [] := by decide +kernel
      have e10 : mk 11 (bl 11) = [0, 1, 3] := by decide +kernel
      rw [e10] at h10
      rw [e8] at h8
      have t0 : topV 0 = .non := rfl
      have t1 : topV 1 = .int 0 := by decide +kernel
      refine ⟨_, .list [.list ((ci []).map .int), .none, .int 0, .int 0,
        .list ((ci [0, 1, 3]).map .int)], rfl, ?_, by decide +kernel,
        by decide +kernel, by decide +kernel, by decide +kernel, ?_⟩
      · refine .lst (.of upd_same) (.cons (dpN (l := []) (.of
          (upd_of nq11 (s10 _ _ (upd_of nq9 h8))))) (.cons ?_ (.cons
          (.int _) (.cons ?_ (.cons (dpN (l := [0, 1, 3]) (.of
          (upd_of nq11 h10))) .nil)))))
        · exact .non
        · rw [t1]; exact .int 0
      · refine ⟨rfl, ?_⟩
        rw [decide_eq_true (by decide +kernel)]
        exact q _
end

/-! ### what the top has written, and the end -/
theorem all_mk {l : PySem.W.OpenLaw} {w : World} {K : PySem.W.Frag}
    {h : Heap} {mg : Str → Option Value} {fa : Addr} (X : K.In h)
    (G : h.Ns mainGlobals mg) (hfa : mg "law" = some (.ref fa))
    {od0 an0 : Option Addr} {sl0 : Array (Option Value)} {oc0 kV0 dc0 pm0 cd0 ct0 : Value} {f0 : Addr}
    {od1 an1 : Option Addr} {sl1 : Array (Option Value)} {oc1 kV1 dc1 pm1 cd1 ct1 : Value} {f1 : Addr}
    {od2 an2 : Option Addr} {sl2 : Array (Option Value)} {oc2 kV2 dc2 pm2 cd2 ct2 : Value} {f2 : Addr}
    {od3 an3 : Option Addr} {sl3 : Array (Option Value)} {oc3 kV3 dc3 pm3 cd3 ct3 : Value} {f3 : Addr}
    {od4 an4 : Option Addr} {sl4 : Array (Option Value)} {oc4 kV4 dc4 pm4 cd4 ct4 : Value} {f4 : Addr}
    {od5 an5 : Option Addr} {sl5 : Array (Option Value)} {oc5 kV5 dc5 pm5 cd5 ct5 : Value} {f5 : Addr}
    {od6 an6 : Option Addr} {sl6 : Array (Option Value)} {oc6 kV6 dc6 pm6 cd6 ct6 : Value} {f6 : Addr}
    {od7 an7 : Option Addr} {sl7 : Array (Option Value)} {oc7 kV7 dc7 pm7 cd7 ct7 : Value} {f7 : Addr}
    {od8 an8 : Option Addr} {sl8 : Array (Option Value)} {oc8 kV8 dc8 pm8 cd8 ct8 : Value} {f8 : Addr}
    (a0 : PySem.W.nsIn K mainGlobals "marks" =
      some (some (.ref f0)))
    (l0 : K.lookup f0 = some ⟨oc0, od0, .func (PySem.W.fnOf "marks"
      "marks" (defArgs s_marks) (defBody s_marks) (defScope s_marks) .none kV0
      dc0 pm0 an0 cd0 ct0), sl0⟩)
    (c0 : PySem.W.codeIn K cd0 "marks" = true)
    (k0 : PySem.W.keepIn K (.ref f0) = true)
    (a1 : PySem.W.nsIn K mainGlobals "number_of" =
      some (some (.ref f1)))
    (l1 : K.lookup f1 = some ⟨oc1, od1, .func (PySem.W.fnOf "number_of"
      "number_of" (defArgs s_number_of) (defBody s_number_of) (defScope s_number_of) .none kV1
      dc1 pm1 an1 cd1 ct1), sl1⟩)
    (c1 : PySem.W.codeIn K cd1 "number_of" = true)
    (k1 : PySem.W.keepIn K (.ref f1) = true)
    (a2 : PySem.W.nsIn K mainGlobals "top" =
      some (some (.ref f2)))
    (l2 : K.lookup f2 = some ⟨oc2, od2, .func (PySem.W.fnOf "top"
      "top" (defArgs s_top) (defBody s_top) (defScope s_top) .none kV2
      dc2 pm2 an2 cd2 ct2), sl2⟩)
    (c2 : PySem.W.codeIn K cd2 "top" = true)
    (k2 : PySem.W.keepIn K (.ref f2) = true)
    (a3 : PySem.W.nsIn K mainGlobals "_law_draw" =
      some (some (.ref f3)))
    (l3 : K.lookup f3 = some ⟨oc3, od3, .func (PySem.W.fnOf "_law_draw"
      "_law_draw" (defArgs s_draw) (defBody s_draw) (defScope s_draw) .none kV3
      dc3 pm3 an3 cd3 ct3), sl3⟩)
    (c3 : PySem.W.codeIn K cd3 "_law_draw" = true)
    (k3 : PySem.W.keepIn K (.ref f3) = true)
    (a4 : PySem.W.nsIn K mainGlobals "_law_pen" =
      some (some (.ref f4)))
    (l4 : K.lookup f4 = some ⟨oc4, od4, .func (PySem.W.fnOf "_law_pen"
      "_law_pen" (defArgs s_pen) (defBody s_pen) (defScope s_pen) .none kV4
      dc4 pm4 an4 cd4 ct4), sl4⟩)
    (c4 : PySem.W.codeIn K cd4 "_law_pen" = true)
    (k4 : PySem.W.keepIn K (.ref f4) = true)
    (a5 : PySem.W.nsIn K mainGlobals "_law_pick" =
      some (some (.ref f5)))
    (l5 : K.lookup f5 = some ⟨oc5, od5, .func (PySem.W.fnOf "_law_pick"
      "_law_pick" (defArgs s_pick) (defBody s_pick) (defScope s_pick) .none kV5
      dc5 pm5 an5 cd5 ct5), sl5⟩)
    (c5 : PySem.W.codeIn K cd5 "_law_pick" = true)
    (k5 : PySem.W.keepIn K (.ref f5) = true)
    (a6 : PySem.W.nsIn K mainGlobals "_law_shuffled" =
      some (some (.ref f6)))
    (l6 : K.lookup f6 = some ⟨oc6, od6, .func (PySem.W.fnOf "_law_shuffled"
      "_law_shuffled" (defArgs s_shuffled) (defBody s_shuffled) (defScope s_shuffled) .none kV6
      dc6 pm6 an6 cd6 ct6), sl6⟩)
    (c6 : PySem.W.codeIn K cd6 "_law_shuffled" = true)
    (k6 : PySem.W.keepIn K (.ref f6) = true)
    (a7 : PySem.W.nsIn K mainGlobals "_law_spots" =
      some (some (.ref f7)))
    (l7 : K.lookup f7 = some ⟨oc7, od7, .func (PySem.W.fnOf "_law_spots"
      "_law_spots" (defArgs s_spots) (defBody s_spots) (defScope s_spots) .none kV7
      dc7 pm7 an7 cd7 ct7), sl7⟩)
    (c7 : PySem.W.codeIn K cd7 "_law_spots" = true)
    (k7 : PySem.W.keepIn K (.ref f7) = true)
    (a8 : PySem.W.nsIn K mainGlobals "law" =
      some (some (.ref f8)))
    (l8 : K.lookup f8 = some ⟨oc8, od8, .func (PySem.W.fnOf "law"
      "law" (defArgs s_law) (defBody s_law) (defScope s_law) .none kV8
      dc8 pm8 an8 cd8 ct8), sl8⟩)
    (c8 : PySem.W.codeIn K cd8 "law" = true)
    (k8 : PySem.W.keepIn K (.ref f8) = true)
    (z_abs : PySem.W.nsIn K mainGlobals "abs" = some none)
    (z_len : PySem.W.nsIn K mainGlobals "len" = some none)
    (z_list : PySem.W.nsIn K mainGlobals "list" = some none)
    (z_max : PySem.W.nsIn K mainGlobals "max" = some none)
    (z_min : PySem.W.nsIn K mainGlobals "min" = some none)
    (z_range : PySem.W.nsIn K mainGlobals "range" = some none)
    (z_repr : PySem.W.nsIn K mainGlobals "repr" = some none)
    (z_sorted : PySem.W.nsIn K mainGlobals "sorted" = some none)
    (z_sum : PySem.W.nsIn K mainGlobals "sum" = some none)
    (z_tuple : PySem.W.nsIn K mainGlobals "tuple" = some none) :
    ∃ fd : FuncData, (∀ (s : Shared) (v : Value),
      BindsTo s fd ⟨[v], []⟩ [("script", v)]) ∧
    ∀ base : Heap, K.In base → base.Ns mainGlobals mg →
      FnG l.prog w K mg base CX0 4 fa fd ["script"] (spLaw K) := by
  have e := hfa.symm.trans (PySem.W.mg_of X G a8)
  cases e
  have Z : Zs mg := ⟨PySem.W.mg_none_of X G z_abs,
    PySem.W.mg_none_of X G z_len,
    PySem.W.mg_none_of X G z_list,
    PySem.W.mg_none_of X G z_max,
    PySem.W.mg_none_of X G z_min,
    PySem.W.mg_none_of X G z_range,
    PySem.W.mg_none_of X G z_repr,
    PySem.W.mg_none_of X G z_sorted,
    PySem.W.mg_none_of X G z_sum,
    PySem.W.mg_none_of X G z_tuple⟩
  have F0 := fun_mk (st := s_marks) l0 c0 k0
  have b0 := F0.binds (ps := ["number"])
    fun _ _ _ _ _ _ us hl =>
      match us, hl with | [_], _ => rfl
  have F1 := fun_mk (st := s_number_of) l1 c1 k1
  have b1 := F1.binds (ps := ["places"])
    fun _ _ _ _ _ _ us hl =>
      match us, hl with | [_], _ => rfl
  have F2 := fun_mk (st := s_top) l2 c2 k2
  have b2 := F2.binds (ps := ["number"])
    fun _ _ _ _ _ _ us hl =>
      match us, hl with | [_], _ => rfl
  have F3 := fun_mk (st := s_draw) l3 c3 k3
  have b3 := F3.binds (ps := ["pen", "many"])
    fun _ _ _ _ _ _ us hl =>
      match us, hl with | [_, _], _ => rfl
  have F4 := fun_mk (st := s_pen) l4 c4 k4
  have b4 := F4.binds (ps := ["script"])
    fun _ _ _ _ _ _ us hl =>
      match us, hl with | [_], _ => rfl
  have F5 := fun_mk (st := s_pick) l5 c5 k5
  have b5 := F5.binds (ps := ["pen", "some"])
    fun _ _ _ _ _ _ us hl =>
      match us, hl with | [_, _], _ => rfl
  have F6 := fun_mk (st := s_shuffled) l6 c6 k6
  have b6 := F6.binds (ps := ["pen", "some"])
    fun _ _ _ _ _ _ us hl =>
      match us, hl with | [_, _], _ => rfl
  have F7 := fun_mk (st := s_spots) l7 c7 k7
  have b7 := F7.binds (ps := ["pen"])
    fun _ _ _ _ _ _ us hl =>
      match us, hl with | [_], _ => rfl
  have F8 := fun_mk (st := s_law) l8 c8 k8
  refine ⟨PySem.W.fnOf "law" "law" (defArgs s_law) (defBody s_law)
    (defScope s_law) .none kV8 dc8 pm8 an8 cd8 ct8,
    fun s v => .of_eq rfl, fun base _ _ => ?_⟩
  have D_marks : Dd l.prog w K mg base "marks" 1 ["number"] spMarks :=
    ⟨_, _, PySem.W.mg_of X G a0, k0, b0, ok_marks F0 Z⟩
  have D_number_of : Dd l.prog w K mg base "number_of" 1 ["places"] (spNumberOf K) :=
    ⟨_, _, PySem.W.mg_of X G a1, k1, b1, ok_number_of F1 Z⟩
  have D_top : Dd l.prog w K mg base "top" 1 ["number"] spTop :=
    ⟨_, _, PySem.W.mg_of X G a2, k2, b2, ok_top F2 Z⟩
  have D_draw : Dd l.prog w K mg base "_law_draw" 1 ["pen", "many"] spDraw :=
    ⟨_, _, PySem.W.mg_of X G a3, k3, b3, ok_draw F3 Z⟩
  have D_pen : Dd l.prog w K mg base "_law_pen" 1 ["script"] (spPen K) :=
    ⟨_, _, PySem.W.mg_of X G a4, k4, b4, ok_pen F4 Z⟩
  have D_pick : Dd l.prog w K mg base "_law_pick" 2 ["pen", "some"] (spPick K) :=
    ⟨_, _, PySem.W.mg_of X G a5, k5, b5, ok_pick F5 Z D_draw⟩
  have D_shuffled : Dd l.prog w K mg base "_law_shuffled" 2 ["pen", "some"] (spShuffled K) :=
    ⟨_, _, PySem.W.mg_of X G a6, k6, b6, ok_shuffled F6 Z D_draw⟩
  have D_spots : Dd l.prog w K mg base "_law_spots" 3 ["pen"] spSpots :=
    ⟨_, _, PySem.W.mg_of X G a7, k7, b7, ok_spots F7 Z D_draw D_pick D_shuffled⟩
  exact ok_law F8 Z D_pen D_draw D_pick D_spots D_marks D_number_of D_top
end My
open PySem PySem.W PyProof.Rows
set_option maxRecDepth 100000 in
set_option maxHeartbeats 0 in
theorem PySem.Challenge.cw_firstbooks_k25_marks_and_numbers_holds : PySem.Challenge.rw_firstbooks_k25_marks_and_numbers.Holds := by
  w_on; o_law; k_head; (case hw => w_witness2)
  k_fill
  refine My.walkG (l := PySem.Challenge.rw_firstbooks_k25_marks_and_numbers) (n := 63) (k := 4)
    (x := "script") (CX := fun _ => L2.CX0) (sp := fun w => My.spLaw _)
    rfl (by decide) rfl ⟨rfl, by decide, by decide⟩
    (fun w h Y => PySem.W.kIn_of Y) ?F
    (fun w H a ns hl hb _ hS => ⟨a, ns, rfl, hS, hl,
      fun z hz => My.BB.of_bits (hb z hz), fun _ => rfl⟩)
    (fun _ _ _ _ _ h => h)
  case F =>
    intro w mg fa h KX G hmg
    refine' My.all_mk KX G hmg ?a0 ?l0 ?c0 ?k0 ?a1 ?l1 ?c1 ?k1 ?a2 ?l2
      ?c2 ?k2 ?a3 ?l3 ?c3 ?k3 ?a4 ?l4 ?c4 ?k4
      ?a5 ?l5 ?c5 ?k5 ?a6 ?l6 ?c6 ?k6 ?a7 ?l7
      ?c7 ?k7 ?a8 ?l8 ?c8 ?k8 ?z_abs ?z_len ?z_list ?z_max
      ?z_min ?z_range ?z_repr ?z_sorted ?z_sum ?z_tuple
    (case a0 => k_is)
    (case l0 => k_is)
    (case c0 => k_is)
    (case k0 => k_is)
    (case a1 => k_is)
    (case l1 => k_is)
    (case c1 => k_is)
    (case k1 => k_is)
    (case a2 => k_is)
    (case l2 => k_is)
    (case c2 => k_is)
    (case k2 => k_is)
    (case a3 => k_is)
    (case l3 => k_is)
    (case c3 => k_is)
    (case k3 => k_is)
    (case a4 => k_is)
    (case l4 => k_is)
    (case c4 => k_is)
    (case k4 => k_is)
    (case a5 => k_is)
    (case l5 => k_is)
    (case c5 => k_is)
    (case k5 => k_is)
    (case a6 => k_is)
    (case l6 => k_is)
    (case c6 => k_is)
    (case k6 => k_is)
    (case a7 => k_is)
    (case l7 => k_is)
    (case c7 => k_is)
    (case k7 => k_is)
    (case a8 => k_is)
    (case l8 => k_is)
    (case c8 => k_is)
    (case k8 => k_is)
    (case z_abs => k_is)
    (case z_len => k_is)
    (case z_list => k_is)
    (case z_max => k_is)
    (case z_min => k_is)
    (case z_range => k_is)
    (case z_repr => k_is)
    (case z_sorted => k_is)
    (case z_sum => k_is)
    (case z_tuple => k_is)
