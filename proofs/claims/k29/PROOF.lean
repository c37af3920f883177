import PyProof.Rows.All
import Wide.All
import OpenK.AllK
import Wide.FinOn
import HandS.ForMost
import HandS.EndBits
import HandS.WideBits
import HandS.SortInts
import HandS.Conv
import HandS.Flow
import HandS.Walk
import PyProof.Rows.RuleB_pow
import HandS.SetFor
import KE.BitLaws
import PyProof.Rows.SetFrom
import HandS.Defaults
import HandS.SetKeys
import HandS.IsInst
import HandS.Star
import HandS.Style
import HandS.Codes
import PyProof.ReprRoads
import PyProof.ReprLen
import KE.IntBitsLaws
import PySem.Challenge.RW_firstbooks_k29_whole_rests
set_option Elab.async false
set_option linter.all false
set_option maxRecDepth 100000
set_option maxHeartbeats 4000000
namespace My
open PySem PySem.Spec PyProof.Rows L2
/-! ### a def that may ask for reprs: run where no repr is under way -/
structure FnG (P : Program) (w : World) (K : PySem.W.Frag)
    (mg : Str → Option Value) (base : Heap) (CX : CXT) (k : Nat)
    (f : Addr) (fd : FuncData) (ps : List Str) (sp : Sp) : Prop where
  len : ∀ vs H Q E, sp vs H Q E → vs.length = ps.length
  run : ∀ (A : Around) (outer : List Env) (s : Shared) (H : Hp)
    (args : Args) (us : List Value) (vs : List V) (Q : VK) (E : XK),
    A.guards = some [] → Room k A → Env0 P w K mg base A outer s H →
    BindsTo s fd args (ps.zip us) → Vals vs us → sp vs H Q E →
    codeAny (model P w) A (.call (.ref f) args)
      (CR CX outer P w H s Q E) s

section
variable {P : Program} {w : World} {K : PySem.W.Frag}
variable {mg : Str → Option Value} {base : Heap}
theorem FnG.of {CX : CXT} {k : Nat} {f : Addr} {fd : FuncData}
    {ps : List Str} {sp : Sp}
    (F : FnOk P w K mg base CX k f fd ps sp) :
    FnG P w K mg base CX k f fd ps sp :=
  ⟨F.len, fun A outer s H args us vs Q E _ hr =>
    F.run A outer s H args us vs Q E hr⟩

theorem fnG_of {x qual : Str} {st : Stmt} {f : Addr} {fd : FuncData}
    {N ps : List Str} {k : Nat} {sp : Sp}
    (F : Fun K x qual st f fd) (S : FnScope N ps (defScope st))
    (len : ∀ vs H Q E, sp vs H Q E → vs.length = ps.length)
    (body : ∀ (cdv : Value) (A : Around) (outer : List Env)
      (s : Shared) (H : Hp) (vs : List V) (Q : VK) (E : XK),
      (A.deeper (envOfC qual (defScope st)
        s.heap.objs.size f cdv)).guards = some [] →
      Room k (A.deeper (envOfC qual (defScope st)
        s.heap.objs.size f cdv)) → sp vs H Q E →
      ∃ t, PSs (cxOf CX0 P w K mg base N qual (defScope st)
          f cdv A outer s H E).nox (defBody st) t ∧
        t { nx := fun _ H' => Q .non H', rt := Q }
          (start N vs) H) :
    FnG P w K mg base CX0 (k + 1) f fd ps sp := by
  obtain ⟨oc, od, kV, doc, pm, an, cdv, ct, osl, rfl, lk, hcd⟩ := F.ex
  constructor
  · exact len
  intro A outer s H args us vs Q E gd hr en bd rv hs
  have hl := len _ _ _ _ hs
  have keep : ∀ b o, base.get? b = some o →
      s.heap.get? b = some o := fun b o e => (en.bs b o e).1
  have KX : K.In s.heap := en.mod.kin.keeps keep
  have lim : s.heap.NoLimit := en.mod.nolimit.keeps keep
  have kinds : ∀ y ∈ ps.zip us,
      (defScope st).names.lookup y.1 = some .local ∨
      ((defScope st).names.lookup y.1 = some .cell ∧
        ((cellsFrom (s.heap.objs.size + 1)
          (defScope st).names []).lookup y.1).isSome = true) := by
    rintro ⟨n, v⟩ hy
    have hp := S.par n (List.of_mem_zip hy).1
    rcases hp with q | q
    · exact Or.inl q
    · exact Or.inr ⟨q, PySem.W.cellsFrom_some _ _ _ (Or.inl q)⟩
  refine codeAny_call_function hr.depth (KX _ _ lk) rfl
    S.co S.gen rfl (PySem.W.codeRec_of KX hcd)
    (bd _ _ _ _ ?_)
  refine wpAny_newFunctionEnv_cells S.kind kinds ?_
  intro env he s1 x1
  subst he
  refine ⟨lim.keeps x1.toInCall.keep, codeAny_func ?_⟩
  obtain ⟨t, ht, hq⟩ :=
    body cdv A outer s H vs Q E gd (hr.deeper _) hs
  have I : Inv (cxOf CX0 P w K mg base N qual (defScope st)
      f cdv A outer s H E) [] (start N vs) H s1 :=
    inv_start S hr.hd en hl rv x1
  refine wpAny_mono (ht.nox.run [] s1 (start N vs) H _ I hq) ?_
    (fun e s' z => z)
  intro fl s' hf
  have fin : ∀ {σ' : L2.St} {H' : Hp} {v : V} {u : Value},
      Inv (cxOf CX0 P w K mg base N qual (defScope st)
        f cdv A outer s H E) [] σ' H' s' →
      RelV v u → Q v H' → CE outer P w H s Q u s' := by
    intro σ' H' v u J r1 q1
    exact ⟨v, H', J.os, J.bare, J.base, J.hok, r1, q1⟩
  cases fl with
  | next =>
    obtain ⟨σ', H', J, q⟩ := hf
    exact fin (v := V.non) (u := Value.none) J rfl q
  | ret u =>
    obtain ⟨v, σ', H', J, r1, q⟩ := hf
    exact fin J r1 q
  | cont =>
    obtain ⟨_, _, _, q⟩ := hf
    cases q
  | brk =>
    obtain ⟨_, _, _, q⟩ := hf
    cases q
end

section
variable {X : Cx} {CX : CXT} {k : Nat} {f : Addr} {fd : FuncData}
variable {ps : List Str} {sp : Sp} {E : XK}
theorem run_fnG {pins : List (Addr × Obj)} {σ : L2.St} {H : Hp}
    {s : Shared} {Q : VK} {us : List Value} {vs : List V}
    (F : FnG X.prog X.w X.K X.mg X.base CX k f fd ps sp)
    (gd : X.A.guards = some []) (hr : Room k X.A)
    (hb : Binds X.K fd ps []) (hx : Passes CX X E)
    (I : Inv X pins σ H s) (r : Vals vs us) (h : sp vs H Q E) :
    wpAny (model X.prog X.w) X.A (call (.ref f) us)
      (EP X pins σ Q) X.xe s := by
  have hl : (us ++ []).length = ps.length := by
    rw [List.append_nil, ← r.length]
    exact F.len _ _ _ _ h
  have hb' := hb s us I.kIn hl
  rw [List.append_nil] at hb'
  have run := F.run X.A X.stack s H ⟨us, []⟩ us vs Q E
    gd hr I.env0 hb' r h
  refine wpAny_call (codeAny_mono run ?_)
  intro r' s' hq
  cases r' with
  | error e => exact hx pins σ H s e s' I hq
  | ok fl =>
    cases fl with
    | next => cases hq
    | ret u => exact I.after hq
    | cont => cases hq
    | brk => cases hq
end

/-! ### the end: a law's call, where no repr is under way -/
section
variable {P : Program} {w : World} {K : PySem.W.Frag}
theorem call_endG {mg mb : Str → Option Value} {CX : CXT} {k : Nat}
    {fa a : Addr} {fd : FuncData} {x : Str} {sp : Sp} {s1 : Shared}
    {vs : List Value} {ns : List Int}
    (KX : K.In s1.heap) (hns : s1.heap.Ns mainGlobals mg)
    (hb : s1.heap.Ns builtinsNs mb)
    (hbb : ∀ y : Str, y ≠ "__name__" → mb y = bootBuiltins y)
    (lim : s1.heap.NoLimit) (hg : s1.gens = #[])
    (ha : s1.heap.get? a =
      some { cls := .type "list", data := .seq vs.toArray })
    (hi : IntsAre vs ns) (hl : ns.length ≤ sizeLine)
    (hr : Room k callerA)
    (F : ∀ base : Heap, K.In base → base.Ns mainGlobals mg →
      FnG P w K mg base CX k fa fd [x] sp)
    (bind : ∀ (s : Shared) (u : Value),
      BindsTo s fd ⟨[u], []⟩ [(x, u)])
    (hsp : ∀ H : Hp, Only H → SqL K H a (ns.map V.int) →
      sp [.ref a] H (fun v _ => v = .bl true) fun _ _ _ => False)
    (hCX : ∀ H e s', CX [] H s1 (fun _ _ _ => False) e s' → False) :
    codeAny (model P w) callerA (.call (.ref fa) ⟨[.ref a], []⟩)
      (fun r s' => r = .ok (.ret (.bool true)) ∧
        OldK s1.heap s'.heap ∧ s'.os = s1.os ∧ AllBare s'.gens) s1 := by
  have rv := vals_ints hi
  have lenV := hi.length
  have core : ∀ H : Hp, Only H → SqL K H a (ns.map V.int) →
      HOk P w H s1.heap → (∀ b, H b ≠ none → b = a) →
      (H a ≠ none → K.lookup a = none) →
      codeAny (model P w) callerA (.call (.ref fa) ⟨[.ref a], []⟩)
        (fun r s' => r = .ok (.ret (.bool true)) ∧
          OldK s1.heap s'.heap ∧ s'.os = s1.os ∧
          AllBare s'.gens) s1 := by
    intro H hO hS hok onlyA notK
    have isA : ∀ {b : Addr} {u : HO}, H b = some u → b = a :=
      fun {b u} q => onlyA b (by rw [q]; exact fun z => nomatch z)
    have nsIn : ∀ {b : Addr} {m : Str → Option Value},
        s1.heap.Ns b m → (hidT s1.heap H).Ns b m := by
      rintro b m ⟨o, es, ep, e, d, r⟩
      refine ⟨o, es, ep, hidT_get e ?_, d, r⟩
      cases q : H b with
      | none => rfl
      | some u =>
        have hba := isA q
        subst hba
        rw [ha] at e
        cases e
        cases d
    have kb : K.In (hidT s1.heap H) := by
      intro b o e
      refine hidT_get (KX b o e) ?_
      cases q : H b with
      | none => rfl
      | some u =>
        have hba := isA q
        subst hba
        have z := notK (by rw [q]; exact fun z => nomatch z)
        rw [z] at e
        cases e
    have hM : Mod K mg (hidT s1.heap H) := by
      refine ⟨kb, nsIn hns, ⟨mb, nsIn hb, hbb⟩, ?_⟩
      obtain ⟨mc, h1, h2⟩ := lim
      exact ⟨mc, nsIn h1, h2⟩
    have e0 : Env0 P w K mg (hidT s1.heap H) callerA [] s1 H := by
      refine ⟨rfl, hM, fun b o e => of_hidT e,
        Nat.le_of_eq (hidT_size _ _), trivial, ?_, hok, .of_eq hg⟩
      intro b hb
      cases hb
    have G := F _ kb (nsIn hns)
    have run := G.run callerA [] s1 H ⟨[.ref a], []⟩ [.ref a]
      [.ref a] _ _ rfl hr e0 (bind s1 (.ref a)) (.cons rfl .nil)
      (hsp H hO hS)
    refine codeAny_mono run ?_
    intro r s' h
    cases r with
    | error e => exact (hCX H e s' h).elim
    | ok fl =>
      cases fl with
      | next => cases h
      | brk => cases h
      | cont => cases h
      | ret u =>
        obtain ⟨v, H', os, bare, un, hok', r', q⟩ := h
        have ev : v = .bl true := q
        subst ev
        have eu : u = Value.bool true := r'
        subst eu
        refine ⟨rfl, OldK.of_keep ?_, os, bare⟩
        intro b o e
        cases q2 : H b with
        | none =>
          refine un.keep b o e q2 ?_ ?_
          · intro z; cases z
          · intro z; cases z
        | some u =>
          rcases hO b with z | ⟨ob, xs, z⟩
          · rw [q2] at z; cases z
          · have z2 := un.frzs b ob _ z
            obtain ⟨e1, _⟩ := hok b _ z
            obtain ⟨e2, _⟩ := hok' b _ z2
            rw [e] at e1
            cases e1
            exact e2
  have vlen : vs.toArray.size ≤ sizeLine := by
    rw [List.size_toArray, lenV]; exact hl
  cases hk : K.lookup a with
  | some o =>
    have e := KX a o hk
    rw [ha] at e
    cases e
    refine core (fun _ => none) (fun _ => Or.inl rfl) ?_ ?_ ?_ ?_
    · exact Or.inr ⟨_, vs.toArray, _, hk, rfl, rfl, rfl, vlen,
        by simpa using rv⟩
    · intro b u z; cases z
    · intro b z; exact absurd rfl z
    · intro z; exact absurd rfl z
  | none =>
    let ob : Obj := { cls := .type "list", data := .seq vs.toArray }
    let H : Hp := fun b =>
      if b = a then some (.frz ob (.lst (ns.map V.int))) else none
    have hA : H a = some (.frz ob (.lst (ns.map V.int))) := if_pos rfl
    have hN : ∀ b, b ≠ a → H b = none := fun b hb => if_neg hb
    refine core H ?_ (Or.inl (Or.inr ⟨ob, hA⟩)) ?_ ?_ fun _ => hk
    · intro b
      by_cases hb : b = a
      · subst hb; exact Or.inr ⟨_, _, hA⟩
      · exact Or.inl (hN b hb)
    · intro b u z
      by_cases hb : b = a
      · subst hb
        rw [hA] at z
        cases z
        exact ⟨ha, by rw [List.length_map]; exact hl, vs, _, rv, ha⟩
      · rw [hN b hb] at z
        cases z
    · intro b z
      by_cases hb : b = a
      · exact hb
      · exact absurd (hN b hb) z

theorem walkG {l : PySem.W.OpenLaw} {n k : Nat} {q : Program}
    {loose : List Str} {XP : (Str → Option Value) → Heap → Prop}
    {YP : World → Heap → Prop} {d : DefRec}
    {K : Params → PySem.W.Frag} {CX : World → CXT} {sp : World → Sp}
    {x : Str} (hn : l.most = some n) (hn2 : n ≤ sizeLine)
    (hdf : d.params.defaults = []) (hr : Room k callerA)
    (hY : ∀ (w : World) (h : Heap), YP w h → (K w.params).In h)
    (F : ∀ (w : World) (mg : Str → Option Value) (fa : Addr)
      (h : Heap), (K w.params).In h → h.Ns mainGlobals mg →
      mg d.name = some (.ref fa) → ∃ fd : FuncData,
      (∀ (s : Shared) (u : Value),
        BindsTo s fd ⟨[u], []⟩ [(x, u)]) ∧
      ∀ base : Heap, (K w.params).In base →
        base.Ns mainGlobals mg →
        FnG l.prog w (K w.params) mg base (CX w) k fa fd [x] (sp w))
    (hsp : ∀ (w : World) (H : Hp) (a : Addr) (ns : List Int),
      ns.length ≤ n →
      (∀ z ∈ ns, Builtin.Int.intBits z ≤ 1048576) → Only H →
      SqL (K w.params) H a (ns.map V.int) →
      sp w [.ref a] H (fun v _ => v = .bl true)
        fun _ _ _ => False)
    (hCX : ∀ (w : World) (H : Hp) (s : Shared) (e : Value)
      (s' : Shared), CX w [] H s (fun _ _ _ => False) e s' → False) :
    PySem.W.WalkO q loose XP YP l.row.toRowW d []
      (fun f vs => PySem.call f vs) := by
  refine Att.attach_callB hn hdf ?_
  intro w s0 s1 mg mb fa o pm cd doc a vs ns G Y _ _ _ hmg hobj hints
    hlen hbits hg
  have KX := hY w _ Y
  obtain ⟨fd, bind, hF⟩ := F w mg fa _ KX G.T.g hmg
  refine call_endG KX G.T.g G.T.b G.T.builtins G.T.nolimit hg hobj
    hints (Nat.le_trans hlen hn2) hr hF bind ?_ ?_
  · intro H hO hS
    exact hsp w H a ns hlen hbits hO hS
  · intro H e s'
    exact hCX w H s1 e s'
end

/-! ### repr of data -/
section
variable {X : Cx}
theorem call_reprD (gd : X.A.guards = some [])
    (hu : X.A.units + 64 < cLine) :
    CallR X (.builtin "repr") (fun xs H Q => ∃ v d, xs = [v] ∧
      Dp X.K H v d ∧ d.showable = true ∧ d.hasDict = false ∧
      d.depth ≤ 20 ∧ d.shown.length ≤ sizeLine ∧
      Q (.str d.shown) H) := by
  intro pins s σ H xs us Q I r h
  obtain ⟨v, d, rfl, hd, h1, h2, h3, h4, q⟩ := h
  obtain ⟨u, rfl, rx⟩ := vals1 r
  obtain ⟨as, rd⟩ := Dp.reads I d v u hd rx
  have ns := PyData.noDict_hsm (as := as) h2
  have fin : ∀ h' u tk, (∀ b o, s.heap.get? b = some o →
      h'.get? b = some o) →
      EP X pins σ Q (.str d.shown u)
        { s with heap := h', toks := tk } :=
    fun h' u tk kp => ⟨.str d.shown, H, I.kept kp, ⟨_, rfl⟩, q⟩
  have kp0 : ∀ b o, s.heap.get? b = some o →
      s.heap.get? b = some o := fun _ _ e => e
  cases hd with
  | non =>
    cases rx
    refine PySem.P.repr_of_none ?_
    have z := fin s.heap s.toks (s.toks + 1) kp0
    simpa only [PyData.shown] using z
  | bl b =>
    cases rx
    refine PySem.P.repr_of_bool ?_
    have z := fin s.heap s.toks (s.toks + 1) kp0
    simpa only [PyData.shown] using z
  | int i =>
    obtain ⟨t, rfl⟩ := rx
    refine PySem.P.repr_of_int
      (by simpa [PyData.showable] using h1) ?_
    have z := fin s.heap s.toks (s.toks + 1) kp0
    simpa only [PyData.shown] using z
  | str y =>
    obtain ⟨t, rfl⟩ := rx
    refine PySem.P.repr_of_str ?_
      (by simpa only [PyData.shown] using h4)
    have z := fin s.heap s.toks (s.toks + 1) kp0
    simpa only [PyData.shown] using z
  | lst hs ha =>
    cases rx
    exact repr_of_reads' rd h1 ns gd (by omega) kp0
      (fun h' u tk kp => fin h' u tk kp) h4
  | tup hs ha =>
    cases rx
    exact repr_of_reads' rd h1 ns gd (by omega) kp0
      (fun h' u tk kp => fin h' u tk kp) h4
end
end My

namespace My
open PySem PySem.Spec PyProof.Rows L2
/-! ### callable defs -/
structure Dd (P : Program) (w : World) (K : PySem.W.Frag)
    (mg : Str → Option Value) (base : Heap) (x : Str) (k : Nat)
    (ps : List Str) (sp : Sp) : Prop where
  ok : ∃ f fd, mg x = some (.ref f) ∧
    PySem.W.keepIn K (.ref f) = true ∧ Binds K fd ps [] ∧
    FnOk P w K mg base CX0 k f fd ps sp
section
variable {X : Cx} {x : Str} {k : Nat} {ps : List Str} {sp : Sp}
variable {p pos : Pos} {e : Expr} {es : List Expr} {t : TA}
theorem pe_d (D : Dd X.prog X.w X.K X.mg X.base x k ps sp)
    (hr : Room k X.A) (hg : Gl X x) (ha : PA X (e :: es) t)
    (hdb : (x == ("__debug__" : Str)) = false := by decide)
    (he : starEach (e :: es) X.env =
      (false, eval e X.env) :: starEach es X.env := by rfl)
    (hpl : (backTo pos (starEach es X.env)).any (·.1) = false := by
      rfl) :
    PE X (.Call (.Name x p) (e :: es) [] pos)
      (tCall sp [] E0 t) := by
  obtain ⟨f, fd, m, kp, b, G⟩ := D.ok
  exact pe_call G hr hg m kp b .nil pass0 ha hdb he hpl
end
/-- an int as a test -/
def tInt (ta : TE) : TT := fun σ H Q =>
  ta σ H fun x H' => ∃ i : Int, x = .int i ∧ Q (i != 0) H'
theorem pt_int {X : Cx} {a : Expr} {ta : TE} (ha : PE X a ta)
    (he : ∀ whole, isTrue a X.env whole =
      (do let v ← whole; standAt a.pos; holding [v] (truthy v))) :
    PT X a (tInt ta) := by
  refine ⟨fun pins s σ H Q I h => ?_⟩
  refine isTrue_plain (thn (ha.run pins s σ H _ I h) ?_) (he _)
  intro v s1 hh
  obtain ⟨x, H1, I1, r1, i, ex, q1⟩ := hh
  subst ex
  exact tru_ok pins s1 σ H1 (.int i) v Q I1 r1 ⟨(i != 0), rfl, q1⟩
/-! ### heaps -/
def Keep (p : Addr) (H H' : Hp) : Prop :=
  ∀ b o, H b = some o → b ≠ p → H' b = some o
theorem Keep.refl {p : Addr} {H : Hp} : Keep p H H := fun _ _ h _ => h
theorem Keep.trans {p : Addr} {H H1 H2 : Hp} (a : Keep p H H1)
    (b : Keep p H1 H2) : Keep p H H2 :=
  fun c o h n => b c o (a c o h n) n
theorem Same.keep {p : Addr} {H H' : Hp} (s : Same H H') :
    Keep p H H' := fun b o h _ => s b o h
theorem Keep.set {p : Addr} {H H' : Hp} {o : HO} (k : Keep p H H') :
    Keep p H (upd H' p o) := fun b u h n => by
  rw [upd_ne n]; exact k b u h n
theorem Keep.new {p q : Addr} {H H' : Hp} {o : HO} (k : Keep p H H')
    (hq : H' q = none) : Keep p H (upd H' q o) := fun b u h n => by
  have z := k b u h n
  rw [upd_ne (ne_of_none z hq)]; exact z
theorem Keep.seq {K : PySem.W.Frag} {p a : Addr} {H H' : Hp}
    {xs : List V} (k : Keep p H H') (n : a ≠ p)
    (h : SqL K H a xs) : SqL K H' a xs := by
  rcases h with (h | ⟨o, h⟩) | h
  · exact .inl (.inl (k _ _ h n))
  · exact .inl (.inr ⟨o, k _ _ h n⟩)
  · exact .inr h
theorem same_new {H H' : Hp} {q : Addr} {o : HO} (k : Same H H')
    (hq : H' q = none) : Same H (upd H' q o) := fun b u h => by
  have z := k b u h
  rw [upd_ne (ne_of_none z hq)]; exact z
theorem upd_of {H : Hp} {q b : Addr} {o u : HO} (hq : H q = none)
    (h : H b = some u) : upd H q o b = some u := by
  rw [upd_ne (ne_of_none h hq)]; exact h
/-- reading goes on behind the pen's turns -/
theorem Keep.sq {K : PySem.W.Frag} {H H' : Hp} {p a : Addr} {k : List (Key × V)}
    {xs : List V} (kp : Keep p H H') (hp : H p = some (.dK k))
    (h : SqL K H a xs) : SqL K H' a xs := by
  rcases h with (h | ⟨o, h⟩) | h
  · exact .inl (.inl (kp _ _ h (ne_of h hp (by intro z; cases z))))
  · exact .inl (.inr ⟨o, kp _ _ h (ne_of h hp (by intro z; cases z))⟩)
  · exact .inr h
theorem Keep.st {K : PySem.W.Frag} {H H' : Hp} {p a : Addr} {k : List (Key × V)}
    {xs : List V} (kp : Keep p H H') (hp : H p = some (.dK k))
    (h : SqT K H a xs) : SqT K H' a xs := by
  rcases h with (h | ⟨o, h⟩) | h
  · exact .inl (.inl (kp _ _ h (ne_of h hp (by intro z; cases z))))
  · exact .inl (.inr ⟨o, kp _ _ h (ne_of h hp (by intro z; cases z))⟩)
  · exact .inr h
theorem Keep.free {H H' : Hp} {p q : Addr} (kp : Keep p H H')
    (h : H' q = none) (n : q ≠ p) : H q = none := by
  cases e : H q with
  | none => rfl
  | some o =>
    rw [kp q o e n] at h
    cases h
theorem map_get {α β : Type} {l : List α} {f : α → β} {i : Nat} {x : β}
    (h : (l.map f)[i]? = some x) : ∃ s, l[i]? = some s ∧ x = f s := by
  rw [List.getElem?_map] at h
  obtain ⟨s, h1, h2⟩ := Option.map_eq_some_iff.mp h
  exact ⟨s, h1, h2.symm⟩
theorem idx_nat {j n : Nat} (h : j < n) :
    seqIndex? (j : Int) n = some j := by
  exact PySem.seqIndex_of (k := (j : Int)) (by omega) (by omega)
theorem eraseIdx_map {α β : Type} (f : α → β) : ∀ (l : List α) (j : Nat),
    (l.map f).eraseIdx j = (l.eraseIdx j).map f
  | [], _ => rfl
  | x :: r, 0 => rfl
  | x :: r, j + 1 => by
    show f x :: (r.map f).eraseIdx j = f x :: (r.eraseIdx j).map f
    rw [eraseIdx_map f r j]
/-! ### sizes of ints -/
def BB (k : Nat) (z : Int) : Prop := z.natAbs < 2 ^ k
theorem BB.mono {j k : Nat} {z : Int} (h : BB j z) (l : j ≤ k) :
    BB k z := Nat.lt_of_lt_of_le h (Nat.pow_le_pow_right (by decide) l)
theorem BB.zero {k : Nat} : BB k 0 := Nat.two_pow_pos _
theorem BB.le {k : Nat} {y z : Int} (h : BB k z)
    (l : y.natAbs ≤ z.natAbs) : BB k y := Nat.lt_of_le_of_lt l h
theorem BB.add {k : Nat} {y z : Int} (a : BB k y) (b : BB k z) :
    BB (k + 1) (y + z) := by
  have e : 2 ^ (k + 1) = 2 ^ k * 2 := Nat.pow_succ ..
  unfold BB at *
  rw [e]; omega
theorem BB.sub {k : Nat} {y z : Int} (a : BB k y) (b : BB k z) :
    BB (k + 1) (y - z) := by
  have e : 2 ^ (k + 1) = 2 ^ k * 2 := Nat.pow_succ ..
  unfold BB at *
  rw [e]; omega
theorem BB.mul {j k : Nat} {y z : Int} (a : BB j y) (b : BB k z) :
    BB (j + k) (y * z) := wide_lt a b
theorem BB.div {k : Nat} {y m : Int} (a : BB k y) (h : 0 < m) :
    BB k (y / m) := by
  refine a.le ?_
  obtain ⟨n, rfl⟩ := Int.eq_ofNat_of_zero_le (Int.le_of_lt h)
  rcases Int.natAbs_eq y with e | e
  · rw [e]
    have : ((y.natAbs : Int) / (n : Int)) = ((y.natAbs / n : Nat) : Int) := rfl
    rw [this, Int.natAbs_natCast, Int.natAbs_natCast]
    exact Nat.div_le_self _ _
  · have h1 : y / (n : Int) ≤ 0 := by
      rw [e]
      have := Int.ediv_le_ediv h (show -(y.natAbs : Int) ≤ 0 by omega)
      simpa using this
    have h2 : -(y.natAbs : Int) ≤ y / (n : Int) := by
      rw [Int.le_ediv_iff_mul_le h]
      have h3 : (y.natAbs : Int) * 1 ≤ (y.natAbs : Int) * (n : Int) :=
        Int.mul_le_mul_of_nonneg_left (by omega) (by omega)
      have h4 : -(y.natAbs : Int) * (n : Int) = -((y.natAbs : Int) * n) := Int.neg_mul ..
      omega
    omega
theorem BB.bits {k : Nat} {z : Int} (h : BB k z) :
    Builtin.Int.intBits z ≤ k := PyProof.Rows.intBits_le h
theorem BB.of_bits {k : Nat} {z : Int}
    (h : Builtin.Int.intBits z ≤ k) : BB k z :=
  PySem.intBits_le_iff.mp h
theorem BB.small {z : Int} (h : z.natAbs < 18446744073709551616) :
    BB 64 z := h
theorem mulX_ok {j k : Nat} {y z : Int} (a : BB j y) (b : BB k z)
    (h : j + k ≤ 134217728) : CMulX y z := mulx_ok a b h
theorem divW_ok {k : Nat} {i m : Int} (h : 0 < m) (b : BB k m)
    (h0 : 0 < k) (h9 : k ≤ 9000) : CDivW i m := wide_div h b h0 h9
/-! ### lists of ints as data -/
section
variable {K : PySem.W.Frag} {H : Hp}
theorem dp_ints : ∀ ns : List Int,
    DpAll K H (ns.map V.int) (ns.map PyData.int)
  | [] => .nil
  | n :: r => .cons (.int n) (dp_ints r)
theorem dpL {a : Addr} {ns : List Int} (h : SqL K H a (ns.map V.int)) :
    Dp K H (.ref a) (.list (ns.map PyData.int)) := .lst h (dp_ints ns)
theorem eqv_ints : ∀ (ns ms : List Int),
    PyData.eqvAll (ns.map .int) (ms.map .int) = decide (ns = ms)
  | [], [] => rfl
  | [], m :: ms => rfl
  | n :: ns, [] => rfl
  | n :: ns, m :: ms => by
    show (PyData.eqv (.int n) (.int m) && PyData.eqvAll (ns.map .int) (ms.map .int)) = _
    rw [eqv_ints ns ms]
    have e : PyData.eqv (.int n) (.int m) = (n == m) := by
      rw [PyData.eqv]
    rw [e]
    by_cases h1 : n = m
    · by_cases h2 : ns = ms
      · simp [h1, h2]
      · simp [h1, h2]
    · have : (n == m) = false := by simpa using h1
      simp [h1]
theorem eqvL (ns ms : List Int) :
    PyData.eqv (.list (ns.map .int)) (.list (ms.map .int)) =
      decide (ns = ms) := by
  rw [PyData.eqv]; exact eqv_ints ns ms
theorem canLay_ints : ∀ ns : List Int,
    PyData.canLayAll0 (ns.map .int) = true
  | [] => rfl
  | n :: r => by
    rw [List.map_cons, PyData.canLayAll0, canLay_ints r]
    simp [PyData.canLay0]
theorem depth_ints : ∀ ns : List Int,
    PyData.depthAll (ns.map .int) = 0
  | [] => rfl
  | n :: r => by
    rw [List.map_cons, PyData.depthAll, depth_ints r]
    simp [PyData.depth]
theorem shapedL (ns : List Int) :
    SeqAt.shaped (.list (ns.map .int)) = true := by
  unfold SeqAt.shaped
  rw [Bool.and_eq_true]
  constructor
  · rw [PyData.canLay0]; exact canLay_ints ns
  · rw [PyData.depth, depth_ints]; rfl
end
/-! ### what a repr may be asked of -/
structure SL (D L : Nat) (d : PyData) : Prop where
  sh : d.showable = true
  nd : d.hasDict = false
  dp : d.depth ≤ D
  ln : d.shown.length ≤ L
theorem sl_none : SL 0 4 .none := ⟨rfl, rfl, by decide, by decide⟩
theorem sl_bool (b : Bool) : SL 0 5 (.bool b) :=
  ⟨rfl, rfl, by cases b <;> decide, by cases b <;> decide⟩
theorem sl_int {i : Int} (h : BB 1900 i) : SL 0 1910 (.int i) := by
  have e : i.natAbs.log2 < 1920 := by
    by_cases z : i.natAbs = 0
    · rw [z]; decide
    · have := (Nat.log2_lt z).mpr h
      omega
  refine ⟨?_, rfl, Nat.le_refl _, ?_⟩
  · rw [PyData.showable]; exact decide_eq_true e
  · have hn : (toString i.natAbs).length ≤ 1900 :=
      nat_repr_length_le (by decide) h
    rw [PyData.shown]
    have e2 : (Str.ofString (toString i)).length =
      (toString i).length := PySem.ofString_length _
    rw [e2]
    cases i with
    | ofNat n =>
      show (toString n).length ≤ 1910
      exact Nat.le_trans hn (by decide)
    | negSucc n =>
      show ("-" ++ toString (n + 1)).length ≤ 1910
      rw [String.length_append]
      have : (toString (n + 1)).length ≤ 1900 := hn
      have e3 : ("-" : String).length = 1 := rfl
      omega
theorem sl_all {D L : Nat} : ∀ {xs : List PyData},
    (∀ x ∈ xs, SL D L x) → PyData.showableAll xs = true ∧
      PyData.hasDictAll xs = false ∧ PyData.depthAll xs ≤ D ∧
      ((PyData.shownAll xs).map (·.length)).sum ≤ xs.length * L ∧
      (PyData.shownAll xs).length = xs.length
  | [], _ => ⟨rfl, rfl, Nat.zero_le _, Nat.zero_le _, rfl⟩
  | x :: r, h => by
    have hx := h x (List.mem_cons_self ..)
    obtain ⟨h1, h2, h3, h4, h5⟩ :=
      sl_all fun y hy => h y (List.mem_cons_of_mem _ hy)
    refine ⟨?_, ?_, ?_, ?_, ?_⟩
    · rw [PyData.showableAll, hx.sh, h1]; rfl
    · rw [PyData.hasDictAll, hx.nd, h2]; rfl
    · rw [PyData.depthAll]; exact Nat.max_le.mpr ⟨hx.dp, h3⟩
    · rw [PyData.shownAll, List.map_cons, List.sum_cons,
        List.length_cons, Nat.succ_mul]
      have := hx.ln
      omega
    · rw [PyData.shownAll, List.length_cons, List.length_cons, h5]
theorem sld_list {D L N : Nat} {xs : List PyData}
    (h : ∀ x ∈ xs, SL D L x) (hn : xs.length ≤ N) :
    SL (D + 1) (N * (L + 2) + 3) (.list xs) := by
  obtain ⟨h1, h2, h3, h4, h5⟩ := sl_all h
  refine ⟨by rw [PyData.showable]; exact h1,
    by rw [PyData.hasDict]; exact h2,
    by rw [PyData.depth]; omega, ?_⟩
  rw [PyData.shown]
  have h6 := listText_len_le (PyData.shownAll xs)
  have h7 : xs.length * (L + 2) ≤ N * (L + 2) :=
    Nat.mul_le_mul_right _ hn
  have h8 : xs.length * (L + 2) = xs.length * L + xs.length * 2 :=
    Nat.mul_add ..
  omega
theorem sld_tuple {D L N : Nat} {xs : List PyData}
    (h : ∀ x ∈ xs, SL D L x) (hn : xs.length ≤ N) :
    SL (D + 1) (N * (L + 2) + 3) (.tuple xs) := by
  obtain ⟨h1, h2, h3, h4, h5⟩ := sl_all h
  refine ⟨by rw [PyData.showable]; exact h1,
    by rw [PyData.hasDict]; exact h2,
    by rw [PyData.depth]; omega, ?_⟩
  rw [PyData.shown]
  have h6 := tupleText_len_le (PyData.shownAll xs)
  have h7 : xs.length * (L + 2) ≤ N * (L + 2) :=
    Nat.mul_le_mul_right _ hn
  have h8 : xs.length * (L + 2) = xs.length * L + xs.length * 2 :=
    Nat.mul_add ..
  omega
theorem SL.mono {D E L M : Nat} {d : PyData} (h : SL D L d)
    (a : D ≤ E) (b : L ≤ M) : SL E M d :=
  ⟨h.sh, h.nd, Nat.le_trans h.dp a, Nat.le_trans h.ln b⟩
theorem sl_ints {ns : List Int} {N : Nat} (h : ∀ n ∈ ns, BB 1900 n)
    (hn : ns.length ≤ N) :
    SL 1 (N * 1912 + 3) (.list (ns.map .int)) := by
  refine sld_list (L := 1910) ?_ (by rw [List.length_map]; exact hn)
  intro x hx
  obtain ⟨n, hm, rfl⟩ := List.mem_map.mp hx
  exact sl_int (h n hm)
theorem SL.ok {D L : Nat} {d : PyData} (h : SL D L d) (a : D ≤ 20)
    (b : L ≤ 16777216) : d.showable = true ∧ d.hasDict = false ∧
      d.depth ≤ 20 ∧ d.shown.length ≤ sizeLine :=
  ⟨h.sh, h.nd, Nat.le_trans h.dp a,
    by rw [sizeLine_eq]; exact Nat.le_trans h.ln b⟩
/-! ### the end of readings: tests whose answer is known -/
theorem it {c : Bool} {A B : Prop} (hc : c = true) (h : A) :
    if c = true then A else B := by rw [if_pos hc]; exact h
theorem if' {c : Bool} {A B : Prop} (hc : c = false) (h : B) :
    if c = true then A else B := by
  rw [hc, if_neg Bool.false_ne_true]; exact h
end My

namespace My
/-! ### marks of a number -/
def sumP : List Nat → Nat
  | [] => 0
  | s :: r => 2 ^ s + sumP r
def orP (l : List Nat) : Nat := l.foldl (fun a s => a ||| 2 ^ s) 0
theorem add_or (k b : Nat) (h : b.testBit k = false) : 2 ^ k + b = 2 ^ k ||| b := by
  have hb : b % 2 ^ (k + 1) < 2 ^ k := by
    have h1 : b % 2 ^ (k + 1) < 2 ^ (k + 1) := Nat.mod_lt _ (Nat.two_pow_pos _)
    rcases Nat.lt_or_ge (b % 2 ^ (k + 1)) (2 ^ k) with h2 | h2
    · exact h2
    · exfalso
      have e : (b % 2 ^ (k + 1)).testBit k = true := by
        apply Nat.testBit_of_two_pow_le_and_two_pow_add_one_gt
        · exact h2
        · exact h1
      rw [Nat.testBit_mod_two_pow] at e
      simp [h] at e
  have eb : b = 2 ^ (k + 1) * (b / 2 ^ (k + 1)) + b % 2 ^ (k + 1) := (Nat.div_add_mod _ _).symm
  have h2 : 2 ^ k + b % 2 ^ (k + 1) < 2 ^ (k + 1) := by
    have e2 : 2 ^ (k + 1) = 2 ^ k * 2 := Nat.pow_succ ..
    generalize b % 2 ^ (k + 1) = r at hb
    omega
  have h3 : 2 ^ k + b % 2 ^ (k + 1) = 2 ^ k ||| b % 2 ^ (k + 1) := by
    have := Nat.two_pow_add_eq_or_of_lt hb 1
    simpa using this
  calc 2 ^ k + b = 2 ^ (k + 1) * (b / 2 ^ (k + 1)) + (2 ^ k + b % 2 ^ (k + 1)) := by omega
    _ = 2 ^ (k + 1) * (b / 2 ^ (k + 1)) ||| (2 ^ k + b % 2 ^ (k + 1)) := Nat.two_pow_add_eq_or_of_lt h2 _
    _ = 2 ^ (k + 1) * (b / 2 ^ (k + 1)) ||| (2 ^ k ||| b % 2 ^ (k + 1)) := by rw [h3]
    _ = 2 ^ k ||| (2 ^ (k + 1) * (b / 2 ^ (k + 1)) ||| b % 2 ^ (k + 1)) := by
      rw [← Nat.or_assoc, Nat.or_comm (2 ^ (k + 1) * (b / 2 ^ (k + 1))) (2 ^ k), Nat.or_assoc]
    _ = 2 ^ k ||| b := by
      rw [← Nat.two_pow_add_eq_or_of_lt (Nat.mod_lt _ (Nat.two_pow_pos _)), ← eb]
theorem foldl_or (l : List Nat) : ∀ a, l.foldl (fun a s => a ||| 2 ^ s) a = a ||| orP l := by
  unfold orP
  induction l with
  | nil => intro a; simp
  | cons s r ih =>
    intro a
    rw [List.foldl_cons, List.foldl_cons, ih, ih (0 ||| 2 ^ s), Nat.zero_or, Nat.or_assoc]
theorem orP_cons (s : Nat) (r : List Nat) : orP (s :: r) = 2 ^ s ||| orP r := by
  show (s :: r).foldl (fun a s => a ||| 2 ^ s) 0 = _
  rw [List.foldl_cons, foldl_or, Nat.zero_or]
theorem testBit_orP (l : List Nat) (i : Nat) : (orP l).testBit i = decide (i ∈ l) := by
  induction l with
  | nil => simp [orP]
  | cons s r ih =>
    rw [orP_cons, Nat.testBit_or, ih, Nat.testBit_two_pow]
    by_cases h : s = i
    · subst h; simp
    · have h' : ¬ i = s := fun z => h z.symm
      simp [h, h']
theorem sumP_or : ∀ {l : List Nat}, l.Nodup → sumP l = orP l
  | [], _ => rfl
  | s :: r, h => by
    have h' := List.nodup_cons.mp h
    rw [orP_cons, sumP, sumP_or h'.2, add_or]
    rw [testBit_orP]
    simp [h'.1]
/-- marks: rising -/
def mk (n : Nat) (w : Nat) : List Nat := (List.range w).filter n.testBit
theorem mk_sorted (n w : Nat) : (mk n w).Pairwise (· < ·) := List.Pairwise.filter _ List.pairwise_lt_range
theorem mem_mk {n w i : Nat} : i ∈ mk n w ↔ i < w ∧ n.testBit i = true := by
  unfold mk; rw [List.mem_filter, List.mem_range]
theorem sorted_ext : ∀ {l m : List Nat}, l.Pairwise (· < ·) → m.Pairwise (· < ·) → (∀ i, i ∈ l ↔ i ∈ m) → l = m
  | [], [], _, _, _ => rfl
  | [], y :: m, _, _, h => by have := (h y).mpr (List.mem_cons_self ..); cases this
  | x :: l, [], _, _, h => by have := (h x).mp (List.mem_cons_self ..); cases this
  | x :: l, y :: m, hl, hm, h => by
    have hl' := List.pairwise_cons.mp hl
    have hm' := List.pairwise_cons.mp hm
    have e : x = y := by
      have h1 := (h x).mp (List.mem_cons_self ..)
      have h2 := (h y).mpr (List.mem_cons_self ..)
      rcases List.mem_cons.mp h1 with a | a
      · exact a
      · rcases List.mem_cons.mp h2 with b | b
        · exact b.symm
        · have c1 := hm'.1 x a
          have c2 := hl'.1 y b
          omega
    subst e
    rw [sorted_ext hl'.2 hm'.2 fun i => ?_]
    constructor
    · intro hi
      rcases List.mem_cons.mp ((h i).mp (List.mem_cons_of_mem _ hi)) with a | a
      · have c := hl'.1 i hi; omega
      · exact a
    · intro hi
      rcases List.mem_cons.mp ((h i).mpr (List.mem_cons_of_mem _ hi)) with a | a
      · have c := hm'.1 i hi; omega
      · exact a
theorem lt_orP {l : List Nat} {w : Nat} (h : ∀ s ∈ l, s < w) : orP l < 2 ^ w := by
  induction l with
  | nil => exact Nat.two_pow_pos _
  | cons s r ih =>
    rw [orP_cons]
    exact Nat.or_lt_two_pow (Nat.pow_lt_pow_right (by decide) (h s (List.mem_cons_self ..))) (ih fun t ht => h t (List.mem_cons_of_mem _ ht))
theorem mk_orP {l m : List Nat} {w : Nat} (hl : ∀ s ∈ l, s < w) (hm : m.Pairwise (· < ·)) (e : ∀ i, i ∈ m ↔ i ∈ l) : mk (orP l) w = m := by
  refine sorted_ext (mk_sorted _ _) hm fun i => ?_
  rw [mem_mk, testBit_orP, e i]
  constructor
  · intro h; exact of_decide_eq_true h.2
  · intro h; exact ⟨hl i h, decide_eq_true h⟩
end My
namespace My
theorem orP3 (far : Nat) (h : 2 < far) : orP [0, 2, far] = 2 ^ far + 5 := by
  rw [← sumP_or]
  · show 2 ^ 0 + (2 ^ 2 + (2 ^ far + 0)) = _
    omega
  · simp
    omega
theorem le_orP {l : List Nat} {s : Nat} (h : s ∈ l) : 2 ^ s ≤ orP l := by
  have e : (orP l).testBit s = true := by rw [testBit_orP]; exact decide_eq_true h
  exact Nat.ge_two_pow_of_testBit e
end My

namespace My
/-! ### the least one beside a list -/
def mexF (l : List Nat) : Nat → Nat → Nat
  | 0, k => k
  | f + 1, k => if k ∈ l then mexF l f (k + 1) else k
def mex (l : List Nat) : Nat := mexF l (l.length + 1) 0
theorem nodup_lt : ∀ (k : Nat) (l : List Nat), l.Nodup →
    (∀ i ∈ l, i < k) → l.length ≤ k
  | 0, [], _, _ => Nat.le_refl _
  | 0, x :: _, _, h => absurd (h x (List.mem_cons_self ..))
    (Nat.not_lt_zero _)
  | k + 1, l, nd, h => by
    by_cases hk : k ∈ l
    · have h1 := nodup_lt k (l.erase k) (nd.erase k) fun i hi => by
        have h2 := (nd.mem_erase_iff).mp hi
        have h3 := h i h2.2
        omega
      rw [List.length_erase_of_mem hk] at h1
      omega
    · have h1 := nodup_lt k l nd fun i hi => by
        have h3 := h i hi
        have h4 : i ≠ k := fun z => hk (z ▸ hi)
        omega
      omega
theorem pigeon : ∀ (k : Nat) (l : List Nat), (∀ i, i < k → i ∈ l) →
    k ≤ l.length
  | 0, _, _ => Nat.zero_le _
  | k + 1, l, h => by
    have hk := h k (Nat.lt_succ_self k)
    have h1 := pigeon k (l.erase k) fun i hi =>
      (List.mem_erase_of_ne (show i ≠ k by omega)).mpr
        (h i (Nat.lt_succ_of_lt hi))
    rw [List.length_erase_of_mem hk] at h1
    have := List.length_pos_of_mem hk
    omega
theorem mexF_spec (l : List Nat) : ∀ (f k : Nat), k + f = l.length + 1 →
    (∀ i, i < k → i ∈ l) → mexF l f k ∉ l ∧
      ∀ i, i < mexF l f k → i ∈ l
  | 0, k, e, h => by
    exfalso
    have := pigeon k l h
    omega
  | f + 1, k, e, h => by
    show (if k ∈ l then mexF l f (k + 1) else k) ∉ l ∧ ∀ i,
      i < (if k ∈ l then mexF l f (k + 1) else k) → i ∈ l
    by_cases hk : k ∈ l
    · rw [if_pos hk]
      refine mexF_spec l f (k + 1) (by omega) fun i hi => ?_
      by_cases e : i = k
      · rw [e]; exact hk
      · exact h i (by omega)
    · rw [if_neg hk]
      exact ⟨hk, h⟩
theorem mex_not (l : List Nat) : mex l ∉ l :=
  (mexF_spec l _ 0 (by omega) (fun i hi => absurd hi (Nat.not_lt_zero i))).1
theorem mex_lt (l : List Nat) {i : Nat} (h : i < mex l) : i ∈ l :=
  (mexF_spec l _ 0 (by omega)
    (fun i hi => absurd hi (Nat.not_lt_zero i))).2 i h
theorem mex_le (l : List Nat) : mex l ≤ l.length :=
  pigeon _ l fun _ h => mex_lt l h
theorem mex_eq {l : List Nat} {m : Nat} (h1 : m ∉ l)
    (h2 : ∀ i, i < m → i ∈ l) : mex l = m := by
  rcases Nat.lt_trichotomy (mex l) m with h | h | h
  · exact absurd (h2 _ h) (mex_not l)
  · exact h
  · exact absurd (mex_lt l h) h1
theorem mex_congr {l m : List Nat} (h : ∀ i, i ∈ l ↔ i ∈ m) :
    mex l = mex m :=
  mex_eq (fun z => mex_not m ((h _).mp z))
    fun _ hi => (h _).mpr (mex_lt m hi)
/-! ### books by homes -/
def bkTo (hs : List Nat) (n : Nat) : Nat → Nat
  | 0 => 0
  | i + 1 => if n.testBit i = true then bkTo hs n i ^^^ hs.getD i 0
    else bkTo hs n i
def bkBy (hs : List Nat) (n : Nat) : Nat := bkTo hs n hs.length
theorem getD_app {l m : List Nat} {i : Nat} (h : i < l.length) :
    (l ++ m).getD i 0 = l.getD i 0 := by
  rw [List.getD_eq_getElem?_getD, List.getD_eq_getElem?_getD,
    List.getElem?_append_left h]
theorem bkTo_xor (hs : List Nat) (a b : Nat) : ∀ i,
    bkTo hs (a ^^^ b) i = bkTo hs a i ^^^ bkTo hs b i
  | 0 => by show 0 = 0 ^^^ 0; simp
  | i + 1 => by
    show (if (a ^^^ b).testBit i = true then _ else _) = _
    rw [Nat.testBit_xor, bkTo_xor hs a b i]
    show _ = (if a.testBit i = true then bkTo hs a i ^^^ hs.getD i 0
      else bkTo hs a i) ^^^ (if b.testBit i = true then
        bkTo hs b i ^^^ hs.getD i 0 else bkTo hs b i)
    generalize bkTo hs a i = x
    generalize bkTo hs b i = y
    generalize hs.getD i 0 = z
    cases a.testBit i <;> cases b.testBit i
    · rfl
    · simp [Nat.xor_assoc]
    · simp only [Bool.xor_false, if_true, Bool.false_eq_true, if_false]
      rw [Nat.xor_assoc, Nat.xor_comm y z, ← Nat.xor_assoc]
    · simp only [Bool.xor_self, Bool.false_eq_true, if_false, if_true]
      rw [Nat.xor_assoc, Nat.xor_comm z, Nat.xor_assoc y z z,
        Nat.xor_self, Nat.xor_zero]
theorem bkBy_xor (hs : List Nat) (a b : Nat) :
    bkBy hs (a ^^^ b) = bkBy hs a ^^^ bkBy hs b := bkTo_xor hs a b _
theorem bkTo_zero (hs : List Nat) : ∀ i, bkTo hs 0 i = 0
  | 0 => rfl
  | i + 1 => by
    show (if (0 : Nat).testBit i = true then _ else _) = _
    rw [Nat.zero_testBit, if_neg (by simp)]
    exact bkTo_zero hs i
theorem bkBy_zero (hs : List Nat) : bkBy hs 0 = 0 := bkTo_zero hs _
/-- what stands behind the marks of n doesn't matter -/
theorem bkTo_stay {hs : List Nat} {n k : Nat} (h : n < 2 ^ k) : ∀ i,
    k ≤ i → bkTo hs n i = bkTo hs n k
  | 0, hi => by rw [show k = 0 by omega]
  | i + 1, hi => by
    by_cases e : k = i + 1
    · rw [e]
    · show (if n.testBit i = true then _ else _) = _
      rw [Nat.testBit_lt_two_pow (Nat.lt_of_lt_of_le h
        (Nat.pow_le_pow_right (by decide) (show k ≤ i by omega))),
        if_neg (by simp)]
      exact bkTo_stay h i (by omega)
theorem bkTo_app (hs ms : List Nat) (n : Nat) : ∀ i, i ≤ hs.length →
    bkTo (hs ++ ms) n i = bkTo hs n i
  | 0, _ => rfl
  | i + 1, h => by
    show (if n.testBit i = true then bkTo (hs ++ ms) n i ^^^
      (hs ++ ms).getD i 0 else _) = _
    rw [bkTo_app hs ms n i (by omega), getD_app h]
    rfl
theorem bkBy_app {hs ms : List Nat} {n : Nat} (h : n < 2 ^ hs.length) :
    bkBy (hs ++ ms) n = bkBy hs n := by
  unfold bkBy
  rw [bkTo_stay h (hs ++ ms).length (by rw [List.length_append]; omega),
    bkTo_app hs ms n _ (Nat.le_refl _)]
theorem bkTo_pow (hs : List Nat) (t : Nat) : ∀ i,
    bkTo hs (2 ^ t) i = if t < i then hs.getD t 0 else 0
  | 0 => by rw [if_neg (Nat.not_lt_zero t)]; rfl
  | i + 1 => by
    show (if (2 ^ t).testBit i = true then _ else _) = _
    rw [bkTo_pow hs t i, Nat.testBit_two_pow]
    by_cases e : t = i
    · subst e
      rw [if_pos (by simp), if_neg (Nat.lt_irrefl t),
        if_pos (Nat.lt_succ_self t), Nat.zero_xor]
    · rw [if_neg (by simpa using e)]
      by_cases h : t < i
      · rw [if_pos h, if_pos (by omega)]
      · rw [if_neg h, if_neg (by omega)]
theorem getD_len {hs : List Nat} {t : Nat} (h : hs.length ≤ t) :
    hs.getD t 0 = 0 := by
  rw [List.getD_eq_getElem?_getD, List.getElem?_eq_none h]; rfl
theorem bkBy_pow (hs : List Nat) (t : Nat) :
    bkBy hs (2 ^ t) = hs.getD t 0 := by
  unfold bkBy
  rw [bkTo_pow]
  by_cases h : t < hs.length
  · rw [if_pos h]
  · rw [if_neg h, getD_len (by omega)]
/-! ### homes -/
/-- bit length -/
def bL (n : Nat) : Nat := if n = 0 then 0 else n.log2 + 1
theorem bL_lt (n : Nat) : n < 2 ^ bL n := by
  unfold bL
  split
  · rename_i h; rw [h]; exact Nat.two_pow_pos _
  · exact Nat.lt_log2_self
theorem bL_le {n k : Nat} (h : n < 2 ^ k) : bL n ≤ k := by
  unfold bL
  split
  · exact Nat.zero_le _
  · rename_i h0
    exact (Nat.log2_lt h0).mpr h
theorem bL_pos {n : Nat} (h : n ≠ 0) : 0 < bL n := by
  unfold bL; rw [if_neg h]; exact Nat.succ_pos _
/-- the top mark -/
def tp (n : Nat) : Nat := bL n - 1
theorem tp_bit {n : Nat} (h : n ≠ 0) : n.testBit (tp n) = true := by
  unfold tp bL
  rw [if_neg h]
  exact Nat.testBit_of_two_pow_le_and_two_pow_add_one_gt
    (Nat.log2_self_le h) Nat.lt_log2_self
theorem tp_le {n : Nat} (h : n ≠ 0) : 2 ^ tp n ≤ n :=
  Nat.ge_two_pow_of_testBit (tp_bit h)
theorem lt_tp (n : Nat) : n < 2 ^ (tp n + 1) := by
  by_cases h : n = 0
  · rw [h]; exact Nat.two_pow_pos _
  · have := bL_lt n
    have h2 := bL_pos h
    unfold tp
    rw [show bL n - 1 + 1 = bL n by omega]; exact this
theorem tp_of {n k : Nat} (h1 : n.testBit k = true)
    (h2 : n < 2 ^ (k + 1)) : tp n = k := by
  have h0 : n ≠ 0 := fun z => by rw [z, Nat.zero_testBit] at h1; cases h1
  have h3 := bL_le h2
  have h4 := Nat.ge_two_pow_of_testBit h1
  unfold tp
  have h5 : k < bL n := by
    rcases Nat.lt_or_ge k (bL n) with h | h
    · exact h
    · have := Nat.lt_of_lt_of_le (bL_lt n)
        (Nat.pow_le_pow_right (show 0 < 2 by decide) h)
      omega
  omega
/-- a number without its top mark -/
def low (n : Nat) : Nat := n ^^^ 2 ^ tp n
theorem low_lt {n : Nat} (h : n ≠ 0) : low n < 2 ^ tp n := by
  have e : low n < 2 ^ (tp n + 1) := Nat.xor_lt_two_pow (lt_tp n)
    (Nat.pow_lt_pow_right (by decide) (Nat.lt_succ_self _))
  rcases Nat.lt_or_ge (low n) (2 ^ tp n) with h1 | h1
  · exact h1
  · exfalso
    have h2 := Nat.testBit_of_two_pow_le_and_two_pow_add_one_gt h1 e
    unfold low at h2
    rw [Nat.testBit_xor, tp_bit h, Nat.testBit_two_pow_self] at h2
    cases h2
theorem low_xor (n : Nat) : low n ^^^ 2 ^ tp n = n := by
  unfold low
  rw [Nat.xor_assoc, Nat.xor_self, Nat.xor_zero]
def lowAt (bs : List Nat) (p : Nat) : List Nat :=
  (bs.filter fun b => decide (tp b = p)).map low
def homesTo (bs : List Nat) : Nat → List Nat
  | 0 => []
  | k + 1 => homesTo bs k ++
    [mex ((lowAt bs k).map (bkBy (homesTo bs k)))]
theorem homesTo_len (bs : List Nat) : ∀ k, (homesTo bs k).length = k
  | 0 => rfl
  | k + 1 => by
    show (homesTo bs k ++ [_]).length = _
    rw [List.length_append, homesTo_len bs k]; rfl
def hgt (bs : List Nat) : Nat := bs.foldl (fun m b => max m (bL b)) 0
theorem foldl_max (bs : List Nat) : ∀ m,
    bs.foldl (fun m b => max m (bL b)) m = max m (hgt bs) := by
  induction bs with
  | nil => intro m; show m = max m 0; omega
  | cons b r ih =>
    intro m
    show r.foldl _ (max m (bL b)) = max m (r.foldl _ (max 0 (bL b)))
    rw [ih, ih (max 0 (bL b))]
    omega
theorem hgt_cons (b : Nat) (r : List Nat) :
    hgt (b :: r) = max (bL b) (hgt r) := by
  show r.foldl _ (max 0 (bL b)) = _
  rw [foldl_max]; omega
theorem le_hgt {bs : List Nat} {b : Nat} (h : b ∈ bs) :
    bL b ≤ hgt bs := by
  induction bs with
  | nil => cases h
  | cons x r ih =>
    rw [hgt_cons]
    rcases List.mem_cons.mp h with e | e
    · rw [e]; omega
    · have := ih e; omega
theorem hgt_le {bs : List Nat} {k : Nat} (h : ∀ b ∈ bs, bL b ≤ k) :
    hgt bs ≤ k := by
  induction bs with
  | nil => exact Nat.zero_le _
  | cons x r ih =>
    rw [hgt_cons]
    have h1 := h x (List.mem_cons_self ..)
    have h2 := ih fun b hb => h b (List.mem_cons_of_mem _ hb)
    omega
def homes (bs : List Nat) : List Nat := homesTo bs (hgt bs)
theorem homes_len (bs : List Nat) : (homes bs).length = hgt bs :=
  homesTo_len bs _
theorem homesTo_pre (bs : List Nat) (k : Nat) : ∀ d, ∃ ms,
    homesTo bs (k + d) = homesTo bs k ++ ms
  | 0 => ⟨[], (List.append_nil _).symm⟩
  | d + 1 => by
    obtain ⟨ms, e⟩ := homesTo_pre bs k d
    refine ⟨ms ++ [mex ((lowAt bs (k + d)).map
      (bkBy (homesTo bs (k + d))))], ?_⟩
    show homesTo bs (k + d) ++ [mex ((lowAt bs (k + d)).map
      (bkBy (homesTo bs (k + d))))] = _
    rw [← List.append_assoc, ← e]
/-- the book of a number -/
def bk (bs : List Nat) (n : Nat) : Nat := bkBy (homes bs) n
theorem bk_xor (bs : List Nat) (a b : Nat) :
    bk bs (a ^^^ b) = bk bs a ^^^ bk bs b := bkBy_xor _ a b
theorem bk_low (bs : List Nat) {n k : Nat} (h : n < 2 ^ k)
    (hk : k ≤ hgt bs) : bk bs n = bkBy (homesTo bs k) n := by
  obtain ⟨ms, e⟩ := homesTo_pre bs k (hgt bs - k)
  rw [show k + (hgt bs - k) = hgt bs by omega] at e
  unfold bk homes
  rw [e]
  exact bkBy_app (by rw [homesTo_len]; exact h)
/-- the home of a power -/
def hm (bs : List Nat) (t : Nat) : Nat := (homes bs).getD t 0
theorem bk_pow (bs : List Nat) (t : Nat) : bk bs (2 ^ t) = hm bs t :=
  bkBy_pow _ t
theorem hm_eq {bs : List Nat} (h0 : ∀ b ∈ bs, b ≠ 0) {t : Nat}
    (h : t < hgt bs) :
    hm bs t = mex ((lowAt bs t).map (bk bs)) := by
  have e1 : hm bs t = mex ((lowAt bs t).map (bkBy (homesTo bs t))) := by
    obtain ⟨ms, e⟩ := homesTo_pre bs (t + 1) (hgt bs - (t + 1))
    rw [show t + 1 + (hgt bs - (t + 1)) = hgt bs by omega] at e
    unfold hm homes
    rw [e, getD_app (by rw [homesTo_len]; omega)]
    show (homesTo bs t ++ [_]).getD t 0 = _
    rw [List.getD_eq_getElem?_getD, List.getElem?_append_right
      (by rw [homesTo_len]; exact Nat.le_refl _), homesTo_len,
      Nat.sub_self]
    rfl
  rw [e1]
  congr 1
  refine List.map_congr_left fun x hx => ?_
  obtain ⟨b, hb, rfl⟩ := List.mem_map.mp hx
  obtain ⟨h1, h2⟩ := List.mem_filter.mp hb
  have h3 := of_decide_eq_true h2
  refine (bk_low bs ?_ (by omega)).symm
  rw [← h3]; exact low_lt (h0 b h1)
/-- a bar never leads to its own book -/
theorem bk_bar {bs : List Nat} (h0 : ∀ b ∈ bs, b ≠ 0) {b : Nat}
    (hb : b ∈ bs) : bk bs b ≠ 0 := by
  intro z
  have h1 := h0 b hb
  have h2 : tp b < hgt bs := by
    have := le_hgt hb
    have := bL_pos h1
    unfold tp; omega
  have e := hm_eq h0 h2
  have e2 : bk bs b = bk bs (low b) ^^^ hm bs (tp b) := by
    rw [← bk_pow, ← bk_xor, low_xor]
  rw [z] at e2
  have e3 : bk bs (low b) = hm bs (tp b) := by
    have := congrArg (fun x => x ^^^ hm bs (tp b)) e2
    simp only [Nat.zero_xor, Nat.xor_assoc, Nat.xor_self,
      Nat.xor_zero] at this
    exact this.symm
  refine mex_not ((lowAt bs (tp b)).map (bk bs)) ?_
  rw [← e, ← e3]
  refine List.mem_map.mpr ⟨low b, List.mem_map.mpr ⟨b, ?_, rfl⟩, rfl⟩
  exact List.mem_filter.mpr ⟨hb, decide_eq_true rfl⟩
theorem hm_high {bs : List Nat} {t : Nat} (h : hgt bs ≤ t) :
    hm bs t = 0 := getD_len (by rw [homes_len]; exact h)
/-- some bar of a power keeps it out of each lesser book -/
theorem bar_to {bs : List Nat} (h0 : ∀ b ∈ bs, b ≠ 0) {t v : Nat}
    (h : v < hm bs t) : ∃ b ∈ bs, tp b = t ∧
      bk bs b = hm bs t ^^^ v := by
  have ht : t < hgt bs := by
    rcases Nat.lt_or_ge t (hgt bs) with h1 | h1
    · exact h1
    · rw [hm_high h1] at h; exact absurd h (Nat.not_lt_zero v)
  have h2 := h
  rw [hm_eq h0 ht] at h2
  obtain ⟨x, hx, ex⟩ := List.mem_map.mp (mex_lt _ h2)
  obtain ⟨b, hb, rfl⟩ := List.mem_map.mp hx
  obtain ⟨h3, h4⟩ := List.mem_filter.mp hb
  have h5 := of_decide_eq_true h4
  refine ⟨b, h3, h5, ?_⟩
  have e2 : bk bs b = bk bs (low b) ^^^ hm bs (tp b) := by
    rw [← bk_pow, ← bk_xor, low_xor]
  rw [e2, ex, h5, Nat.xor_comm]
theorem lt_of_bit {x y i : Nat} (hx : x.testBit i = false)
    (hy : y.testBit i = true)
    (h : ∀ j, i < j → x.testBit j = y.testBit j) : x < y := by
  have ed : x / 2 ^ (i + 1) = y / 2 ^ (i + 1) := by
    apply Nat.eq_of_testBit_eq
    intro j
    rw [Nat.testBit_div_two_pow, Nat.testBit_div_two_pow]
    exact h _ (by omega)
  have e2 : 2 ^ (i + 1) = 2 ^ i * 2 := Nat.pow_succ ..
  have h1 : y % 2 ^ (i + 1) ≥ 2 ^ i := by
    apply Nat.ge_two_pow_of_testBit
    rw [Nat.testBit_mod_two_pow, hy]
    simp
  have h2 : x % 2 ^ (i + 1) < 2 ^ i := by
    rcases Nat.lt_or_ge (x % 2 ^ (i + 1)) (2 ^ i) with h | h
    · exact h
    · exfalso
      have h3 : x % 2 ^ (i + 1) < 2 ^ (i + 1) :=
        Nat.mod_lt _ (Nat.two_pow_pos _)
      have h4 := Nat.testBit_of_two_pow_le_and_two_pow_add_one_gt h h3
      rw [Nat.testBit_mod_two_pow, hx] at h4
      simp at h4
  have e3 := Nat.div_add_mod x (2 ^ (i + 1))
  have e4 := Nat.div_add_mod y (2 ^ (i + 1))
  rw [ed] at e3
  omega
/-- the sum of number and bar is less just where the number has the
top mark of the bar -/
theorem xor_lt {n b : Nat} (h : b ≠ 0) :
    n ^^^ b < n ↔ n.testBit (tp b) = true := by
  have hi : ∀ j, tp b < j → (n ^^^ b).testBit j = n.testBit j := by
    intro j hj
    rw [Nat.testBit_xor, Nat.testBit_lt_two_pow (Nat.lt_of_lt_of_le
      (lt_tp b) (Nat.pow_le_pow_right (by decide) hj)), Bool.xor_false]
  have hb := tp_bit h
  constructor
  · intro hl
    cases hn : n.testBit (tp b) with
    | true => rfl
    | false =>
      exfalso
      have : n < n ^^^ b := lt_of_bit (i := tp b) hn
        (by rw [Nat.testBit_xor, hn, hb]; rfl) fun j hj => (hi j hj).symm
      omega
  · intro hn
    exact lt_of_bit (i := tp b)
      (by rw [Nat.testBit_xor, hn, hb]; rfl) hn hi
theorem bkTo_bit (hs : List Nat) (n j : Nat) : ∀ i,
    (bkTo hs n i).testBit j = true → ∃ t, t < i ∧
      n.testBit t = true ∧ (hs.getD t 0).testBit j = true
  | 0, h => by
    have e : bkTo hs n 0 = 0 := rfl
    rw [e, Nat.zero_testBit] at h
    cases h
  | i + 1, h => by
    have e : bkTo hs n (i + 1) = if n.testBit i = true then
      bkTo hs n i ^^^ hs.getD i 0 else bkTo hs n i := rfl
    rw [e] at h
    by_cases hn : n.testBit i = true
    · rw [if_pos hn, Nat.testBit_xor] at h
      by_cases h2 : (hs.getD i 0).testBit j = true
      · exact ⟨i, Nat.lt_succ_self i, hn, h2⟩
      · rw [Bool.eq_false_iff.mpr h2, Bool.xor_false] at h
        obtain ⟨t, a, b, c⟩ := bkTo_bit hs n j i h
        exact ⟨t, by omega, b, c⟩
    · rw [if_neg hn] at h
      obtain ⟨t, a, b, c⟩ := bkTo_bit hs n j i h
      exact ⟨t, by omega, b, c⟩
/-- THE RULE: a number's book is the least one in which no number less
than it lies that it sees -/
theorem bk_rule {bs : List Nat} (h0 : ∀ b ∈ bs, b ≠ 0) (n : Nat) :
    bk bs n = mex (((bs.filter fun b => decide (n ^^^ b < n)).map
      fun b => n ^^^ b).map (bk bs)) := by
  refine (mex_eq ?_ ?_).symm
  · intro hm'
    obtain ⟨x, hx, ex⟩ := List.mem_map.mp hm'
    obtain ⟨b, hb, rfl⟩ := List.mem_map.mp hx
    obtain ⟨h1, _⟩ := List.mem_filter.mp hb
    rw [bk_xor] at ex
    have h2 : bk bs b = 0 := by
      have := congrArg (fun x => bk bs n ^^^ x) ex
      simp only [← Nat.xor_assoc, Nat.xor_self, Nat.zero_xor] at this
      exact this
    exact bk_bar h0 h1 h2
  · intro v hv
    have hd : bk bs n ^^^ v ≠ 0 := by
      intro z
      have := congrArg (fun x => x ^^^ v) z
      simp only [Nat.xor_assoc, Nat.xor_self, Nat.xor_zero,
        Nat.zero_xor] at this
      omega
    have h1 : (bk bs n).testBit (tp (bk bs n ^^^ v)) = true := by
      refine (xor_lt hd).mp ?_
      rw [← Nat.xor_assoc, Nat.xor_self, Nat.zero_xor]
      exact hv
    obtain ⟨t, _, ht, hht⟩ := bkTo_bit _ n _ _ h1
    have h2 : hm bs t ^^^ (bk bs n ^^^ v) < hm bs t :=
      (xor_lt hd).mpr hht
    obtain ⟨b, hb, hbt, ebk⟩ := bar_to h0 h2
    rw [← Nat.xor_assoc, Nat.xor_self, Nat.zero_xor] at ebk
    refine List.mem_map.mpr ⟨n ^^^ b, List.mem_map.mpr ⟨b,
      List.mem_filter.mpr ⟨hb, decide_eq_true ((xor_lt (h0 b hb)).mpr
        (by rw [hbt]; exact ht))⟩, rfl⟩, ?_⟩
    rw [bk_xor, ebk, ← Nat.xor_assoc, Nat.xor_self, Nat.zero_xor]
end My

namespace My
/-! ### the rows of a span -/
def sm : List Nat → Nat → Nat
  | [], _ => 0
  | r :: R, n => (if n.testBit (tp r) = true then r else 0) ^^^ sm R n
def rs (R : List Nat) (n : Nat) : Nat := n ^^^ sm R n
theorem xor_swap (a b c d : Nat) :
    (a ^^^ b) ^^^ (c ^^^ d) = (a ^^^ c) ^^^ (b ^^^ d) := by
  rw [Nat.xor_assoc, Nat.xor_assoc, ← Nat.xor_assoc b c d,
    ← Nat.xor_assoc c b d, Nat.xor_comm b c]
theorem sm_xor : ∀ (R : List Nat) (a b : Nat),
    sm R (a ^^^ b) = sm R a ^^^ sm R b
  | [], _, _ => (Nat.xor_self 0).symm
  | r :: R, a, b => by
    show (if (a ^^^ b).testBit (tp r) = true then r else 0) ^^^
      sm R (a ^^^ b) = ((if a.testBit (tp r) = true then r else 0) ^^^
        sm R a) ^^^ ((if b.testBit (tp r) = true then r else 0) ^^^ sm R b)
    rw [sm_xor R a b, xor_swap, Nat.testBit_xor]
    congr 1
    cases a.testBit (tp r) <;> cases b.testBit (tp r) <;> simp
theorem rs_xor (R : List Nat) (a b : Nat) :
    rs R (a ^^^ b) = rs R a ^^^ rs R b := by
  unfold rs
  rw [sm_xor, xor_swap]
theorem sm_perm {R S : List Nat} (h : R.Perm S) (n : Nat) :
    sm R n = sm S n := by
  induction h with
  | nil => rfl
  | cons x _ ih =>
    show _ ^^^ sm _ n = _ ^^^ sm _ n
    rw [ih]
  | swap x y l =>
    show (if n.testBit (tp y) = true then y else 0) ^^^
      ((if n.testBit (tp x) = true then x else 0) ^^^ sm l n) =
      (if n.testBit (tp x) = true then x else 0) ^^^
      ((if n.testBit (tp y) = true then y else 0) ^^^ sm l n)
    rw [← Nat.xor_assoc, ← Nat.xor_assoc, Nat.xor_comm
      (if n.testBit (tp y) = true then y else 0)]
  | trans _ _ a b => exact a.trans b
theorem rs_perm {R S : List Nat} (h : R.Perm S) (n : Nat) :
    rs R n = rs S n := by
  unfold rs; rw [sm_perm h]
/-- two rows, neither with the other's top mark -/
def Apart (r s : Nat) : Prop :=
  r.testBit (tp s) = false ∧ s.testBit (tp r) = false
structure Rows (R : List Nat) : Prop where
  nz : ∀ r ∈ R, r ≠ 0
  ap : R.Pairwise Apart
theorem Rows.nil : Rows [] := ⟨(fun r h => nomatch h), List.Pairwise.nil⟩
theorem Rows.tail {r : Nat} {R : List Nat} (h : Rows (r :: R)) : Rows R :=
  ⟨fun x hx => h.nz x (List.mem_cons_of_mem _ hx),
    (List.pairwise_cons.mp h.ap).2⟩
theorem sm_zero : ∀ {R : List Nat} {n : Nat},
    (∀ r ∈ R, n.testBit (tp r) = false) → sm R n = 0
  | [], _, _ => rfl
  | r :: R, n, h => by
    show (if n.testBit (tp r) = true then r else 0) ^^^ sm R n = 0
    rw [h r (List.mem_cons_self ..), if_neg Bool.false_ne_true,
      sm_zero fun x hx => h x (List.mem_cons_of_mem _ hx)]
    rfl
theorem sm_off : ∀ {R : List Nat} {t : Nat} (n : Nat),
    (∀ r ∈ R, r.testBit t = false) → (sm R n).testBit t = false
  | [], t, n, _ => Nat.zero_testBit t
  | r :: R, t, n, h => by
    show ((if n.testBit (tp r) = true then r else 0) ^^^ sm R n).testBit t
      = false
    rw [Nat.testBit_xor, sm_off n fun x hx => h x
      (List.mem_cons_of_mem _ hx)]
    split
    · rw [h r (List.mem_cons_self ..)]; rfl
    · rw [Nat.zero_testBit]; rfl
theorem sm_top : ∀ {R : List Nat} (n : Nat), Rows R → ∀ r ∈ R,
    (sm R n).testBit (tp r) = n.testBit (tp r)
  | [], n, _, r, hr => nomatch hr
  | x :: R, n, h, r, hr => by
    show ((if n.testBit (tp x) = true then x else 0) ^^^ sm R n).testBit
      (tp r) = _
    rw [Nat.testBit_xor]
    obtain ⟨a, b⟩ := List.pairwise_cons.mp h.ap
    rcases List.mem_cons.mp hr with e | hr
    · subst e
      rw [sm_off n fun y hy => (a y hy).2, Bool.xor_false]
      by_cases hb : n.testBit (tp r) = true
      · rw [if_pos hb, hb, tp_bit (h.nz r (List.mem_cons_self ..))]
      · rw [if_neg hb, Nat.zero_testBit]
        simpa using hb
    · rw [sm_top n h.tail r hr]
      have hx : (if n.testBit (tp x) = true then x else 0).testBit (tp r) =
          false := by
        split
        · exact (a r hr).1
        · exact Nat.zero_testBit _
      rw [hx, Bool.false_xor]
theorem rs_top {R : List Nat} (h : Rows R) (n : Nat) : ∀ r ∈ R,
    (rs R n).testBit (tp r) = false := by
  intro r hr
  unfold rs
  rw [Nat.testBit_xor, sm_top n h r hr, Bool.xor_self]
theorem rs_of {R : List Nat} {n : Nat}
    (h : ∀ r ∈ R, n.testBit (tp r) = false) : rs R n = n := by
  unfold rs
  rw [sm_zero h, Nat.xor_zero]
theorem rs_idem {R : List Nat} (h : Rows R) (n : Nat) :
    rs R (rs R n) = rs R n := rs_of (rs_top h n)
theorem rs_sm {R : List Nat} (h : Rows R) (n : Nat) :
    rs R (sm R n) = 0 := by
  have e : sm R n = n ^^^ rs R n := by
    unfold rs
    rw [← Nat.xor_assoc, Nat.xor_self, Nat.zero_xor]
  rw [e, rs_xor, rs_idem h, Nat.xor_self]
theorem rs_row {R : List Nat} (h : Rows R) {r : Nat} (hr : r ∈ R) :
    rs R r = 0 := by
  have : ∀ {R : List Nat}, Rows R → ∀ r ∈ R, sm R r = r := by
    intro R
    induction R with
    | nil => intro _ r hr; cases hr
    | cons x R ih =>
      intro h r hr
      obtain ⟨a, b⟩ := List.pairwise_cons.mp h.ap
      show (if r.testBit (tp x) = true then x else 0) ^^^ sm R r = r
      rcases List.mem_cons.mp hr with e | hr
      · subst e
        rw [if_pos (tp_bit (h.nz r (List.mem_cons_self ..))),
          sm_zero fun y hy => (a y hy).1, Nat.xor_zero]
      · rw [if_neg (by rw [(a r hr).2]; exact Bool.false_ne_true),
          ih h.tail r hr, Nat.zero_xor]
  unfold rs
  rw [this h r hr, Nat.xor_self]
theorem rs_le {R : List Nat} (h : Rows R) (n : Nat) : rs R n ≤ n := by
  by_cases hz : sm R n = 0
  · unfold rs
    rw [hz, Nat.xor_zero]
    exact Nat.le_refl _
  · -- the greatest mark of the sum is a row's top mark that n has
    have key : ∀ {R : List Nat}, Rows R → sm R n ≠ 0 →
        ∃ r ∈ R, n.testBit (tp r) = true ∧ sm R n < 2 ^ (tp r + 1) := by
      intro R
      induction R with
      | nil => intro _ h; exact absurd rfl h
      | cons x R ih =>
        intro h hne
        by_cases hb : n.testBit (tp x) = true
        · by_cases hs : sm R n = 0
          · refine ⟨x, List.mem_cons_self .., hb, ?_⟩
            show (if n.testBit (tp x) = true then x else 0) ^^^ sm R n < _
            rw [if_pos hb, hs, Nat.xor_zero]
            exact lt_tp x
          · obtain ⟨r, hr, e1, e2⟩ := ih h.tail hs
            rcases Nat.le_total (tp x) (tp r) with g | g
            · refine ⟨r, List.mem_cons_of_mem _ hr, e1, ?_⟩
              show (if n.testBit (tp x) = true then x else 0) ^^^ sm R n < _
              rw [if_pos hb]
              exact Nat.xor_lt_two_pow (Nat.lt_of_lt_of_le (lt_tp x)
                (Nat.pow_le_pow_right (by decide) (by omega))) e2
            · refine ⟨x, List.mem_cons_self .., hb, ?_⟩
              show (if n.testBit (tp x) = true then x else 0) ^^^ sm R n < _
              rw [if_pos hb]
              exact Nat.xor_lt_two_pow (lt_tp x) (Nat.lt_of_lt_of_le e2
                (Nat.pow_le_pow_right (by decide) (by omega)))
        · have es : sm (x :: R) n = sm R n := by
            show (if n.testBit (tp x) = true then x else 0) ^^^ sm R n = _
            rw [if_neg hb, Nat.zero_xor]
          rw [es] at hne ⊢
          obtain ⟨r, hr, e1, e2⟩ := ih h.tail hne
          exact ⟨r, List.mem_cons_of_mem _ hr, e1, e2⟩
    obtain ⟨r, hr, e1, e2⟩ := key h hz
    refine Nat.le_of_lt (lt_of_bit (i := tp r) (rs_top h n r hr) e1 ?_)
    intro j hj
    unfold rs
    rw [Nat.testBit_xor, Nat.testBit_lt_two_pow (Nat.lt_of_lt_of_le e2
      (Nat.pow_le_pow_right (by decide) (show tp r + 1 ≤ j by omega))),
      Bool.xor_false]
/-- a row more -/
def more (x : Nat) (R : List Nat) : List Nat :=
  x :: R.map fun r => if r.testBit (tp x) = true then r ^^^ x else r
theorem tp_eq {n k : Nat} (h0 : n ≠ 0) (h1 : n.testBit k = true)
    (h2 : ∀ j, k < j → n.testBit j = false) : tp n = k := by
  rcases Nat.lt_trichotomy (tp n) k with g | g | g
  · have := Nat.testBit_lt_two_pow (Nat.lt_of_lt_of_le (lt_tp n)
      (Nat.pow_le_pow_right (show 0 < 2 by decide)
        (show tp n + 1 ≤ k by omega)))
    rw [this] at h1; cases h1
  · exact g
  · have := tp_bit h0
    rw [h2 _ g] at this; cases this
theorem bit_high {n j : Nat} (h : tp n < j) : n.testBit j = false :=
  Nat.testBit_lt_two_pow (Nat.lt_of_lt_of_le (lt_tp n)
    (Nat.pow_le_pow_right (by decide) h))
def fx (x r : Nat) : Nat := if r.testBit (tp x) = true then r ^^^ x else r
theorem fx_top {R : List Nat} (h : Rows R) {x : Nat} (x0 : x ≠ 0)
    (hx : ∀ r ∈ R, x.testBit (tp r) = false) {r : Nat} (hr : r ∈ R) :
    tp (fx x r) = tp r ∧ fx x r ≠ 0 := by
  unfold fx
  split
  · rename_i hb
    have a1 : tp x ≤ tp r := by
      rcases Nat.lt_or_ge (tp r) (tp x) with g | g
      · rw [bit_high g] at hb; cases hb
      · exact g
    have a2 : tp x ≠ tp r := fun z => by
      have h1 := tp_bit x0
      rw [z, hx r hr] at h1; cases h1
    have b1 : (r ^^^ x).testBit (tp r) = true := by
      rw [Nat.testBit_xor, tp_bit (h.nz r hr), hx r hr]; rfl
    have n0 : r ^^^ x ≠ 0 := fun z => by
      rw [z, Nat.zero_testBit] at b1; cases b1
    refine ⟨tp_eq n0 b1 ?_, n0⟩
    intro j hj
    rw [Nat.testBit_xor, bit_high hj, bit_high (show tp x < j by omega)]
    rfl
  · exact ⟨rfl, h.nz r hr⟩
theorem more_rows {R : List Nat} (h : Rows R) {x : Nat} (x0 : x ≠ 0)
    (hx : ∀ r ∈ R, x.testBit (tp r) = false) : Rows (more x R) := by
  constructor
  · intro r hr
    rcases List.mem_cons.mp hr with e | hr
    · rw [e]; exact x0
    · obtain ⟨s, hs, rfl⟩ := List.mem_map.mp hr
      exact (fx_top h x0 hx hs).2
  · show List.Pairwise _ (x :: R.map (fx x))
    rw [List.pairwise_cons, List.pairwise_map]
    refine ⟨?_, ?_⟩
    · intro r hr
      obtain ⟨s, hs, rfl⟩ := List.mem_map.mp hr
      constructor
      · rw [(fx_top h x0 hx hs).1]; exact hx s hs
      · unfold fx
        split
        · rename_i hb
          rw [Nat.testBit_xor, hb, tp_bit x0]; rfl
        · rename_i hb
          simpa using hb
    · refine h.ap.imp_of_mem ?_
      intro a b ha hb hab
      have off : ∀ {r s : Nat}, r ∈ R → s ∈ R → r.testBit (tp s) = false →
          (fx x r).testBit (tp (fx x s)) = false := by
        intro r s hr hs e
        rw [(fx_top h x0 hx hs).1]
        unfold fx
        split
        · rw [Nat.testBit_xor, e, hx s hs]; rfl
        · exact e
      exact ⟨off ha hb hab.1, off hb ha hab.2⟩
theorem more_tops {R : List Nat} (h : Rows R) {x : Nat} (x0 : x ≠ 0)
    (hx : ∀ r ∈ R, x.testBit (tp r) = false) :
    (more x R).map tp = tp x :: R.map tp := by
  show tp x :: (R.map (fx x)).map tp = _
  rw [List.map_map]
  congr 1
  exact List.map_congr_left fun r hr => (fx_top h x0 hx hr).1
theorem rs_of_rows {S : List Nat} : ∀ {R : List Nat},
    (∀ r ∈ R, rs S r = 0) → ∀ m, rs S (sm R m) = 0
  | [], _, m => by
    show rs S 0 = 0
    exact rs_of fun r _ => Nat.zero_testBit _
  | r :: R, h, m => by
    show rs S ((if m.testBit (tp r) = true then r else 0) ^^^ sm R m) = 0
    rw [rs_xor, rs_of_rows fun x hx => h x (List.mem_cons_of_mem _ hx)]
    split
    · rw [h r (List.mem_cons_self ..)]; rfl
    · rw [rs_of fun r _ => Nat.zero_testBit _]; rfl
theorem more_keeps {R : List Nat} (h : Rows R) {x : Nat} (x0 : x ≠ 0)
    (hx : ∀ r ∈ R, x.testBit (tp r) = false) {m : Nat}
    (hm' : rs R m = 0) : rs (more x R) m = 0 := by
  have hr := more_rows h x0 hx
  have e : m = sm R m := by
    have h1 : m ^^^ sm R m = 0 := hm'
    have := congrArg (fun z => z ^^^ sm R m) h1
    simpa [Nat.xor_assoc] using this
  rw [e]
  refine rs_of_rows (fun r hrr => ?_) m
  have h1 : rs (more x R) (fx x r) = 0 := rs_row hr
    (List.mem_cons_of_mem _ (List.mem_map.mpr ⟨r, hrr, rfl⟩))
  have h2 : rs (more x R) x = 0 := rs_row hr (List.mem_cons_self ..)
  unfold fx at h1
  split at h1
  · rw [rs_xor, h2, Nat.xor_zero] at h1; exact h1
  · exact h1
theorem more_new {R : List Nat} (h : Rows R) {n : Nat} (x0 : rs R n ≠ 0) :
    rs (more (rs R n) R) n = 0 := by
  have hx := rs_top h n
  have hr := more_rows h x0 hx
  have e : n = rs R n ^^^ sm R n := by
    unfold rs
    rw [Nat.xor_assoc, Nat.xor_self, Nat.xor_zero]
  have h1 : rs (more (rs R n) R) (rs R n) = 0 :=
    rs_row hr (List.mem_cons_self ..)
  have h2 : rs (more (rs R n) R) (sm R n) = 0 :=
    more_keeps h x0 hx (rs_sm h n)
  have h3 := rs_xor (more (rs R n) R) (rs R n) (sm R n)
  rw [← e, h1, h2] at h3
  exact h3
end My

namespace My
open PySem PySem.Spec PyProof.Rows L2
def topS (i : Nat) : Stmt :=
  PySem.Challenge.pw_firstbooks_k29_whole_rests.main.body.getD i (.Pass ⟨0, 0, 0, 0⟩)
abbrev s_top : Stmt := topS 2
abbrev N_top : List Str := ["number"]
theorem sc_top : FnScope N_top ["number"] (defScope s_top) :=
  ⟨rfl, rfl, rfl, by decide +kernel, rfl, by decide +kernel, by decide +kernel⟩
abbrev s_Span_ddinitdd : Stmt := inClass (topS 4) 0
abbrev N_Span_ddinitdd : List Str := ["self", "numbers", "number"]
theorem sc_Span_ddinitdd : FnScope N_Span_ddinitdd ["self", "numbers"] (defScope s_Span_ddinitdd) :=
  ⟨rfl, rfl, rfl, by decide +kernel, rfl, by decide +kernel, by decide +kernel⟩
abbrev s_Span_add : Stmt := inClass (topS 4) 1
abbrev N_Span_add : List Str := ["self", "number", "row", "places", "pairs", "old", "made"]
theorem sc_Span_add : FnScope N_Span_add ["self", "number"] (defScope s_Span_add) :=
  ⟨rfl, rfl, rfl, by decide +kernel, rfl, by decide +kernel, by decide +kernel⟩
abbrev s_Span_rank : Stmt := inClass (topS 4) 2
abbrev N_Span_rank : List Str := ["self"]
theorem sc_Span_rank : FnScope N_Span_rank ["self"] (defScope s_Span_rank) :=
  ⟨rfl, rfl, rfl, by decide +kernel, rfl, by decide +kernel, by decide +kernel⟩
abbrev s_Span_holds : Stmt := inClass (topS 4) 3
abbrev N_Span_holds : List Str := ["self", "number"]
theorem sc_Span_holds : FnScope N_Span_holds ["self", "number"] (defScope s_Span_holds) :=
  ⟨rfl, rfl, rfl, by decide +kernel, rfl, by decide +kernel, by decide +kernel⟩
abbrev s_Span_rows : Stmt := inClass (topS 4) 7
abbrev N_Span_rows : List Str := ["self", "row", "places"]
theorem sc_Span_rows : FnScope N_Span_rows ["self"] (defScope s_Span_rows) :=
  ⟨rfl, rfl, rfl, by decide +kernel, rfl, by decide +kernel, by decide +kernel⟩
abbrev s_Span_rest : Stmt := inClass (topS 4) 8
abbrev N_Span_rest : List Str := ["self", "number"]
theorem sc_Span_rest : FnScope N_Span_rest ["self", "number"] (defScope s_Span_rest) :=
  ⟨rfl, rfl, rfl, by decide +kernel, rfl, by decide +kernel, by decide +kernel⟩
abbrev s_Span__reduced : Stmt := inClass (topS 4) 10
abbrev N_Span__reduced : List Str := ["self", "number", "places", "left", "row", "made"]
theorem sc_Span__reduced : FnScope N_Span__reduced ["self", "number", "places"] (defScope s_Span__reduced) :=
  ⟨rfl, rfl, rfl, by decide +kernel, rfl, by decide +kernel, by decide +kernel⟩
abbrev s_pen : Stmt := topS 6
abbrev N_pen : List Str := ["script", "cell"]
theorem sc_pen : FnScope N_pen ["script"] (defScope s_pen) :=
  ⟨rfl, rfl, rfl, by decide +kernel, rfl, by decide +kernel, by decide +kernel⟩
abbrev s_draw : Stmt := topS 7
abbrev N_draw : List Str := ["pen", "many", "digit", "begun", "cell", "mixed"]
theorem sc_draw : FnScope N_draw ["pen", "many"] (defScope s_draw) :=
  ⟨rfl, rfl, rfl, by decide +kernel, rfl, by decide +kernel, by decide +kernel⟩
abbrev s_pick : Stmt := topS 8
abbrev N_pick : List Str := ["pen", "some"]
theorem sc_pick : FnScope N_pick ["pen", "some"] (defScope s_pick) :=
  ⟨rfl, rfl, rfl, by decide +kernel, rfl, by decide +kernel, by decide +kernel⟩
abbrev s_any : Stmt := topS 9
abbrev N_any : List Str := ["pen", "powers", "found", "k"]
theorem sc_any : FnScope N_any ["pen", "powers"] (defScope s_any) :=
  ⟨rfl, rfl, rfl, by decide +kernel, rfl, by decide +kernel, by decide +kernel⟩
abbrev s_few_marks : Stmt := topS 10
abbrev N_few_marks : List Str := ["pen", "powers", "found", "k"]
theorem sc_few_marks : FnScope N_few_marks ["pen", "powers"] (defScope s_few_marks) :=
  ⟨rfl, rfl, rfl, by decide +kernel, rfl, by decide +kernel, by decide +kernel⟩
abbrev s_number : Stmt := topS 11
abbrev N_number : List Str := ["pen", "powers", "way", "far"]
theorem sc_number : FnScope N_number ["pen", "powers"] (defScope s_number) :=
  ⟨rfl, rfl, rfl, by decide +kernel, rfl, by decide +kernel, by decide +kernel⟩
abbrev s_sum : Stmt := topS 12
abbrev N_sum : List Str := ["numbers", "found", "number"]
theorem sc_sum : FnScope N_sum ["numbers"] (defScope s_sum) :=
  ⟨rfl, rfl, rfl, by decide +kernel, rfl, by decide +kernel, by decide +kernel⟩
abbrev s_many_numbers : Stmt := topS 13
abbrev N_many_numbers : List Str := ["pen", "most", "spots", "found", "k", "picked", "j", "fresh", "spot"]
theorem sc_many_numbers : FnScope N_many_numbers ["pen", "most"] (defScope s_many_numbers) :=
  ⟨rfl, rfl, rfl, by decide +kernel, rfl, by decide +kernel, by decide +kernel⟩
abbrev s_law : Stmt := topS 14
abbrev N_law : List Str := ["script", "pen", "turn", "numbers", "span", "tops", "row", "again", "one", "two", "near", "number", "rest", "mark", "fresh", "rank", "more"]
theorem sc_law : FnScope N_law ["script"] (defScope s_law) :=
  ⟨rfl, rfl, rfl, by decide +kernel, rfl, by decide +kernel, by decide +kernel⟩
structure Zs (mg : Str → Option Value) : Prop where
  abs : mg "abs" = none
  int : mg "int" = none
  isinstance : mg "isinstance" = none
  len : mg "len" = none
  max : mg "max" = none
  min : mg "min" = none
  range : mg "range" = none
  sorted : mg "sorted" = none
/-! ### more rules: sets, powers, enumerate, methods, makes -/
section
variable {X : Cx}
/-- set(xs), xs a list of ints -/
def rSetL (K : PySem.W.Frag) : List V → Hp → VK → Prop := fun vs H Q =>
  ∃ (a : Addr) (ns : List Int), vs = [.ref a] ∧
    SqL K H a (ns.map V.int) ∧ ns.length < 4000 ∧
    ∀ p S n, H p = none → (∀ k, S k = decide (k ∈ ns)) →
      Q (.ref p) (upd H p (.set S n))
theorem any_getD (ns : List Int) (k : Int) :
    (((List.range ns.length).map fun i => ns.getD i 0).any (· == k)) =
      decide (k ∈ ns) := by
  have e : ((List.range ns.length).map fun i => ns.getD i 0) = ns := by
    apply List.ext_getElem
    · rw [List.length_map, List.length_range]
    · intro i h1 h2
      rw [List.getElem_map, List.getElem_range,
        List.getD_eq_getElem?_getD, List.getElem?_eq_getElem h2]
      rfl
  rw [e, Bool.eq_iff_iff, List.any_eq_true]
  constructor
  · rintro ⟨x, hx, h⟩
    have : x = k := by simpa using h
    subst this
    exact decide_eq_true hx
  · intro h
    exact ⟨k, of_decide_eq_true h, by simp⟩
theorem cr_setL (hc : X.calm = true) :
    CallR X (.type "set") (rSetL X.K) := by
  intro pins s σ H xs us Q I r h
  obtain ⟨a, ns, rfl, hl, hn, q⟩ := h
  obtain ⟨u, rfl, rx⟩ := vals1 r
  cases rx
  obtain ⟨its, rv, pl, hz⟩ := I.list hl
  have hlen := rv.length
  rw [List.length_map] at hlen
  have hia : IntsAre its.toArray.toList ns := by
    simpa using intsAre_of rv
  refine call_set_list (ns := ns) (I.ok.hd hc) pl.isList hia ?_ ?_
  · rw [List.size_toArray, ← hlen]
    unfold scanBound; omega
  · intro h' tk hs kp
    have hn' : H s.heap.objs.size = none := I.hok.fresh (Nat.le_refl _)
    refine ⟨.ref s.heap.objs.size, upd H s.heap.objs.size (.set _ _),
      I.laid (t' := tk) (fun b o e => kp b o (Heap.lt_size e) e)
      (Nat.le_refl _) (show ObjOk X.prog X.w _ h' _ (.set _ _) from hs),
      rfl, q _ _ _ hn' ?_⟩
    intro k
    show ((PyProof.Rows.firstMet (fun i => ns.getD i 0)
      its.toArray.size).any (· == k)) = _
    rw [PyProof.Rows.firstMet_any, List.size_toArray, ← hlen]
    exact any_getD ns k
/-- k in s, k not in s -/
def rInS : R2 := fun x y H Q => ∃ k a S n, x = .int k ∧ y = .ref a ∧
  H a = some (.set S n) ∧ Q (.bl (S k)) H
def rNiS : R2 := fun x y H Q => ∃ k a S n, x = .int k ∧ y = .ref a ∧
  H a = some (.set S n) ∧ Q (.bl (!S k)) H
theorem op_inS : OpR X (compareOp .In) rInS := by
  intro pins s σ H x y v u Q I rx ry h
  obtain ⟨k, a, S, n, rfl, rfl, ha, q⟩ := h
  obtain ⟨tk, rfl⟩ := rx
  cases ry
  have hs : s.heap.SetOf (intKind X.prog X.w) a S n := I.hok a _ ha
  exact wpAny_inSet_of (intKind_is _ _ _ _) rfl hs
    ⟨.bl (S k), H, I.tok _, rfl, q⟩
theorem op_niS : OpR X (compareOp .NotIn) rNiS := by
  intro pins s σ H x y v u Q I rx ry h
  obtain ⟨k, a, S, n, rfl, rfl, ha, q⟩ := h
  obtain ⟨tk, rfl⟩ := rx
  cases ry
  have hs : s.heap.SetOf (intKind X.prog X.w) a S n := I.hok a _ ha
  exact wpAny_notInSet_of (intKind_is _ _ _ _) rfl hs
    ⟨.bl (!S k), H, I.tok _, rfl, q⟩
/-- powers of any size -/
def CPowX (i j : Int) : Prop := 0 ≤ j ∧
  (Builtin.Int.intBits i : Int) * j ≤ 2 ^ 27
theorem op_powX : OpR X (binaryOp .Pow)
    (rI CPowX fun i j => .int (i ^ j.toNat)) :=
  opI fun _ _ _ _ _ _ _ hc q => pow_int hc.1 hc.2 q
end
/-! ### within a comprehension: the same, K named -/
section
variable {X : Cx} {K : PySem.W.Frag}
theorem ix_listK (h : X.K = K := by rfl) : IxR X (rIxL K) := h ▸ ix_list
theorem ix_tupK (h : X.K = K := by rfl) : IxR X (rIxT K) := h ▸ ix_tup
theorem sl_listK (h : X.K = K := by rfl) : SlR X (rSlL K) := h ▸ sl_list
theorem op_in_seqK (h : X.K = K := by rfl) :
    OpR X (compareOp .In) (rIn K false) := h ▸ op_in_seq
theorem op_notIn_seqK (h : X.K = K := by rfl) :
    OpR X (compareOp .NotIn) (rIn K true) := h ▸ op_notIn_seq
theorem op_eqDK (hu : X.A.units + 64 < cLine) (h : X.K = K := by rfl) :
    OpR X (compareOp .Eq) (rEqD K) := h ▸ op_eqD hu
theorem op_neDK (hu : X.A.units + 64 < cLine) (h : X.K = K := by rfl) :
    OpR X (compareOp .NotEq) (rNeD K) := h ▸ op_neD hu
def rLenS (K : PySem.W.Frag) : List V → Hp → VK → Prop := fun xs H Q =>
  ∃ p ys, xs = [.ref p] ∧ (SqL K H p ys ∨ SqT K H p ys) ∧
    Q (.int ys.length) H
theorem call_len_seqK (h : X.K = K := by rfl) :
    CallR X (.builtin "len") (rLenS K) := h ▸ call_len_seq
theorem cr_sumK (hc : X.calm = true) (h : X.K = K := by rfl) :
    CallR X (.builtin "sum") (rSum K) := h ▸ cr_sum hc
theorem cr_maxK (hc : X.calm = true) (h : X.K = K := by rfl) :
    CallR X (.builtin "max") (rMax K) := h ▸ cr_max hc
theorem cr_minK (hc : X.calm = true) (h : X.K = K := by rfl) :
    CallR X (.builtin "min") (rMin K) := h ▸ cr_min hc
theorem pi_listK {tg l : Expr} {tl : TE} (hl : PE X l tl)
    (h : X.K = K := by rfl) : PI X tg l (iList K tl) := h ▸ pi_list hl
theorem pi_tupK {tg l : Expr} {tl : TE} (hl : PE X l tl)
    (h : X.K = K := by rfl) : PI X tg l (iTup K tl) := h ▸ pi_tup hl
theorem pi_enumK {e : Expr} {ta : TA} {p pos tpos : Pos}
    {elts : List Expr} {kk : Nat} (hg : Gl X "enumerate")
    (hm : X.mg "enumerate" = none) (ha : PA X [e] ta)
    (h : X.K = K := by rfl)
    (hs : starEach [e] X.env = [(false, eval e X.env)] := by rfl) :
    PI X (.Tuple elts kk tpos) (.Call (.Name "enumerate" p) [e] [] pos)
      (iEnum K ta) := h ▸ pi_enum hg hm ha hs
theorem pg_tupK {es : List Expr} {k : Nat} {t : TGs} {n : Nat} {pos : Pos}
    (hc : X.calm = true) (hp : PGs X es t) (h : X.K = K := by rfl)
    (hn : (assignEach es X.env).length = n := by rfl)
    (hst : (assignEach es X.env).findIdx? (·.1) = none := by rfl) :
    PG X (.Tuple es k pos) (gTup K n t) := h ▸ pg_tup hc hp hn hst
theorem pe_fldK {e : Expr} {f : Str} {pos : Pos} {ta : TE} (he : PE X e ta)
    (hb : attributeBase e f X.env (eval e X.env) = eval e X.env)
    (h : X.K = K := by rfl) : PE X (.Attribute e f pos) (tFld K ta f) :=
  h ▸ pe_fld he hb
end
theorem xor_cast (a b : Nat) :
    Builtin.bitXor (a : Int) (b : Int) = ((a ^^^ b : Nat) : Int) := by
  have h : ∀ a b : Nat, a + b = (a ^^^ b) + 2 * (a &&& b) := by
    intro a
    induction a using Nat.strongRecOn with
    | ind a ih =>
      intro b
      by_cases h0 : a = 0
      · subst h0; simp
      · have h1 := ih (a / 2) (by omega) (b / 2)
        have x1 : (a ^^^ b) / 2 = a / 2 ^^^ b / 2 := Nat.xor_div_two
        have x2 : (a &&& b) / 2 = a / 2 &&& b / 2 := Nat.and_div_two
        have m1 : (a ^^^ b) % 2 = (a + b) % 2 := by
          have := Nat.xor_mod_two_pow (a := a) (b := b) (n := 1)
          simp only [Nat.pow_one] at this
          rw [this]
          rcases Nat.mod_two_eq_zero_or_one a with ea | ea <;>
            rcases Nat.mod_two_eq_zero_or_one b with eb | eb <;>
            rw [ea, eb] <;> simp <;> omega
        have m2 : (a &&& b) % 2 = a % 2 * (b % 2) := by
          have := Nat.and_mod_two_pow (a := a) (b := b) (n := 1)
          simp only [Nat.pow_one] at this
          rw [this]
          rcases Nat.mod_two_eq_zero_or_one a with ea | ea <;>
            rcases Nat.mod_two_eq_zero_or_one b with eb | eb <;>
            rw [ea, eb] <;> rfl
        rw [← x1, ← x2] at h1
        generalize a ^^^ b = u at *
        generalize a &&& b = v at *
        rcases Nat.mod_two_eq_zero_or_one a with ea | ea <;>
          rcases Nat.mod_two_eq_zero_or_one b with eb | eb <;>
          rw [ea, eb] at m2 <;> omega
  rw [bitXor_and]
  have e := h a b
  have e2 : Builtin.bitAnd (a : Int) (b : Int) = ((a &&& b : Nat) : Int) := by
    rw [bitAnd_pp (Int.natCast_nonneg a) (Int.natCast_nonneg b)]
    rfl
  rw [e2]
  omega
theorem or_cast (a b : Nat) :
    Builtin.bitOr (a : Int) (b : Int) = ((a ||| b : Nat) : Int) := by
  rw [bitOr_nn (Int.natCast_nonneg _) (Int.natCast_nonneg _)]
  rfl
theorem and_cast (a b : Nat) :
    Builtin.bitAnd (a : Int) (b : Int) = ((a &&& b : Nat) : Int) := by
  rw [bitAnd_pp (Int.natCast_nonneg a) (Int.natCast_nonneg b)]
  rfl
theorem shr_cast (n k : Nat) :
    (n : Int) / 2 ^ k = ((n / 2 ^ k : Nat) : Int) := by
  rw [Int.natCast_ediv, PySem.W.kbt_cast]
/-! ### the same over naturals -/
def rN2 (g : Nat → Nat → Nat) : R2 := fun x y H Q => ∃ n m : Nat,
  x = .int (n : Nat) ∧ y = .int (m : Nat) ∧ Q (.int (g n m : Nat)) H
section
variable {X : Cx}
theorem op_xorN : OpR X (binaryOp .BitXor) (rN2 fun n m => n ^^^ m) := by
  intro pins s σ H x y v u Q I rx ry h
  obtain ⟨n, m, rfl, rfl, q⟩ := h
  rw [← xor_cast] at q
  exact op_xor pins s σ H _ _ v u Q I rx ry ⟨_, _, rfl, rfl, q⟩
theorem op_orN : OpR X (binaryOp .BitOr) (rN2 fun n m => n ||| m) := by
  intro pins s σ H x y v u Q I rx ry h
  obtain ⟨n, m, rfl, rfl, q⟩ := h
  rw [← or_cast] at q
  exact op_or pins s σ H _ _ v u Q I rx ry ⟨_, _, rfl, rfl, q⟩
theorem op_andN : OpR X (binaryOp .BitAnd) (rN2 fun n m => n &&& m) := by
  intro pins s σ H x y v u Q I rx ry h
  obtain ⟨n, m, rfl, rfl, q⟩ := h
  rw [← and_cast] at q
  exact op_and pins s σ H _ _ v u Q I rx ry ⟨_, _, rfl, rfl, q⟩
theorem op_shrM : OpR X (binaryOp .RShift)
    (rN2 fun n m => n / 2 ^ m) := by
  intro pins s σ H x y v u Q I rx ry h
  obtain ⟨n, m, rfl, rfl, q⟩ := h
  rw [← shr_cast] at q
  exact op_shrN pins s σ H _ _ v u Q I rx ry ⟨_, _, rfl, rfl, q⟩
/-- 1 << k -/
def rOne : R2 := fun x y H Q => ∃ k : Nat, x = .int 1 ∧
  y = .int (k : Nat) ∧ k ≤ 134217727 ∧ Q (.int (2 ^ k : Nat)) H
theorem op_one : OpR X (binaryOp .LShift) rOne := by
  intro pins s σ H x y v u Q I rx ry h
  obtain ⟨k, rfl, rfl, hk, q⟩ := h
  rw [PySem.W.kbt_cast] at q
  exact op_oneShl pins s σ H _ _ v u Q I rx ry ⟨_, rfl, rfl, hk, q⟩
end
/-- for k, x in enumerate(xs) -/
theorem for_enum {K : PySem.W.Frag} {a : Addr} {xs : List V} {g : TG}
    {tb : TS} {D : Ends} {σ : L2.St} {H : Hp}
    (Pv : Nat → L2.St → Hp → Prop) (h0 : Pv 0 σ H)
    (hl : ∀ i σ H, i ≤ xs.length → Pv i σ H → SqL K H a xs)
    (hs : ∀ i x σ H T, xs[i]? = some x → Pv i σ H → H T = none →
      g (.ref T) σ (upd H T (.tup [.int (i : Nat), x])) fun σ2 H2 =>
        tb { D with nx := Pv (i + 1), ct := Pv (i + 1), bk := D.nx }
          σ2 H2)
    (hd : ∀ σ H, Pv xs.length σ H → D.nx σ H) :
    ∃ W : Nat → Nat → L2.St → Hp → Prop, (∃ m, W 0 m σ H) ∧
      ∀ i m σ H, W i m σ H →
      ((Ite K a).stop i H ∧ D.nx σ H) ∨ ((Ite K a).go i H ∧
        ∃ N : L2.St → Hp → Prop,
        (∀ σ' H', N σ' H' → ∃ m', m' < m ∧ W (i + 1) m' σ' H') ∧
        ∀ x H', (Ite K a).yld i H x H' → g x σ H' fun σ2 H2 =>
          tb { D with nx := N, ct := N, bk := D.nx } σ2 H2) := by
  refine ⟨fun i m σ H => m = xs.length - i ∧ i ≤ xs.length ∧ Pv i σ H,
    ⟨xs.length, by simp, Nat.zero_le _, h0⟩, ?_⟩
  rintro i m σ H ⟨rfl, hi, p⟩
  have q := hl i σ H hi p
  by_cases hlt : i < xs.length
  · refine Or.inr ⟨⟨xs, xs[i], q, List.getElem?_eq_getElem hlt⟩,
      Pv (i + 1), ?_, ?_⟩
    · intro σ' H' p'
      exact ⟨xs.length - (i + 1), by omega, rfl, hlt, p'⟩
    · rintro x H' ⟨T, y, rfl, nT, rfl, fy⟩
      exact hs i y σ H T (fy xs q) p nT
  · have e : i = xs.length := by omega
    subst e
    exact Or.inl ⟨⟨xs, q, Nat.le_refl _⟩, hd σ H p⟩
/-! ### classes -/
structure Dm (P : Program) (w : World) (K : PySem.W.Frag)
    (mg : Str → Option Value) (base : Heap) (C : Addr) (m : Str)
    (k : Nat) (ps : List Str) (sp : Sp) : Prop where
  ok : ∃ f fd, Meth K C m f ∧ Binds K fd ps [] ∧
    FnOk P w K mg base CX0 k f fd ps sp
structure Dk (P : Program) (w : World) (K : PySem.W.Frag)
    (mg : Str → Option Value) (base : Heap) (C : Addr) (x : Str)
    (k : Nat) (ps : List Str) (sp : Sp) : Prop where
  ok : ∃ f fd, mg x = some (.ref C) ∧ Mk K C f ∧ Binds K fd ps [] ∧
    FnOk P w K mg base CX0 k f fd ps sp
section
variable {X : Cx} {C : Addr} {m x : Str} {k : Nat} {ps : List Str}
variable {sp : Sp} {p pos apos : Pos} {e o : Expr} {es : List Expr}
variable {ta : TE} {t : TA}
theorem pe_dm {pl : Sem Bool} (c : Cls X.K C)
    (D : Dm X.prog X.w X.K X.mg X.base C m k ps sp) (hr : Room k X.A)
    (he : PE X o ta) (ha : PA X (e :: es) t)
    (hst : starEach (e :: es) X.env =
      (false, eval e X.env) :: starEach es X.env := by rfl)
    (hpl : (backTo pos (starEach es X.env)).any (·.1) = false := by
      rfl)
    (ht : eval (.Call (.Attribute o m apos) (e :: es) [] pos) X.env =
      (do
        let ov ← eval o X.env
        standAt apos.atName
        let (f, first) ← holding [ov] (getMethod ov m pl)
        callWith pos f first
          (backTo pos (starEach (e :: es) X.env))
          (backToKw pos (keywordEach [] X.env))) := by rfl) :
    PE X (.Call (.Attribute o m apos) (e :: es) [] pos)
      (tMeth C m sp [] E0 ta t) := by
  obtain ⟨f, fd, M, b, G⟩ := D.ok
  exact pe_meth he c M G hr b .nil pass0 ha hst hpl ht
theorem pe_dm0 {pl : Sem Bool} (c : Cls X.K C)
    (D : Dm X.prog X.w X.K X.mg X.base C m k ps sp) (hr : Room k X.A)
    (he : PE X o ta)
    (ht : eval (.Call (.Attribute o m apos) [] [] pos) X.env =
      (do
        let ov ← eval o X.env
        standAt apos.atName
        let (f, first) ← holding [ov] (getMethod ov m pl)
        callWith pos f first (backTo pos (starEach [] X.env))
          (backToKw pos (keywordEach [] X.env))) := by rfl) :
    PE X (.Call (.Attribute o m apos) [] [] pos)
      (tMeth C m sp [] E0 ta tNil) := by
  obtain ⟨f, fd, M, b, G⟩ := D.ok
  exact pe_meth0 he c M G hr b .nil pass0 ht
theorem pe_dk (D : Dk X.prog X.w X.K X.mg X.base C x k ps sp)
    (hr : Room (k + 1) X.A) (hg : Gl X x) (ha : PA X (e :: es) t)
    (hdb : (x == ("__debug__" : Str)) = false := by decide)
    (he : starEach (e :: es) X.env =
      (false, eval e X.env) :: starEach es X.env := by rfl)
    (hpl : (backTo pos (starEach es X.env)).any (·.1) = false := by
      rfl) :
    PE X (.Call (.Name x p) (e :: es) [] pos)
      (tMake C sp [] E0 t) := by
  obtain ⟨f, fd, m, M, b, G⟩ := D.ok
  exact pe_make M G hr hg m b .nil pass0 ha hdb he hpl
end

/-! ### lists of numbers -/
def nV (l : List Nat) : List V := l.map fun i => V.int (i : Nat)
def ci (l : List Nat) : List Int := l.map fun i : Nat => (i : Int)
theorem nV_int (l : List Nat) : nV l = (ci l).map V.int := by
  unfold nV ci
  rw [List.map_map]
  rfl
theorem inV_nat {l : List Nat} {i : Nat} :
    inV (.int (i : Nat)) (nV l) = decide (i ∈ l) := by
  unfold nV
  induction l with
  | nil => rfl
  | cons x r ih =>
    show (eqV (.int (x : Nat)) (.int (i : Nat)) ||
      inV (.int (i : Nat)) (r.map fun i => V.int (i : Nat))) = _
    rw [ih]
    have e : eqV (.int (x : Nat)) (.int (i : Nat)) = decide (i = x) := by
      show ((x : Int) == (i : Int)) = decide (i = x)
      by_cases h : i = x
      · subst h; simp
      · have h' : ¬ ((x : Int) = (i : Int)) := by omega
        simp [h, h']
    rw [e]
    by_cases h1 : i = x
    · simp [h1]
    · by_cases h2 : i ∈ r
      · simp [h2]
      · simp [h1, h2]
theorem flat_nat (l : List Nat) : (nV l).all flatV = true := by
  rw [List.all_eq_true]
  intro x hx
  obtain ⟨i, _, rfl⟩ := List.mem_map.mp hx
  rfl
theorem nV_len (l : List Nat) : (nV l).length = l.length :=
  List.length_map ..
theorem nV_app (l m : List Nat) : nV (l ++ m) = nV l ++ nV m :=
  List.map_append ..
theorem nV_take (l : List Nat) (k : Nat) :
    (nV l).take k = nV (l.take k) := List.map_take.symm
theorem nV_drop (l : List Nat) (k : Nat) :
    (nV l).drop k = nV (l.drop k) := List.map_drop.symm
theorem nV_get {l : List Nat} {i : Nat} {x : V} (h : (nV l)[i]? = some x) :
    ∃ s, l[i]? = some s ∧ x = .int (s : Nat) := map_get h
theorem mem_ci {l : List Nat} {i : Nat} : (i : Int) ∈ ci l ↔ i ∈ l := by
  unfold ci
  constructor
  · intro h
    obtain ⟨j, hj, e⟩ := List.mem_map.mp h
    have : j = i := by omega
    subst this; exact hj
  · intro h; exact List.mem_map.mpr ⟨i, h, rfl⟩
theorem perm_cast {ys : List Int} {l : List Nat} (h : ys.Perm (ci l)) :
    ∃ ms : List Nat, ys = ci ms ∧ ms.Perm l := by
  refine ⟨ys.map Int.toNat, ?_, ?_⟩
  · unfold ci
    rw [List.map_map]
    have : ∀ y ∈ ys, ((fun i : Nat => (i : Int)) ∘ Int.toNat) y = y := by
      intro y hy
      obtain ⟨i, _, e⟩ := List.mem_map.mp (h.mem_iff.mp hy)
      show ((y.toNat : Nat) : Int) = y
      omega
    rw [List.map_congr_left this, List.map_id']
  · have := h.map Int.toNat
    unfold ci at this
    rw [List.map_map] at this
    have e : (Int.toNat ∘ fun i : Nat => (i : Int)) = id := by
      funext i; rfl
    rw [e, List.map_id] at this
    exact this
theorem cut_take (xs : List V) (n : Nat) :
    cutV xs none (some (n : Int)) = xs.take n := by
  unfold cutV
  rw [show HT.sIx xs.length 0 none = 0 from HT.sIx_none ..,
    show HT.sIx xs.length xs.length (some (n : Int)) =
      min n xs.length from HT.sIx_nat ..]
  show List.take (min n xs.length - 0) (xs.drop 0) = xs.take n
  rw [Nat.sub_zero, List.drop_zero, List.take_eq_take_iff]
  omega
theorem cut_drop (xs : List V) (n : Nat) :
    cutV xs (some (n : Int)) none = xs.drop n := by
  unfold cutV
  rw [show HT.sIx xs.length xs.length none = xs.length from
      HT.sIx_none ..,
    show HT.sIx xs.length 0 (some (n : Int)) =
      min n xs.length from HT.sIx_nat ..]
  rcases Nat.le_total n xs.length with h | h
  · rw [Nat.min_eq_left h]
    refine List.take_of_length_le ?_
    rw [List.length_drop]; exact Nat.le_refl _
  · rw [Nat.min_eq_right h, Nat.sub_self, List.take_zero,
      List.drop_eq_nil_of_le h]
theorem dpN {K : PySem.W.Frag} {H : Hp} {a : Addr} {l : List Nat}
    (h : SqL K H a (nV l)) :
    Dp K H (.ref a) (.list ((ci l).map PyData.int)) := by
  rw [nV_int] at h; exact dpL h
theorem rg_nat (n : Nat) : rgV 0 (n : Int) = nV (List.range n) := by
  unfold rgV nV
  rw [show ((n : Int) - 0).toNat = n by omega]
  refine List.map_congr_left fun i _ => ?_
  show V.int (0 + (i : Int)) = V.int (i : Int)
  rw [Int.zero_add]
theorem nV_nodup_lt {m : List Nat} {l : List Nat}
    (srt : (ci m).Pairwise (· ≤ ·)) (pm : m.Perm l) (nd : l.Nodup) :
    m.Pairwise (· < ·) := by
  have h1 : m.Pairwise (· ≤ ·) := by
    unfold ci at srt
    rw [List.pairwise_map] at srt
    refine srt.imp ?_
    intro x y h
    omega
  have h2 : m.Pairwise (· ≠ ·) := pm.nodup_iff.mpr nd
  refine (h1.and h2).imp ?_
  intro x y h
  omega

/-! ### marks, number_of, top -/
theorem odd_bit (n k : Nat) :
    (((n / 2 ^ k % 2 : Nat) : Int) != 0) = n.testBit k := by
  have h : n.testBit k = decide (n / 2 ^ k % 2 = 1) := by
    rw [Nat.testBit_eq_decide_div_mod_eq]
  rw [h]
  rcases Nat.mod_two_eq_zero_or_one (n / 2 ^ k) with e | e
  · rw [e]; rfl
  · rw [e]; rfl
def bl (n : Nat) : Nat := Builtin.Int.intBits (n : Int)
theorem bl_le {n k : Nat} (h : n < 2 ^ k) : bl n ≤ k :=
  PyProof.Rows.intBits_le (by show (n : Int).natAbs < 2 ^ k; exact h)

section
variable {P : Program} {w : World} {K : PySem.W.Frag}
variable {mg : Str → Option Value} {base : Heap}
/-- top: a mark or None -/
def topV (n : Nat) : V := if n = 0 then .non else .int ((bl n : Int) - 1)
def spTop : Sp := fun vs H Q _ => ∃ n : Nat, vs = [.int n] ∧
  Q (topV n) H
theorem ok_top {f : Addr} {fd : FuncData}
    (F : Fun K "top" "top" s_top f fd) (Z : Zs mg) :
    FnOk P w K mg base CX0 1 f fd ["number"] spTop := by
  refine F.ok sc_top (fun vs H Q E h => ?_)
    (fun cdv A outer s H vs Q E hr h => ?_)
  · obtain ⟨n, rfl, _⟩ := h
    rfl
  · obtain ⟨n, rfl, q⟩ := h
    refine ⟨_, (pss_one /- return number.bit_length() - 1 if number else None -/ (ps_ret (pe_ifExp (pt_int (pv 0) (by intro _; rfl)) (pe_op op_sub (pe_bits (pv 0)) pe_int) pe_non))), ?_⟩
    refine ⟨_, rfl, n, rfl, ?_⟩
    unfold topV at q
    by_cases h : n = 0
    · subst h
      refine if' rfl ?_
      exact q
    · rw [if_neg h] at q
      refine it (by simpa using h) ?_
      exact ⟨_, rfl, n, rfl, _, _, rfl, rfl, q⟩
end

/-! ### the pen: cells, begun, left -/
theorem ne_cb : ¬ ((Sum.inr ("cells" : Str) : Key) = Sum.inr ("begun" : Str)) := by
  decide +kernel
theorem ne_cl : ¬ ((Sum.inr ("cells" : Str) : Key) = Sum.inr ("left" : Str)) := by
  decide +kernel
theorem ne_bl : ¬ ((Sum.inr ("begun" : Str) : Key) = Sum.inr ("left" : Str)) := by
  decide +kernel
theorem ne_bc : ¬ ((Sum.inr ("begun" : Str) : Key) = Sum.inr ("cells" : Str)) :=
  fun h => ne_cb h.symm
theorem ne_lb : ¬ ((Sum.inr ("left" : Str) : Key) = Sum.inr ("begun" : Str)) :=
  fun h => ne_bl h.symm
theorem ne_lc : ¬ ((Sum.inr ("left" : Str) : Key) = Sum.inr ("cells" : Str)) :=
  fun h => ne_cl h.symm
def penKvs (c : Addr) (b l : Int) : List (Key × V) :=
  [(Sum.inr "cells", .ref c), (Sum.inr "begun", .int b),
    (Sum.inr "left", .int l)]
theorem kvs_cells (c : Addr) (b l : Int) :
    valV (penKvs c b l) (Sum.inr "cells") = some (.ref c) :=
  valV_pos rfl
theorem kvs_begun (c : Addr) (b l : Int) :
    valV (penKvs c b l) (Sum.inr "begun") = some (.int b) :=
  (valV_neg ne_cb).trans (valV_pos rfl)
theorem kvs_left (c : Addr) (b l : Int) :
    valV (penKvs c b l) (Sum.inr "left") = some (.int l) :=
  (valV_neg ne_cl).trans ((valV_neg ne_bl).trans (valV_pos rfl))
theorem put_begun (c : Addr) (b l x : Int) :
    putK (penKvs c b l) (Sum.inr "begun") (.int x) = penKvs c x l := by
  unfold putK
  rw [if_pos (by rw [valV_any, kvs_begun]; rfl)]
  unfold penKvs
  simp only [List.map_cons, List.map_nil, if_neg ne_cb, if_neg ne_lb,
    if_pos]
theorem put_left (c : Addr) (b l x : Int) :
    putK (penKvs c b l) (Sum.inr "left") (.int x) = penKvs c b x := by
  unfold putK
  rw [if_pos (by rw [valV_any, kvs_left]; rfl)]
  unfold penKvs
  simp only [List.map_cons, List.map_nil, if_neg ne_cl, if_neg ne_bl,
    if_pos]
theorem merge_pen (c : Addr) (b l : Int) :
    mergeK [] (penKvs c b l) = penKvs c b l := by
  let kc : Key := Sum.inr "cells"
  let kb : Key := Sum.inr "begun"
  let kl : Key := Sum.inr "left"
  have e1 : putK ([] : List (Key × V)) kc (V.ref c) =
      [(kc, V.ref c)] := putK_new _ valV_nil
  have e2 : putK ([(kc, V.ref c)] : List (Key × V)) kb (V.int b) =
      [(kc, V.ref c), (kb, V.int b)] :=
    putK_new _ ((valV_neg ne_cb).trans valV_nil)
  have e3 : putK ([(kc, V.ref c), (kb, V.int b)] : List (Key × V))
      kl (V.int l) = [(kc, V.ref c), (kb, V.int b), (kl, V.int l)] :=
    putK_new _ ((valV_neg ne_cl).trans ((valV_neg ne_bl).trans valV_nil))
  show putK (putK (putK [] kc (V.ref c)) kb (V.int b)) kl (V.int l) = _
  rw [e1, e2, e3]
  rfl
section
variable {H : Hp} {p c : Addr} {b l : Int}
theorem get_cells (h : H p = some (.dK (penKvs c b l))) :
    DGet H p (.str "cells") (some (.ref c)) := by
  have z := DGet.k (k := Sum.inr "cells") h
  rw [kvs_cells] at z; exact z
theorem get_begun (h : H p = some (.dK (penKvs c b l))) :
    DGet H p (.str "begun") (some (.int b)) := by
  have z := DGet.k (k := Sum.inr "begun") h
  rw [kvs_begun] at z; exact z
theorem get_left (h : H p = some (.dK (penKvs c b l))) :
    DGet H p (.str "left") (some (.int l)) := by
  have z := DGet.k (k := Sum.inr "left") h
  rw [kvs_left] at z; exact z
theorem dput_begun (h : H p = some (.dK (penKvs c b l))) (x : Int) :
    DPut H p (.str "begun") (.int x)
      (upd H p (.dK (penKvs c x l))) := by
  have z := DPut.k (k := Sum.inr "begun") (v := .int x) h
    (by show 3 < sizeLine; decide)
  rw [put_begun] at z; exact z
theorem dput_left (h : H p = some (.dK (penKvs c b l))) (x : Int) :
    DPut H p (.str "left") (.int x)
      (upd H p (.dK (penKvs c b x))) := by
  have z := DPut.k (k := Sum.inr "left") (v := .int x) h
    (by show 3 < sizeLine; decide)
  rw [put_left] at z; exact z
end
/-- the pen p, its cells at c, at most n of them begun -/
structure Pen (H : Hp) (p c : Addr) (n : Nat) : Prop where
  ex : ∃ (cs : List Int) (b : Nat) (l : Int),
    H p = some (.dK (penKvs c b l)) ∧ H c = some (.lst (cs.map V.int)) ∧
    cs.length ≤ 63 ∧ (∀ z ∈ cs, BB 1048576 z) ∧ b ≤ n ∧ BB 1048576 l
theorem Pen.mono {H : Hp} {p c : Addr} {n m : Nat} (h : Pen H p c n)
    (l : n ≤ m) : Pen H p c m := by
  obtain ⟨cs, b, x, h1, h2, h3, h4, h5, h6⟩ := h.ex
  exact ⟨cs, b, x, h1, h2, h3, h4, by omega, h6⟩
theorem Pen.p {H : Hp} {p c : Addr} {n : Nat} (h : Pen H p c n) :
    ∃ k, H p = some (.dK k) := by
  obtain ⟨cs, b, x, h1, h2, h3, h4, h5, h6⟩ := h.ex
  exact ⟨_, h1⟩
theorem Pen.c {H : Hp} {p c : Addr} {n : Nat} (h : Pen H p c n) :
    ∃ k, H c = some (.lst k) := by
  obtain ⟨cs, b, x, h1, h2, h3, h4, h5, h6⟩ := h.ex
  exact ⟨_, h2⟩
theorem Pen.same {H H' : Hp} {p c : Addr} {n : Nat} (h : Pen H p c n)
    (s : Same H H') : Pen H' p c n := by
  obtain ⟨cs, b, x, h1, h2, h3, h4, h5, h6⟩ := h.ex
  exact ⟨cs, b, x, s _ _ h1, s _ _ h2, h3, h4, h5, h6⟩
theorem Pen.new {H : Hp} {p c q : Addr} {n : Nat} {o : HO}
    (h : Pen H p c n) (hq : H q = none) : Pen (upd H q o) p c n :=
  h.same (same_new (Same.refl H) hq)
theorem Pen.set {H : Hp} {p c q : Addr} {n : Nat} {o : HO}
    (h : Pen H p c n) (np : q ≠ p) (nc : q ≠ c) :
    Pen (upd H q o) p c n := by
  obtain ⟨cs, b, x, h1, h2, h3, h4, h5, h6⟩ := h.ex
  refine ⟨cs, b, x, ?_, ?_, h3, h4, h5, h6⟩
  · rw [upd_ne (Ne.symm np)]; exact h1
  · rw [upd_ne (Ne.symm nc)]; exact h2
theorem Pen.nep {H : Hp} {p c q : Addr} {n : Nat} (h : Pen H p c n)
    (hq : H q = none) : q ≠ p := by
  obtain ⟨k, e⟩ := h.p
  exact (ne_of_none e hq).symm
theorem Pen.nec {H : Hp} {p c q : Addr} {n : Nat} (h : Pen H p c n)
    (hq : H q = none) : q ≠ c := by
  obtain ⟨k, e⟩ := h.c
  exact (ne_of_none e hq).symm
/-- no list is the pen -/
theorem Pen.nel {H : Hp} {p c q : Addr} {n : Nat} {k : List V}
    (h : Pen H p c n) (hq : H q = some (.lst k)) : q ≠ p := by
  obtain ⟨z, e⟩ := h.p
  exact ne_of hq e (by intro y; cases y)
def spDraw : Sp := fun vs H Q _ => ∃ (p c : Addr) (n : Nat) (m : Int),
  vs = [.ref p, .int m] ∧ 0 < m ∧ BB 8000 m ∧ Pen H p c n ∧
  n < 1000000000000000000 ∧ ∀ H' d, Keep p H H' → Pen H' p c (n + 1) →
    0 ≤ d → d < m → Q (.int d) H'
theorem mix_eq (x a : Int) (y : Int) : x + a = y → x = y - a := by
  omega
theorem BB.abs {k : Nat} {z : Int} (h : BB k z) :
    BB k (if z < 0 then -z else z) := by
  refine h.le ?_
  split <;> omega
section
variable {P : Program} {w : World} {K : PySem.W.Frag}
variable {mg : Str → Option Value} {base : Heap}
theorem ok_draw {f : Addr} {fd : FuncData}
    (F : Fun K "_law_draw" "_law_draw" s_draw f fd) (Z : Zs mg) :
    FnOk P w K mg base CX0 1 f fd ["pen", "many"] spDraw := by
  refine F.ok sc_draw (fun vs H Q E h => ?_)
    (fun cdv A outer s H vs Q E hr h => ?_)
  · obtain ⟨p, c, n, m, rfl, _⟩ := h
    rfl
  · obtain ⟨p, c, n, m, rfl, hm, bm, P0, hn, q⟩ := h
    have hu := hu_of hr
    obtain ⟨cs, b, l, hp, hc, hlen, hbig, hb, hl⟩ := P0.ex
    have npc : c ≠ p := (ne_of hp hc (by intro z; cases z)).symm
    refine ⟨_, (pss_cons /- if pen['left'] > 0: -/ (ps_if (pt_cmpR op_gt (pe_dget hu (pv 0) pe_str (fun _ _ => rfl)) pe_int (nomark _))
(pss_cons /- digit = pen['left'] % many -/ (ps_set (i := 2) sc_draw.nd rfl (Or.inl rfl) (pe_op op_mod (pe_dget hu (pv 0) pe_str (fun _ _ => rfl)) (pv 1)))
(pss_cons /- pen['left'] = pen['left'] // many -/ (ps_dput hu (pv 0) pe_str (pe_op op_fdivW (pe_dget hu (pv 0) pe_str (fun _ _ => rfl)) (pv 1)) rfl)
(pss_one /- return digit -/ (ps_ret (pv 2)))))
pss_nil)
(pss_cons /- begun, cell = (pen['begun'], 0) -/ (ps_par (i := 3) (j := 4) (by rfl) sc_draw.nd rfl rfl (by decide) rfl rfl (pa_cons (pe_dget hu (pv 0) pe_str (fun _ _ => rfl)) (pa_cons pe_int pa_nil)) (by rfl))
(pss_cons /- pen['begun'] = begun + 1 -/ (ps_dput hu (pv 0) pe_str (pe_op op_add (pv 3) pe_int) rfl)
(C8.pss_cut /- if pen['cells'] != []: -/ (ps_if (pt_cmpR (op_neD hr.units) (pe_dget hu (pv 0) pe_str (fun _ _ => rfl)) (pe_lst pa_nil) (nomark _))
(pss_one /- cell = pen['cells'][begun % len(pen['cells'])] -/ (ps_set (i := 4) sc_draw.nd rfl (Or.inl rfl) (pe_ix ix_list (pe_dget hu (pv 0) pe_str (fun _ _ => rfl)) (pe_op op_mod (pv 3) (pe_callB call_len_seq (by rfl) Z.len (by decide +kernel) (pa_cons (pe_dget hu (pv 0) pe_str (fun _ _ => rfl)) pa_nil))) (fun _ _ => rfl))))
pss_nil)
(C8.pss_cut /- if begun < len(pen['cells']) and abs(cell) >= 10 ** 18: -/ (ps_if (PW.pt (pw_and (pt_cmpR op_lt (pv 3) (pe_callB call_len_seq (by rfl) Z.len (by decide +kernel) (pa_cons (pe_dget hu (pv 0) pe_str (fun _ _ => rfl)) pa_nil)) (nomark _)) (pw_and1 (pt_cmpR op_ge (pe_callB call_abs (by rfl) Z.abs (by decide +kernel) (pa_cons (pv 4) pa_nil)) (pe_op op_powX pe_int pe_int) (nomark _)))))
(pss_cons /- pen['left'] = (abs(cell) - 10 ** 18) // many -/ (ps_dput hu (pv 0) pe_str (pe_op op_fdivW (pe_op op_sub (pe_callB call_abs (by rfl) Z.abs (by decide +kernel) (pa_cons (pv 4) pa_nil)) (pe_op op_powX pe_int pe_int)) (pv 1)) rfl)
(pss_one /- return (abs(cell) - 10 ** 18) % many -/ (ps_ret (pe_op op_mod (pe_op op_sub (pe_callB call_abs (by rfl) Z.abs (by decide +kernel) (pa_cons (pv 4) pa_nil)) (pe_op op_powX pe_int pe_int)) (pv 1)))))
pss_nil)
(pss_cons /- mixed = (cell + 61 * begun * begun + 29 * begun + 3) * 6364136223846793005 -/ (ps_set (i := 5) sc_draw.nd rfl (Or.inl rfl) (pe_op op_mulX (pe_op op_add (pe_op op_add (pe_op op_add (pv 4) (pe_op op_mulX (pe_op op_mulX pe_int (pv 3)) (pv 3))) (pe_op op_mulX pe_int (pv 3))) pe_int) pe_int))
(pss_cons /- mixed = (mixed + 1442695040888963407 * (begun + 1)) % 18446744073709551557 -/ (ps_set (i := 5) sc_draw.nd rfl (Or.inl rfl) (pe_op op_mod (pe_op op_add (pv 5) (pe_op op_mulX pe_int (pe_op op_add (pv 3) pe_int))) pe_int))
(pss_cons /- mixed = mixed * (mixed + 2654435761) % 18446744073709551557 -/ (ps_set (i := 5) sc_draw.nd rfl (Or.inl rfl) (pe_op op_mod (pe_op op_mulX (pv 5) (pe_op op_add (pv 5) pe_int)) pe_int))
(pss_one /- return mixed // 4294967311 % many -/ (ps_ret (pe_op op_mod (pe_op op_fdivW (pv 5) pe_int) (pv 1)))))))))))), ?_⟩
    -- if pen['left'] > 0
    refine ⟨_, rfl, p, _, rfl, get_left hp, l, 0, rfl, rfl, _, rfl, ?_⟩
    refine ite2 (fun h => ?_) (fun h => ?_)
    · refine ⟨_, rfl, p, _, rfl, get_left hp, _, rfl, _, _, rfl, rfl, hm, ?_⟩
      refine ⟨_, rfl, p, _, rfl, get_left hp, _, rfl, _, _, rfl, rfl,
        divW_ok hm bm (by decide) (by decide), _, rfl, p, _, rfl,
        dput_left hp _, ?_⟩
      refine ⟨_, rfl, ?_⟩
      refine q _ _ Keep.refl.set ⟨cs, b, l / m, upd_same, ?_, hlen,
        hbig, by omega, hl.div hm⟩ (Int.emod_nonneg _ (by omega))
        (Int.emod_lt_of_pos _ hm)
      rw [upd_ne npc]; exact hc
    · -- begun, cell
      refine ⟨_, rfl, p, _, rfl, get_begun hp, _, _, rfl, ?_⟩
      refine ⟨_, rfl, _, _, rfl, rfl, _, rfl, p, _, rfl,
        dput_begun hp _, ?_⟩
      have hp1 : (upd H p (.dK (penKvs c ((b : Int) + 1) l))) p =
        some (.dK (penKvs c ((b : Int) + 1) l)) := upd_same
      have hc1 : (upd H p (.dK (penKvs c ((b : Int) + 1) l))) c =
        some (.lst (cs.map V.int)) := by rw [upd_ne npc]; exact hc
      have k1 : Keep p H (upd H p (.dK (penKvs c ((b : Int) + 1) l))) :=
        Keep.refl.set
      generalize upd H p (.dK (penKvs c ((b : Int) + 1) l)) = H1
        at hp1 hc1 k1
      refine ⟨fun σ H2 => ∃ z : Int, BB 1048576 z ∧
        σ = [some (.ref p), some (.int m), none, some (.int (b : Int)),
          some (.int z), none] ∧
        H2 p = some (.dK (penKvs c ((b : Int) + 1) l)) ∧
        H2 c = some (.lst (cs.map V.int)) ∧ Keep p H H2, ?_, ?_⟩
      · refine ⟨_, rfl, p, _, rfl, get_cells hp1, Nat.zero_le _,
          fun q1 nq => ?_⟩
        refine ⟨.list (cs.map .int), .list (([] : List Int).map .int),
          dpL (.of (upd_of nq hc1)), dpL (.of upd_same), shapedL _,
          shapedL [], _, rfl, ?_⟩
        have hp2 := upd_of (o := .lst []) nq hp1
        have hc2 := upd_of (o := .lst []) nq hc1
        have k2 : Keep p H (upd H1 q1 (.lst [])) := k1.new nq
        rw [eqvL]
        by_cases he : cs = []
        · refine if' (by rw [decide_eq_true he]; rfl) ?_
          exact ⟨0, BB.zero, rfl, hp2, hc2, k2⟩
        · refine it (by rw [decide_eq_false he]; rfl) ?_
          have hl0 : 0 < cs.length := List.length_pos_iff.mpr he
          have hj : b % cs.length < cs.length := Nat.mod_lt _ hl0
          refine ⟨_, rfl, p, _, rfl, get_cells hp2, _, rfl, _, rfl, p,
            _, rfl, get_cells hp2, c, _, rfl, .inl (.of hc2), _, _,
            rfl, rfl, ?_, c, _, _, .int cs[b % cs.length], rfl, rfl,
            .of hc2, ?_, ?_⟩
          · rw [List.length_map]; omega
          · refine at_of (j := b % cs.length) ?_ ?_
            · rw [List.length_map]; rfl
            · rw [List.getElem?_map, List.getElem?_eq_getElem hj]; rfl
          · exact ⟨_, hbig _ (List.getElem_mem hj), rfl, hp2, hc2, k2⟩
      · rintro σ H2 ⟨z, bz, rfl, hp2, hc2, k2⟩
        have cp : CPowX 10 18 := ⟨by decide, by decide +kernel⟩
        have e18 : (10 : Int) ^ (18 : Int).toNat =
          1000000000000000000 := by decide
        refine ⟨fun σ H3 => H3 = H2 ∧ σ = [some (.ref p),
          some (.int m), none, some (.int (b : Int)), some (.int z),
          none], ?_, ?_⟩
        · refine ⟨_, rfl, _, rfl, p, _, rfl, get_cells hp2, c, _, rfl,
            .inl (.of hc2), _, _, rfl, rfl, _, rfl, ?_⟩
          refine ite2 (fun h1 => ?_) (fun h1 => iteF ⟨rfl, rfl⟩)
          refine ⟨_, rfl, z, rfl, _, _, rfl, rfl, cp, _, _, rfl, rfl,
            _, rfl, ?_⟩
          refine ite2 (fun h2 => ?_) (fun h2 => ⟨rfl, rfl⟩)
          rw [e18] at h2
          have h3 := of_decide_eq_true h2
          have ba : BB 1048577 ((if z < 0 then -z else z) -
              (10 : Int) ^ (18 : Int).toNat) := by
            rw [e18]
            exact (bz.abs.sub ((show BB 64 1000000000000000000 by
              show _ < _; decide).mono (by decide)))
          refine ⟨_, rfl, z, rfl, _, _, rfl, rfl, cp, _, _, rfl, rfl,
            _, rfl, _, _, rfl, rfl, divW_ok hm bm (by decide)
            (by decide), _, rfl, p, _, rfl, dput_left hp2 _, ?_⟩
          refine ⟨_, rfl, z, rfl, _, _, rfl, rfl, cp, _, _, rfl, rfl,
            _, rfl, _, _, rfl, rfl, hm, ?_⟩
          refine q _ _ k2.set ⟨cs, b + 1, _, upd_same, ?_, hlen, hbig,
            by omega, ?_⟩ (Int.emod_nonneg _ (by omega))
            (Int.emod_lt_of_pos _ hm)
          · rw [upd_ne npc]; exact hc2
          · refine BB.div ?_ hm
            rw [e18]
            refine bz.abs.le ?_
            omega
        · rintro σ H3 ⟨rfl, rfl⟩
          have bb : BB 60 (b : Int) := by
            show b < _
            have : (2 : Nat) ^ 60 = 1152921504606846976 := by decide
            omega
          have c61 : BB 64 61 := by show _ < _; decide
          have c29 : BB 64 29 := by show _ < _; decide
          have c3 : BB 64 3 := by show _ < _; decide
          have c1 : BB 64 1 := by show _ < _; decide
          have cA : BB 64 6364136223846793005 := by show _ < _; decide
          have cC : BB 64 1442695040888963407 := by show _ < _; decide
          have cP : BB 64 2654435761 := by show _ < _; decide
          have modP : (0 : Int) < 18446744073709551557 := by decide
          have bx : BB 1048700 ((z + 61 * (b : Int) * b + 29 * b + 3) *
              6364136223846793005) := by
            have h1 := ((bz.add (((c61.mul bb).mul bb).mono
              (show 64 + 60 + 60 ≤ 1048576 by decide))).add
              ((c29.mul bb).mono
              (show 64 + 60 ≤ 1048576 + 1 by decide))).add
              (c3.mono (show 64 ≤ 1048576 + 1 + 1 by decide))
            exact (h1.mul cA).mono (by decide)
          refine ⟨_, rfl, _, rfl, _, _, rfl, rfl, mulX_ok c61 bb
            (by decide), _, rfl, _, _, rfl, rfl, mulX_ok (c61.mul bb) bb
            (by decide), _, _, rfl, rfl, _, rfl, _, _, rfl, rfl,
            mulX_ok c29 bb (by decide), _, _, rfl, rfl, _, _, rfl, rfl,
            _, _, rfl, rfl, mulX_ok (j := 1048700) (k := 64) ?_ cA
            (by decide), ?_⟩
          · have h1 := ((bz.add (((c61.mul bb).mul bb).mono
              (show 64 + 60 + 60 ≤ 1048576 by decide))).add
              ((c29.mul bb).mono
              (show 64 + 60 ≤ 1048576 + 1 by decide))).add
              (c3.mono (show 64 ≤ 1048576 + 1 + 1 by decide))
            exact h1.mono (by decide)
          refine ⟨_, rfl, _, rfl, _, _, rfl, rfl, _, _, rfl, rfl,
            mulX_ok cC ((bb.mono (by decide)).add c1) (by decide), _, _,
            rfl, rfl, _, _, rfl, rfl, modP, ?_⟩
          have yb : BB 64 (((z + 61 * (b : Int) * b + 29 * b + 3) *
              6364136223846793005 +
              1442695040888963407 * ((b : Int) + 1)) %
              18446744073709551557) := by
            generalize (z + 61 * (b : Int) * b + 29 * b + 3) *
              6364136223846793005 +
              1442695040888963407 * ((b : Int) + 1) = x
            exact BB.small (by omega)
          refine ⟨_, rfl, _, rfl, _, _, rfl, rfl, _, _, rfl, rfl,
            mulX_ok yb (yb.add cP) (by decide), _, _, rfl, rfl,
            modP, ?_⟩
          refine ⟨_, rfl, _, _, rfl, rfl, divW_ok (k := 64) (by decide)
            (by show _ < _; decide) (by decide) (by decide), _, rfl, _,
            _, rfl, rfl, hm, ?_⟩
          exact q _ _ k2 ⟨cs, b + 1, l, hp2, hc2, hlen, hbig, by omega,
            hl⟩ (Int.emod_nonneg _ (by omega)) (Int.emod_lt_of_pos _ hm)

def spPen (K : PySem.W.Frag) : Sp := fun vs H Q _ =>
  ∃ (a : Addr) (ns : List Int), vs = [.ref a] ∧
    SqL K H a (ns.map V.int) ∧ ns.length ≤ 63 ∧
    (∀ z ∈ ns, BB 1048576 z) ∧ ∀ H' p c, Same H H' → H p = none →
      H c = none → Pen H' p c 0 → Q (.ref p) H'
theorem cut_to (xs : List V) (n : Nat) (h : xs.length ≤ n) :
    cutV xs none (some (n : Int)) = xs := by
  unfold cutV
  rw [show HT.sIx xs.length 0 none = 0 from HT.sIx_none ..,
    show HT.sIx xs.length xs.length (some (n : Int)) =
      min n xs.length from HT.sIx_nat ..]
  rw [Nat.min_eq_right h]
  show List.take (xs.length - 0) xs = xs
  rw [Nat.sub_zero]
  exact List.take_length
theorem ok_pen {f : Addr} {fd : FuncData}
    (F : Fun K "_law_pen" "_law_pen" s_pen f fd) (Z : Zs mg) :
    FnOk P w K mg base CX0 1 f fd ["script"] (spPen K) := by
  refine F.ok sc_pen (fun vs H Q E h => ?_)
    (fun cdv A outer s H vs Q E hr h => ?_)
  · obtain ⟨a, ns, rfl, _⟩ := h
    rfl
  · obtain ⟨a, ns, rfl, hs, hl, hb, q⟩ := h
    have hu := hu_of hr
    refine ⟨_, (pss_one /- return {'cells': [cell for cell in script[:63]], 'begun': 0, 'left': 0} -/ (ps_ret (pe_disp (pps_cons pe_str (pe_lc (own := [("cell", 1)]) (g := (gName 1)) (by rfl) sc_pen.nd (pi_list (pe_slice sl_list (pv 0) po_none (po_some pe_int))) (blkOk_by (own := [("cell", 1)]) (N := N_pen) (sc := defScope s_pen) (by decide +kernel)) (fun _ _ _ _ _ => pg_name (i := 1) sc_pen.nd rfl (Or.inl rfl)) (fun _ _ _ _ _ => pts_nil) (fun _ _ _ _ _ => (pv 1))) (pps_cons pe_str pe_int (pps_cons pe_str pe_int pps_nil))) (by rfl) (by rfl) (fun z => by cases z) (by decide)))), ?_⟩
    intro p np
    have s1 : Same H (upd H p (.dK [])) := same_new (Same.refl H) np
    refine ⟨_, rfl, 63, rfl, a, _, rfl, s1.seq hs, fun c0 nc0 => ?_⟩
    have hc0 := cut_to (ns.map V.int) 63 (by rw [List.length_map]; exact hl)
    rw [show ((63 : Nat) : Int) = 63 from rfl] at hc0
    rw [hc0]
    have s2 : Same H (upd (upd H p (.dK [])) c0 (.lst (ns.map V.int))) :=
      same_new s1 nc0
    have hp2 : (upd (upd H p (.dK [])) c0 (.lst (ns.map V.int))) p =
      some (.dK []) := upd_of nc0 upd_same
    have hc2 : (upd (upd H p (.dK [])) c0 (.lst (ns.map V.int))) c0 =
      some (.lst (ns.map V.int)) := upd_same
    generalize upd (upd H p (.dK [])) c0 (.lst (ns.map V.int)) = H2
      at s2 hp2 hc2 ⊢
    refine ⟨c0, rfl, ⟨_, .of hc2⟩, fun D nD => ?_⟩
    refine lc_list (K := K) (a := c0) (xs := ns.map V.int)
      (fun i H' => Same H H' ∧ H' p = some (.dK []) ∧
        H' c0 = some (.lst (ns.map V.int)) ∧
        H' D = some (.lst ((ns.take i).map V.int)))
      ⟨same_new s2 nD, upd_of nD hp2, upd_of nD hc2, upd_same⟩ ?_ ?_ ?_
    · rintro i H' _ ⟨_, _, h3, _⟩
      exact .of h3
    · rintro i x H' hx ⟨h1, h2, h3, h4⟩
      refine ⟨rfl, ?_⟩
      obtain ⟨z, g1, rfl⟩ := map_get hx
      have npD : p ≠ D := ne_of_none hp2 nD
      have ncD : c0 ≠ D := ne_of_none hc2 nD
      have nDD : H D = none := s2.free nD
      refine ⟨_, rfl, _, h4, ?_, ?_, ?_, ?_, ?_⟩
      · rw [List.length_map, List.length_take, sizeLine_eq]; omega
      · intro b o hb'
        rw [upd_ne (ne_of_none hb' nDD)]; exact h1 b o hb'
      · rw [upd_ne npD]; exact h2
      · rw [upd_ne ncD]; exact h3
      · rw [upd_same, List.take_add_one, g1, List.map_append]
        rfl
    · rintro H' ⟨h1, h2, h3, h4⟩
      rw [List.length_map, List.take_length] at h4
      refine ⟨h2, penKvs D 0 0, rfl, by show 3 ≤ 15; decide, ?_⟩
      rw [merge_pen]
      have npD : D ≠ p := (ne_of_none hp2 nD).symm
      refine q _ p D ?_ np (s2.free nD)
        ⟨ns, 0, 0, upd_same, ?_, hl, hb, Nat.le_refl _, BB.zero⟩
      · intro b o hb'
        rw [upd_ne (ne_of_none hb' np)]; exact h1 b o hb'
      · rw [upd_ne npD]; exact h4
def spPick (K : PySem.W.Frag) : Sp := fun vs H Q _ =>
  ∃ (p c a : Addr) (n : Nat) (xs : List V), vs = [.ref p, .ref a] ∧
    SqL K H a xs ∧ 0 < xs.length ∧ xs.length ≤ 1000000 ∧ Pen H p c n ∧
    n < 1000000000000000000 ∧ ∀ H' v, Keep p H H' →
      Pen H' p c (n + 1) → v ∈ xs → Q v H'
theorem ok_pick {f : Addr} {fd : FuncData}
    (F : Fun K "_law_pick" "_law_pick" s_pick f fd) (Z : Zs mg)
    (D_draw : Dd P w K mg base "_law_draw" 1 ["pen", "many"] spDraw) :
    FnOk P w K mg base CX0 2 f fd ["pen", "some"] (spPick K) := by
  refine F.ok sc_pick (fun vs H Q E h => ?_)
    (fun cdv A outer s H vs Q E hr h => ?_)
  · obtain ⟨p, c, a, n, xs, rfl, _⟩ := h
    rfl
  · obtain ⟨p, c, a, n, xs, rfl, hs, h0, hl, P0, hn, q⟩ := h
    have hu := hu_of hr
    refine ⟨_, (pss_one /- return some[_law_draw(pen, len(some))] -/ (ps_ret (pe_ix ix_list (pv 1) (pe_d D_draw (hr.mono (by decide)) (by rfl) (pa_cons (pv 0) (pa_cons (pe_callB call_len_seq (by rfl) Z.len (by decide +kernel) (pa_cons (pv 1) pa_nil)) pa_nil))) (fun _ _ => rfl)))), ?_⟩
    obtain ⟨k, hp⟩ := P0.p
    refine ⟨_, rfl, _, rfl, _, rfl, a, xs, rfl, .inl hs, p, c, n, _,
      rfl, by omega, ?_, P0, hn, fun H' d kp P1 d0 d1 => ?_⟩
    · exact BB.mono (BB.small (by omega)) (by decide)
    · obtain ⟨j, rfl⟩ := Int.eq_ofNat_of_zero_le d0
      have hj : j < xs.length := by omega
      refine ⟨a, xs, _, xs[j], rfl, rfl, kp.sq hp hs,
        at_of rfl (List.getElem?_eq_getElem hj), ?_⟩
      exact q H' _ kp P1 (List.getElem_mem hj)
end

theorem bl_bL (n : Nat) : bl n = bL n := by
  unfold bl bL Builtin.Int.intBits
  by_cases h : n = 0
  · subst h; rfl
  · have h' : ¬ ((n : Int) == 0) = true := by simpa using h
    rw [if_neg h, if_neg h']; rfl

/-! ### the class Span -/
theorem kpa : ¬ (("_pairs" : Str) = "_added") := by decide +kernel
theorem kap : ¬ (("_added" : Str) = "_pairs") := fun h => kpa h.symm
def sF (A : Addr) (k : Nat) : List (Str × V) :=
  [("_pairs", .ref A), ("_added", .int (k : Nat))]
theorem sF_pairs (A : Addr) (k : Nat) :
    (sF A k).lookup ("_pairs" : Str) = some (.ref A) := by
  unfold sF
  have e : (("_pairs" : Str) == "_pairs") = true := beq_self_eq_true _
  simp only [List.lookup, e]
theorem sF_added (A : Addr) (k : Nat) :
    (sF A k).lookup ("_added" : Str) = some (.int (k : Nat)) := by
  unfold sF
  have e : (("_added" : Str) == "_added") = true := beq_self_eq_true _
  have e2 : (("_added" : Str) == "_pairs") = false := by simpa using kap
  simp only [List.lookup, e, e2]
theorem sF_no (A : Addr) (k : Nat) {m : Str} (h1 : ¬ m = "_pairs")
    (h2 : ¬ m = "_added") : (sF A k).lookup m = none := by
  unfold sF
  have e1 : (m == "_pairs") = false := by simpa using h1
  have e2 : (m == "_added") = false := by simpa using h2
  simp only [List.lookup, e1, e2]
theorem sF_put_pairs (A B : Addr) (k : Nat) :
    putF "_pairs" (.ref B) (sF A k) = sF B k := by
  show (if ("_pairs" : Str) = "_pairs" then
    (("_pairs" : Str), V.ref B) :: [(("_added" : Str), V.int (k : Nat))]
    else _) = _
  rw [if_pos rfl]; rfl
theorem sF_put_added (A : Addr) (k m : Nat) :
    putF "_added" (.int (m : Nat)) (sF A k) = sF A m := by
  show (if ("_pairs" : Str) = "_added" then _ else
    (("_pairs" : Str), V.ref A) :: (if ("_added" : Str) = "_added" then
      [(("_added" : Str), V.int (m : Nat))] else _)) = _
  rw [if_neg kpa, if_pos rfl]; rfl
theorem sF_new (A : Addr) (m : Nat) :
    putF "_added" (.int (m : Nat)) (putF "_pairs" (.ref A) []) = sF A m := by
  show (if ("_pairs" : Str) = "_added" then _ else
    (("_pairs" : Str), V.ref A) :: putF "_added" (.int (m : Nat)) []) = _
  rw [if_neg kpa]; rfl
structure STxt (K : PySem.W.Frag) (C : Addr) : Prop where
  cl : Cls K C
  np : NoAttr K C "_pairs"
  na : NoAttr K C "_added"
/-- a span: the instance S; O: its list and its pairs -/
structure SpanAt (H : Hp) (C S : Addr) (O : List Addr) (R : List Nat)
    (k : Nat) : Prop where
  ex : ∃ dx A, ∃ prs : List (Addr × Nat × Nat),
    H S = some (.ins C dx (sF A k)) ∧ O = A :: prs.map (·.1) ∧
    H A = some (.lst (prs.map fun t => V.ref t.1)) ∧
    (∀ t ∈ prs, H t.1 = some (.tup [.int (t.2.1 : Nat),
      .int (t.2.2 : Nat)])) ∧ R = prs.map (·.2.1) ∧
    ∀ t ∈ prs, t.2.2 < 2 ^ k
  rows : Rows R
  lt : ∀ r ∈ R, r < 2 ^ 199
  few : R.length ≤ k ∧ k ≤ 50
theorem SpanAt.keep {H H' : Hp} {C S p : Addr} {O : List Addr}
    {R : List Nat} {m : Nat} (h : SpanAt H C S O R m) (k : Keep p H H')
    (nS : S ≠ p) (np : p ∉ O) : SpanAt H' C S O R m := by
  obtain ⟨dx, A, prs, e1, e2, e3, e4, e5, e6⟩ := h.ex
  have nA : A ≠ p := fun z => np (by rw [e2, z]; exact List.mem_cons_self ..)
  refine ⟨⟨dx, A, prs, k _ _ e1 nS, e2, k _ _ e3 nA, fun t ht => ?_, e5,
    e6⟩, h.rows, h.lt, h.few⟩
  refine k _ _ (e4 t ht) fun z => np ?_
  rw [e2, ← z]
  exact List.mem_cons_of_mem _ (List.mem_map.mpr ⟨t, ht, rfl⟩)
theorem SpanAt.same {H H' : Hp} {C S : Addr} {O : List Addr}
    {R : List Nat} {m : Nat} (h : SpanAt H C S O R m) (k : Same H H') :
    SpanAt H' C S O R m := by
  obtain ⟨dx, A, prs, e1, e2, e3, e4, e5, e6⟩ := h.ex
  exact ⟨⟨dx, A, prs, k _ _ e1, e2, k _ _ e3, fun t ht => k _ _ (e4 t ht),
    e5, e6⟩, h.rows, h.lt, h.few⟩
theorem SpanAt.ins {H : Hp} {C S : Addr} {O : List Addr} {R : List Nat}
    {m : Nat} (h : SpanAt H C S O R m) : ∃ dx A,
    H S = some (.ins C dx (sF A m)) := by
  obtain ⟨dx, A, prs, e1, _⟩ := h.ex
  exact ⟨dx, A, e1⟩
theorem sm_snoc (R : List Nat) (r n : Nat) : sm (R ++ [r]) n =
    sm R n ^^^ (if n.testBit (tp r) = true then r else 0) := by
  rw [sm_perm (List.perm_append_singleton r R)]
  show _ ^^^ sm R n = _
  rw [Nat.xor_comm]
section
variable {P : Program} {w : World} {K : PySem.W.Frag}
variable {mg : Str → Option Value} {base : Heap} {CS : Addr}
structure spReduced (C : Addr) (vs : List V) (H : Hp) (Q : VK) (E : XK) :
    Prop where
  ex : ∃ (S : Addr) (O : List Addr) (R : List Nat) (k n q0 j : Nat),
    vs = [.ref S, .int (n : Nat), .int (q0 : Nat)] ∧
    SpanAt H C S O R k ∧ q0 < 2 ^ j ∧ k ≤ j ∧
    ∀ H' t (pl : Nat), Same H H' → H t = none →
      H' t = some (.tup [.int (rs R n : Nat), .int (pl : Nat)]) →
      pl < 2 ^ j → Q (.ref t) H'
theorem ok_Span__reduced {f : Addr} {fd : FuncData}
    (F : Fun K "_reduced" "Span._reduced" s_Span__reduced f fd)
    (TS : STxt K CS)
    (D_top : Dd P w K mg base "top" 1 ["number"] spTop) :
    FnOk P w K mg base CX0 2 f fd ["self", "number", "places"]
      (spReduced CS) := by
  refine F.ok sc_Span__reduced (fun vs H Q E h => ?_)
    (fun cdv A outer s H vs Q E hr h => ?_)
  · obtain ⟨S, O, R, k, n, q0, j, rfl, _⟩ := h
    rfl
  · obtain ⟨S, O, R, k, n, q0, j, rfl, hh, hq0, hkj, q⟩ := h
    obtain ⟨dx, L, prs, e1, e2, e3, e4, e5, e6⟩ := hh.ex
    refine ⟨_, (pss_cons /- left = number -/ (ps_set (i := 3) sc_Span__reduced.nd rfl (Or.inl rfl) (pv 1))
(pss_cons /- for row, made in self._pairs: -/ (ps_for PassesOwn.never rfl (pi_list (pe_fld (pv 0) rfl)) (pg_tup (n := 2) rfl (pgs_cons (pg_name (i := 4) sc_Span__reduced.nd rfl (Or.inl rfl)) (pgs_cons (pg_name (i := 5) sc_Span__reduced.nd rfl (Or.inl rfl)) pgs_nil)))
(pss_one /- if number >> top(row) & 1: -/ (ps_if (pt_int (pe_op op_odd (pe_op op_shrM (pv 1) (pe_d D_top (hr.mono (by decide)) (by rfl) (pa_cons (pv 4) pa_nil))) pe_int) (by intro _; rfl))
(pss_cons /- left = left ^ row -/ (ps_set (i := 3) sc_Span__reduced.nd rfl (Or.inl rfl) (pe_op op_xorN (pv 3) (pv 4)))
(pss_one /- places = places ^ made -/ (ps_set (i := 2) sc_Span__reduced.nd rfl (Or.inl rfl) (pe_op op_xorN (pv 2) (pv 5)))))
pss_nil)))
(pss_one /- return (left, places) -/ (ps_ret (pe_tup (pa_cons (pv 3) (pa_cons (pv 2) pa_nil))))))), ?_⟩
    refine ⟨_, rfl, _, rfl, S, CS, dx, _, _, rfl, e1, TS.cl, TS.np,
      sF_pairs _ _, L, rfl, ⟨_, .of e3⟩, ?_⟩
    refine for_list (K := K) (a := L) (xs := prs.map fun t => V.ref t.1)
      (fun i σ H' => H' = H ∧ ∃ (pl : Nat) (v4 v5 : Option V),
        σ = [some (.ref S), some (.int (n : Nat)), some (.int (pl : Nat)),
          some (.int (n ^^^ sm (R.take i) n : Nat)), v4, v5] ∧ pl < 2 ^ j)
      ⟨rfl, q0, none, none, by
        show _ = [some (V.ref S), some (V.int (n : Nat)),
          some (V.int (q0 : Nat)), some (V.int (n ^^^ 0 : Nat)), none, none]
        rw [Nat.xor_zero]; rfl, hq0⟩ ?_ ?_ ?_
    · rintro i σ H' _ ⟨rfl, _⟩; exact .of e3
    · rintro i x σ H' hx ⟨rfl, pl, v4, v5, rfl, hpl⟩
      obtain ⟨t, et, rfl⟩ := map_get hx
      have hmem := List.mem_of_getElem? et
      have g := e4 t hmem
      obtain ⟨T, row, made⟩ := t
      have hrow : row ∈ R := by
        rw [e5]; exact List.mem_map.mpr ⟨_, hmem, rfl⟩
      have r0 := hh.rows.nz row hrow
      have bp := bL_pos r0
      have etv : topV row = .int (tp row : Nat) := by
        unfold topV tp
        rw [if_neg r0, bl_bL]
        congr 1
        omega
      have etk : R.take (i + 1) = R.take i ++ [row] := by
        rw [List.take_add_one, e5, List.getElem?_map, et]; rfl
      have hj := e6 _ hmem
      refine ⟨T, [.int (row : Nat), .int (made : Nat)], rfl, .of g, rfl, _,
        [_], rfl, _, [], rfl, rfl, ?_⟩
      refine ⟨_, rfl, _, rfl, row, rfl, ?_⟩
      rw [etv]
      refine ⟨n, tp row, rfl, rfl, n / 2 ^ tp row, rfl, rfl, _, rfl, ?_⟩
      rw [odd_bit]
      by_cases hb : n.testBit (tp row) = true
      · refine it hb ?_
        refine ⟨_, rfl, _, rfl, _, _, rfl, rfl, _, rfl, _, rfl, _, _, rfl,
          rfl, rfl, pl ^^^ made, some (.int (row : Nat)),
          some (.int (made : Nat)), ?_, Nat.xor_lt_two_pow hpl
            (Nat.lt_of_lt_of_le hj (Nat.pow_le_pow_right (by decide) hkj))⟩
        have e : n ^^^ sm (R.take (i + 1)) n =
            (n ^^^ sm (R.take i) n) ^^^ row := by
          rw [etk, sm_snoc, if_pos hb, Nat.xor_assoc]
        rw [e]; rfl
      · refine if' (by simpa using hb) ⟨rfl, pl, some (.int (row : Nat)),
          some (.int (made : Nat)), ?_, hpl⟩
        have e : n ^^^ sm (R.take (i + 1)) n = n ^^^ sm (R.take i) n := by
          rw [etk, sm_snoc, if_neg hb, Nat.xor_zero]
        rw [e]; rfl
    · rintro σ H' ⟨rfl, pl, v4, v5, rfl, hpl⟩
      have eR : R.take (prs.map fun t => V.ref t.1).length = R := by
        rw [List.length_map, e5]
        refine List.take_of_length_le ?_
        rw [List.length_map]; exact Nat.le_refl _
      rw [eR]
      refine ⟨_, rfl, _, rfl, by show 2 ≤ sizeLine; decide, fun t nt => ?_⟩
      exact q _ t pl (same_new (Same.refl _) nt) nt upd_same hpl
end

/-! ### more of Span -/
theorem perm_of_map {α β : Type} (f : α → β) {ys : List β} {zs : List β}
    (h : ys.Perm zs) : ∀ {l : List α}, zs = l.map f →
    ∃ m : List α, m.Perm l ∧ ys = m.map f := by
  induction h with
  | nil =>
    intro l e
    refine ⟨[], ?_, rfl⟩
    rw [List.map_eq_nil_iff.mp e.symm]
  | cons x h ih =>
    intro l e
    cases l with
    | nil => cases e
    | cons a r =>
      have e1 := (List.cons.inj e).1
      obtain ⟨m, pm, em⟩ := ih (List.cons.inj e).2
      exact ⟨a :: m, pm.cons a, by rw [e1, em]; rfl⟩
  | swap x y l0 =>
    intro l e
    cases l with
    | nil => cases e
    | cons a r =>
      cases r with
      | nil => exact absurd (List.cons.inj e).2 (by intro z; cases z)
      | cons b r =>
        have e1 := (List.cons.inj e).1
        have e2 := (List.cons.inj (List.cons.inj e).2).1
        have e3 := (List.cons.inj (List.cons.inj e).2).2
        exact ⟨b :: a :: r, List.Perm.swap a b r, by rw [e1, e2, e3]; rfl⟩
  | trans _ _ a b =>
    intro l e
    obtain ⟨m, pm, em⟩ := b e
    obtain ⟨m2, pm2, em2⟩ := a em
    exact ⟨m2, pm2.trans pm, em2⟩
theorem Rows.perm {R S : List Nat} (h : Rows R) (p : S.Perm R) : Rows S :=
  ⟨fun r hr => h.nz r (p.mem_iff.mp hr),
    (p.pairwise_iff fun {a b} (x : Apart a b) => ⟨x.2, x.1⟩).mpr h.ap⟩
theorem sF_inc (A : Addr) (k : Nat) :
    putF "_added" (.int ((k : Nat) + 1 : Int)) (sF A k) = sF A (k + 1) :=
  sF_put_added A k (k + 1)
section
variable {P : Program} {w : World} {K : PySem.W.Frag}
variable {mg : Str → Option Value} {base : Heap} {CS : Addr}
structure spRest (C : Addr) (vs : List V) (H : Hp) (Q : VK) (E : XK) :
    Prop where
  ex : ∃ (S : Addr) (O : List Addr) (R : List Nat) (k n : Nat),
    vs = [.ref S, .int (n : Nat)] ∧ SpanAt H C S O R k ∧
    ∀ H', Same H H' → Q (.int (rs R n : Nat)) H'
theorem ok_Span_rest {f : Addr} {fd : FuncData}
    (F : Fun K "rest" "Span.rest" s_Span_rest f fd) (TS : STxt K CS)
    (D_Span__reduced : Dm P w K mg base CS "_reduced" 2
      ["self", "number", "places"] (spReduced CS)) :
    FnOk P w K mg base CX0 3 f fd ["self", "number"] (spRest CS) := by
  refine F.ok sc_Span_rest (fun vs H Q E h => ?_)
    (fun cdv A outer s H vs Q E hr h => ?_)
  · obtain ⟨S, O, R, k, n, rfl, _⟩ := h
    rfl
  · obtain ⟨S, O, R, k, n, rfl, hh, q⟩ := h
    obtain ⟨dx, L, e1⟩ := hh.ins
    refine ⟨_, (pss_one /- return self._reduced(number, 0)[0] -/ (ps_ret (pe_ix ix_tup (pe_dm TS.cl D_Span__reduced (hr.mono (by decide)) (pv 0) (pa_cons (pv 1) (pa_cons pe_int pa_nil))) pe_int (fun _ _ => rfl)))), ?_⟩
    refine ⟨_, rfl, S, dx, _, rfl, e1, sF_no _ _ (by decide +kernel)
      (by decide +kernel), _, rfl, S, O, R, k, n, 0, k, rfl, hh,
      Nat.two_pow_pos _, Nat.le_refl _, fun H' t pl s nt ht hp => ?_⟩
    exact ⟨t, _, 0, .int (rs R n : Nat), rfl, rfl, .of ht, rfl, q H' s⟩
structure spHolds (C : Addr) (vs : List V) (H : Hp) (Q : VK) (E : XK) :
    Prop where
  ex : ∃ (S : Addr) (O : List Addr) (R : List Nat) (k n : Nat),
    vs = [.ref S, .int (n : Nat)] ∧ SpanAt H C S O R k ∧
    ∀ H', Same H H' → Q (.bl (decide (rs R n = 0))) H'
theorem ok_Span_holds {f : Addr} {fd : FuncData}
    (F : Fun K "holds" "Span.holds" s_Span_holds f fd) (TS : STxt K CS)
    (D_Span_rest : Dm P w K mg base CS "rest" 3
      ["self", "number"] (spRest CS)) :
    FnOk P w K mg base CX0 4 f fd ["self", "number"] (spHolds CS) := by
  refine F.ok sc_Span_holds (fun vs H Q E h => ?_)
    (fun cdv A outer s H vs Q E hr h => ?_)
  · obtain ⟨S, O, R, k, n, rfl, _⟩ := h
    rfl
  · obtain ⟨S, O, R, k, n, rfl, hh, q⟩ := h
    obtain ⟨dx, L, e1⟩ := hh.ins
    refine ⟨_, (pss_one /- return self.rest(number) == 0 -/ (ps_ret (pe_cmpR op_eq (pe_dm TS.cl D_Span_rest (hr.mono (by decide)) (pv 0) (pa_cons (pv 1) pa_nil)) pe_int (nomark _)))), ?_⟩
    refine ⟨_, rfl, S, dx, _, rfl, e1, sF_no _ _ (by decide +kernel)
      (by decide +kernel), _, rfl, S, O, R, k, n, rfl, hh,
      fun H' s => ⟨rfl, ?_⟩⟩
    have e : decide (V.int (rs R n : Nat) = V.int ((0 : Nat) : Int)) =
        decide (rs R n = 0) := by
      rw [dec_int]
      by_cases h : rs R n = 0
      · rw [h]; rfl
      · have h' : ¬ ((rs R n : Int) = ((0 : Nat) : Int)) := by omega
        rw [decide_eq_false h]
        simpa using h'
    show Q (.bl (decide (V.int (rs R n : Nat) = V.int ((0 : Nat) : Int)))) H'
    rw [e]
    exact q H' s
structure spRank (C : Addr) (vs : List V) (H : Hp) (Q : VK) (E : XK) :
    Prop where
  ex : ∃ (S : Addr) (O : List Addr) (R : List Nat) (k : Nat),
    vs = [.ref S] ∧ SpanAt H C S O R k ∧ Q (.int (R.length : Nat)) H
theorem ok_Span_rank {f : Addr} {fd : FuncData}
    (F : Fun K "rank" "Span.rank" s_Span_rank f fd) (Z : Zs mg)
    (TS : STxt K CS) :
    FnOk P w K mg base CX0 1 f fd ["self"] (spRank CS) := by
  refine F.ok sc_Span_rank (fun vs H Q E h => ?_)
    (fun cdv A outer s H vs Q E hr h => ?_)
  · obtain ⟨S, O, R, k, rfl, _⟩ := h
    rfl
  · obtain ⟨S, O, R, k, rfl, hh, q⟩ := h
    obtain ⟨dx, L, prs, e1, e2, e3, e4, e5, e6⟩ := hh.ex
    refine ⟨_, (pss_one /- return len(self._pairs) -/ (ps_ret (pe_callB call_len_seq (by rfl) Z.len (by decide +kernel) (pa_cons (pe_fld (pv 0) rfl) pa_nil)))), ?_⟩
    refine ⟨_, rfl, S, CS, dx, _, _, rfl, e1, TS.cl, TS.np, sF_pairs _ _,
      L, _, rfl, .inl (.of e3), ?_⟩
    have e : (prs.map fun t => V.ref t.1).length = R.length := by
      rw [e5, List.length_map, List.length_map]
    rw [e]; exact q
structure spRows (C : Addr) (vs : List V) (H : Hp) (Q : VK) (E : XK) :
    Prop where
  ex : ∃ (S : Addr) (O : List Addr) (R : List Nat) (k : Nat),
    vs = [.ref S] ∧ SpanAt H C S O R k ∧
    ∀ H' g, Same H H' → H g = none → H' g = some (.lst (nV R)) →
      Q (.ref g) H'
theorem ok_Span_rows {f : Addr} {fd : FuncData}
    (F : Fun K "rows" "Span.rows" s_Span_rows f fd) (TS : STxt K CS) :
    FnOk P w K mg base CX0 1 f fd ["self"] (spRows CS) := by
  refine F.ok sc_Span_rows (fun vs H Q E h => ?_)
    (fun cdv A outer s H vs Q E hr h => ?_)
  · obtain ⟨S, O, R, k, rfl, _⟩ := h
    rfl
  · obtain ⟨S, O, R, k, rfl, hh, q⟩ := h
    obtain ⟨dx, L, prs, e1, e2, e3, e4, e5, e6⟩ := hh.ex
    refine ⟨_, (pss_one /- return [row for row, places in self._pairs] -/ (ps_ret (pe_lc (own := [("row", 1), ("places", 2)]) (g := _) (by rfl) sc_Span_rows.nd (pi_list (pe_fld (pv 0) rfl)) (blkOk_by (own := [("row", 1), ("places", 2)]) (N := N_Span_rows) (sc := defScope s_Span_rows) (by decide +kernel)) (fun _ _ _ _ _ => (pg_tupK (K := K) (n := 2) rfl (pgs_cons (pg_name (i := 1) sc_Span_rows.nd rfl (Or.inl rfl)) (pgs_cons (pg_name (i := 2) sc_Span_rows.nd rfl (Or.inl rfl)) pgs_nil)))) (fun _ _ _ _ _ => pts_nil) (fun _ _ _ _ _ => (pv 1))))), ?_⟩
    refine ⟨_, rfl, S, CS, dx, _, _, rfl, e1, TS.cl, TS.np, sF_pairs _ _,
      L, rfl, ⟨_, .of e3⟩, fun D nD => ?_⟩
    have lp : prs.length ≤ 50 := by
      have := hh.few
      rw [e5, List.length_map] at this
      omega
    refine lc_list (K := K) (a := L) (xs := prs.map fun t => V.ref t.1)
      (fun j H' => Same H H' ∧ H' D = some (.lst (nV (R.take j))))
      ⟨same_new (Same.refl _) nD, upd_same⟩ ?_ ?_ ?_
    · rintro j H' _ ⟨h1, _⟩; exact .of (h1 _ _ e3)
    · rintro j x H' hx ⟨h1, h2⟩
      obtain ⟨t, et, rfl⟩ := map_get hx
      have g := h1 _ _ (e4 t (List.mem_of_getElem? et))
      obtain ⟨T, row, made⟩ := t
      have etk : R.take (j + 1) = R.take j ++ [row] := by
        rw [List.take_add_one, e5, List.getElem?_map, et]; rfl
      refine ⟨T, [.int (row : Nat), .int (made : Nat)], rfl, .of g, rfl, _,
        [_], rfl, _, [], rfl, rfl, rfl, _, rfl, _, h2, ?_, ?_, ?_⟩
      · rw [nV_len, List.length_take, e5, List.length_map, sizeLine_eq]
        omega
      · intro c o hc
        rw [upd_ne (ne_of_none hc nD)]
        exact h1 _ _ hc
      · rw [upd_same, etk, nV_app]; rfl
    · rintro H' ⟨h1, h2⟩
      have eR : R.take (prs.map fun t => V.ref t.1).length = R := by
        rw [List.length_map, e5]
        refine List.take_of_length_le ?_
        rw [List.length_map]; exact Nat.le_refl _
      rw [eR] at h2
      exact q H' D h1 nD h2
structure spAdd (C : Addr) (vs : List V) (H : Hp) (Q : VK) (E : XK) :
    Prop where
  ex : ∃ (S : Addr) (O : List Addr) (R : List Nat) (k n : Nat),
    vs = [.ref S, .int (n : Nat)] ∧ SpanAt H C S O R k ∧ n < 2 ^ 199 ∧
    k < 50 ∧ ∀ H' O' R', Keep S H H' → (∀ o ∈ O', o ∈ O ∨ H o = none) →
      (rs R n = 0 → R' = R) → (rs R n ≠ 0 → R'.Perm (more (rs R n) R)) →
      SpanAt H' C S O' R' (k + 1) → Q (.bl (decide (rs R n ≠ 0))) H'
theorem ok_Span_add {f : Addr} {fd : FuncData}
    (F : Fun K "add" "Span.add" s_Span_add f fd) (Z : Zs mg)
    (TS : STxt K CS)
    (D_top : Dd P w K mg base "top" 1 ["number"] spTop)
    (D_Span__reduced : Dm P w K mg base CS "_reduced" 2
      ["self", "number", "places"] (spReduced CS)) :
    FnOk P w K mg base CX0 3 f fd ["self", "number"] (spAdd CS) := by
  refine F.ok sc_Span_add (fun vs H Q E h => ?_)
    (fun cdv A outer s H vs Q E hr h => ?_)
  · obtain ⟨S, O, R, k, n, rfl, _⟩ := h
    rfl
  · obtain ⟨S, O, R, k, n, rfl, hh, hn, hk, q⟩ := h
    obtain ⟨dx, L, prs, e1, e2, e3, e4, e5, e6⟩ := hh.ex
    refine ⟨_, (pss_cons /- row, places = self._reduced(number, 1 << self._added) -/ (ps_asg (pe_dm TS.cl D_Span__reduced (hr.mono (by decide)) (pv 0) (pa_cons (pv 1) (pa_cons (pe_op op_one pe_int (pe_fld (pv 0) rfl)) pa_nil))) (pg_tup (n := 2) rfl (pgs_cons (pg_name (i := 2) sc_Span_add.nd rfl (Or.inl rfl)) (pgs_cons (pg_name (i := 3) sc_Span_add.nd rfl (Or.inl rfl)) pgs_nil))))
(pss_cons /- self._added = self._added + 1 -/ (ps_fld (pv 0) (pe_op op_add (pe_fld (pv 0) rfl) pe_int) rfl)
(pss_cons /- if row == 0: -/ (ps_if (pt_cmpR op_eq (pv 2) pe_int (nomark _))
(pss_one /- return False -/ (ps_ret pe_bl))
pss_nil)
(pss_cons /- pairs = [(row, places)] -/ (ps_set (i := 4) sc_Span_add.nd rfl (Or.inl rfl) (pe_lst (pa_cons (pe_tup (pa_cons (pv 2) (pa_cons (pv 3) pa_nil))) pa_nil)))
(pss_cons /- for old, made in self._pairs: -/ (ps_for PassesOwn.never rfl (pi_list (pe_fld (pv 0) rfl)) (pg_tup (n := 2) rfl (pgs_cons (pg_name (i := 5) sc_Span_add.nd rfl (Or.inl rfl)) (pgs_cons (pg_name (i := 6) sc_Span_add.nd rfl (Or.inl rfl)) pgs_nil)))
(pss_one /- if old >> top(row) & 1: -/ (ps_if (pt_int (pe_op op_odd (pe_op op_shrM (pv 5) (pe_d D_top (hr.mono (by decide)) (by rfl) (pa_cons (pv 2) pa_nil))) pe_int) (by intro _; rfl))
(pss_one /- pairs.append((old ^ row, made ^ places)) -/ (ps_expr (pe_bm PySem.F.plainAttrs_list PySem.F.slot_list_append PySem.F.type_list_append mt_append (pv 4) (pa_cons (pe_tup (pa_cons (pe_op op_xorN (pv 5) (pv 2)) (pa_cons (pe_op op_xorN (pv 6) (pv 3)) pa_nil))) pa_nil))))
(pss_one /- pairs.append((old, made)) -/ (ps_expr (pe_bm PySem.F.plainAttrs_list PySem.F.slot_list_append PySem.F.type_list_append mt_append (pv 4) (pa_cons (pe_tup (pa_cons (pv 5) (pa_cons (pv 6) pa_nil))) pa_nil)))))))
(pss_cons /- self._pairs = sorted(pairs) -/ (ps_fld (pv 0) (pe_callB cr_sortedP (by rfl) Z.sorted (by decide +kernel) (pa_cons (pv 4) pa_nil)) rfl)
(pss_one /- return True -/ (ps_ret pe_bl)))))))), ?_⟩
    refine ⟨_, rfl, S, dx, _, rfl, e1, sF_no _ _ (by decide +kernel)
      (by decide +kernel), _, rfl, _, rfl, S, CS, dx, _, _, rfl, e1, TS.cl,
      TS.na, sF_added _ _, k, rfl, rfl, by omega, S, O, R, k, n, 2 ^ k,
      k + 1, rfl, hh, Nat.pow_lt_pow_right (by decide) (by omega),
      by omega, fun H1 t pl s1 nt ht hp => ?_⟩
    refine ⟨t, [.int (rs R n : Nat), .int (pl : Nat)], rfl, .of ht, rfl, _,
      [_], rfl, _, [], rfl, rfl, ?_⟩
    have f1 := s1 _ _ e1
    have nSt : S ≠ t := ne_of_none e1 nt
    -- self._added = self._added + 1
    refine ⟨_, rfl, S, CS, dx, _, _, rfl, f1, TS.cl, TS.na, sF_added _ _,
      _, _, rfl, rfl, _, rfl, S, CS, dx, _, rfl, f1, TS.cl, TS.na,
      by show 2 < 1000; decide, ?_⟩
    rw [sF_inc]
    have g1 : (upd H1 S (.ins CS dx (sF L (k + 1)))) S =
        some (.ins CS dx (sF L (k + 1))) := upd_same
    have kp : Keep S H (upd H1 S (.ins CS dx (sF L (k + 1)))) :=
      fun c o hc hcS => by rw [upd_ne hcS]; exact s1 _ _ hc
    have hS : ∀ {c : Addr} {o : HO}, H c = some o → c ≠ S →
        (upd H1 S (.ins CS dx (sF L (k + 1)))) c = some o := fun hc hcS =>
      kp _ _ hc hcS
    generalize upd H1 S (.ins CS dx (sF L (k + 1))) = H2 at g1 kp hS ⊢
    have nLS : L ≠ S := ne_of e3 e1 (by intro z; cases z)
    have nTS : ∀ t ∈ prs, t.1 ≠ S := fun t ht =>
      ne_of (e4 t ht) e1 (by intro z; cases z)
    have hh2 : SpanAt H2 CS S O R (k + 1) := by
      refine ⟨⟨dx, L, prs, g1, e2, hS e3 nLS, fun t ht =>
        hS (e4 t ht) (nTS t ht), e5, fun t ht => Nat.lt_of_lt_of_le (e6 t ht)
          (Nat.pow_le_pow_right (by decide) (Nat.le_succ k))⟩, hh.rows, hh.lt,
        ?_⟩
      have := hh.few
      omega
    -- if row == 0
    refine ⟨_, rfl, rfl, _, rfl, ?_⟩
    have ed : decide (V.int (rs R n : Nat) = V.int 0) =
        decide (rs R n = 0) := by
      rw [dec_int]
      by_cases h : rs R n = 0
      · rw [h]; rfl
      · have h' : ¬ ((rs R n : Int) = 0) := by omega
        rw [decide_eq_false h]
        simpa using h'
    rw [ed]
    by_cases hz : rs R n = 0
    · refine it (decide_eq_true hz) ?_
      have q2 := q H2 O R kp (fun o ho => .inl ho) (fun _ => rfl)
        (fun z => absurd hz z) hh2
      have e : decide (rs R n ≠ 0) = false := decide_eq_false fun z => z hz
      rw [e] at q2
      exact q2
    · refine if' (decide_eq_false hz) ?_
      have hx := rs_top hh.rows n
      have et : decide (rs R n ≠ 0) = true := decide_eq_true hz
      rw [et] at q
      have hxl : rs R n < 2 ^ 199 :=
        Nat.lt_of_le_of_lt (rs_le hh.rows n) hn
      generalize rs R n = x at hz hx q hxl ⊢
      have bp := bL_pos hz
      have etv : topV x = .int (tp x : Nat) := by
        unfold topV tp
        rw [if_neg hz, bl_bL]
        congr 1
        omega
      have few := hh.few
      have lprs : prs.length ≤ k := by
        have := few.1
        rwa [e5, List.length_map] at this
      -- pairs = [(row, places)]
      refine ⟨_, rfl, _, rfl, by show 2 ≤ sizeLine; decide, fun t1 nt1 => ?_⟩
      refine ⟨by show 1 ≤ sizeLine; decide, fun qp nqp => ?_⟩
      have a1 : (upd H2 t1 (.tup [.int (x : Nat), .int (pl : Nat)])) t1 =
          some (.tup [.int (x : Nat), .int (pl : Nat)]) := upd_same
      have a2 := upd_of (o := .lst [.ref t1]) nqp a1
      have a3 : (upd (upd H2 t1 (.tup [.int (x : Nat), .int (pl : Nat)])) qp
          (.lst [.ref t1])) qp = some (.lst [.ref t1]) := upd_same
      have s4 : Same H2 (upd (upd H2 t1 (.tup [.int (x : Nat),
          .int (pl : Nat)])) qp (.lst [.ref t1])) :=
        same_new (same_new (Same.refl _) nt1) nqp
      have nqp2 : H2 qp = none := (same_new (Same.refl _) nt1).free nqp
      generalize upd (upd H2 t1 (.tup [.int (x : Nat), .int (pl : Nat)])) qp
          (.lst [.ref t1]) = H4 at a2 a3 s4 ⊢
      have gL2 : H2 L = some (.lst (prs.map fun t => V.ref t.1)) :=
        hS e3 nLS
      -- for old, made in self._pairs
      refine ⟨_, rfl, S, CS, dx, _, _, rfl, s4 _ _ g1, TS.cl, TS.np,
        sF_pairs _ _, L, rfl, ⟨_, .of (s4 _ _ gL2)⟩, ?_⟩
      refine for_list (K := K) (a := L)
        (xs := prs.map fun t => V.ref t.1) (fun i σ H' =>
        ∃ (nps : List (Addr × Nat × Nat)) (v5 v6 : Option V),
          σ = [some (.ref S), some (.int (n : Nat)), some (.int (x : Nat)),
            some (.int (pl : Nat)), some (.ref qp), v5, v6] ∧
          Same H2 H' ∧
          H' qp = some (.lst (((t1, x, pl) :: nps).map fun t =>
            V.ref t.1)) ∧
          (∀ t ∈ (t1, x, pl) :: nps, H' t.1 = some (.tup
            [.int (t.2.1 : Nat), .int (t.2.2 : Nat)]) ∧ H2 t.1 = none ∧
            t.2.2 < 2 ^ (k + 1)) ∧
          nps.map (·.2.1) = (R.take i).map (fx x) ∧ nps.length ≤ i)
        ⟨[], none, none, rfl, s4, a3, fun t ht => by
          rw [List.mem_singleton] at ht
          subst ht
          exact ⟨a2, nt1, hp⟩, rfl, Nat.le_refl _⟩ ?_ ?_ ?_
      · rintro i σ H' _ ⟨_, _, _, _, s, _⟩; exact .of (s _ _ gL2)
      · rintro i y σ H5 hy ⟨nps0, v5, v6, rfl, s5, b1, b2, b3, b4⟩
        obtain ⟨t, et, rfl⟩ := map_get hy
        have hmem := List.mem_of_getElem? et
        have g := s5 _ _ (hS (e4 t hmem) (nTS t hmem))
        have hil := (List.getElem?_eq_some_iff.mp et).1
        have hmd := e6 t hmem
        obtain ⟨T, old, made⟩ := t
        have etk : R.take (i + 1) = R.take i ++ [old] := by
          rw [List.take_add_one, e5, List.getElem?_map, et]; rfl
        have hmd2 : made < 2 ^ (k + 1) := Nat.lt_of_lt_of_le hmd
          (Nat.pow_le_pow_right (by decide) (Nat.le_succ k))
        have step : ∀ (t2 : Addr) (r m : Nat), H5 t2 = none →
            r = fx x old → m < 2 ^ (k + 1) →
            ∃ (nps : List (Addr × Nat × Nat)) (v5 v6 : Option V),
            [some (V.ref S), some (.int (n : Nat)), some (.int (x : Nat)),
              some (.int (pl : Nat)), some (.ref qp),
              some (.int (old : Nat)), some (.int (made : Nat))] =
            [some (.ref S), some (.int (n : Nat)), some (.int (x : Nat)),
              some (.int (pl : Nat)), some (.ref qp), v5, v6] ∧
            Same H2 (upd (upd H5 t2 (.tup [.int (r : Nat),
              .int (m : Nat)])) qp (.lst ((((t1, x, pl) :: nps0).map fun t =>
              V.ref t.1) ++ [V.ref t2]))) ∧
            (upd (upd H5 t2 (.tup [.int (r : Nat),
              .int (m : Nat)])) qp (.lst ((((t1, x, pl) :: nps0).map fun t =>
              V.ref t.1) ++ [V.ref t2]))) qp =
              some (.lst (((t1, x, pl) :: nps).map fun t => V.ref t.1)) ∧
            (∀ t ∈ (t1, x, pl) :: nps, (upd (upd H5 t2 (.tup [.int (r : Nat),
              .int (m : Nat)])) qp (.lst ((((t1, x, pl) :: nps0).map fun t =>
              V.ref t.1) ++ [V.ref t2]))) t.1 =
              some (.tup [.int (t.2.1 : Nat), .int (t.2.2 : Nat)]) ∧
              H2 t.1 = none ∧ t.2.2 < 2 ^ (k + 1)) ∧
            nps.map (·.2.1) = (R.take (i + 1)).map (fx x) ∧
            nps.length ≤ i + 1 := by
          intro t2 r m nt2 er hm
          have nqt : qp ≠ t2 := ne_of_none b1 nt2
          refine ⟨nps0 ++ [(t2, r, m)], _, _, rfl, ?_, ?_, ?_, ?_, ?_⟩
          · intro c o hc
            rw [upd_ne (ne_of_none hc nqp2), upd_of nt2 (s5 _ _ hc)]
          · rw [upd_same, ← List.cons_append, List.map_append]; rfl
          · intro t ht
            rw [← List.cons_append] at ht
            rcases List.mem_append.mp ht with h | h
            · obtain ⟨c1, c2, c3⟩ := b2 t h
              refine ⟨?_, c2, c3⟩
              rw [upd_ne (ne_of c1 b1 (by intro z; cases z)), upd_of nt2 c1]
            · rw [List.mem_singleton] at h
              subst h
              refine ⟨?_, s5.free nt2, hm⟩
              rw [upd_ne (Ne.symm nqt), upd_same]
          · rw [List.map_append, b3, etk, List.map_append, er]; rfl
          · rw [List.length_append]
            show _ + 1 ≤ _
            omega
        refine ⟨T, [.int (old : Nat), .int (made : Nat)], rfl, .of g, rfl,
          _, [_], rfl, _, [], rfl, rfl, ?_⟩
        refine ⟨_, rfl, _, rfl, x, rfl, ?_⟩
        rw [etv]
        refine ⟨old, tp x, rfl, rfl, old / 2 ^ tp x, rfl, rfl, _, rfl, ?_⟩
        rw [odd_bit]
        by_cases hb : old.testBit (tp x) = true
        · refine it hb ?_
          refine ⟨_, rfl, .inl ⟨rfl, _, .of b1⟩, _, rfl, _, rfl, old, x, rfl,
            rfl, _, rfl, _, rfl, made, pl, rfl, rfl,
            by show 2 ≤ sizeLine; decide, fun t2 nt2 => ?_⟩
          refine ⟨qp, _, _, rfl, rfl, upd_of nt2 b1, ?_, ?_⟩
          · rw [List.length_map, List.length_cons, sizeLine_eq]
            omega
          · exact step t2 (old ^^^ x) (made ^^^ pl) nt2
              (by unfold fx; rw [if_pos hb]) (Nat.xor_lt_two_pow hmd2 hp)
        · refine if' (by simpa using hb) ?_
          refine ⟨_, rfl, .inl ⟨rfl, _, .of b1⟩, _, rfl, _, rfl,
            by show 2 ≤ sizeLine; decide, fun t2 nt2 => ?_⟩
          refine ⟨qp, _, _, rfl, rfl, upd_of nt2 b1, ?_, ?_⟩
          · rw [List.length_map, List.length_cons, sizeLine_eq]
            omega
          · exact step t2 old made nt2 (by unfold fx; rw [if_neg hb]) hmd2
      · rintro σ H5 ⟨nps, v5, v6, rfl, s5, b1, b2, b3, b4⟩
        have eR : R.take (prs.map fun t => V.ref t.1).length = R := by
          rw [List.length_map, e5]
          refine List.take_of_length_le ?_
          rw [List.length_map]; exact Nat.le_refl _
        rw [eR] at b3
        rw [List.length_map] at b4
        have g5 := s5 _ _ g1
        -- self._pairs = sorted(pairs)
        refine ⟨_, rfl, qp, _, rfl, .of b1, fun y hy => ?_,
          fun ys A2 pm nA2 => ?_⟩
        · obtain ⟨t, ht, rfl⟩ := List.mem_map.mp hy
          exact ⟨t.1, _, _, rfl, (b2 t ht).1⟩
        obtain ⟨np2, pm2, rfl⟩ := perm_of_map _ pm rfl
        have g6 := upd_of (o := .lst (np2.map fun t => V.ref t.1)) nA2 g5
        refine ⟨_, rfl, S, CS, dx, _, rfl, g6, TS.cl, TS.np,
          by show 2 < 1000; decide, ?_⟩
        rw [sF_put_pairs]
        have nAS : A2 ≠ S := (ne_of_none g5 nA2).symm
        have hA2 : H A2 = none := by
          cases e : H A2 with
          | none => rfl
          | some o =>
            have h2 := hS e nAS
            have h5 := s5 _ _ h2
            rw [nA2] at h5; cases h5
        have eR2 : (np2.map (·.2.1)).Perm (more x R) := by
          have h1 := pm2.map (fun t : Addr × Nat × Nat => t.2.1)
          rw [List.map_cons, b3] at h1
          exact h1
        have hrows := more_rows hh.rows hz hx
        refine q _ (A2 :: np2.map (·.1)) (np2.map (·.2.1)) ?_ ?_
          (fun z => absurd z hz) (fun _ => eR2) ⟨⟨dx, A2, np2, upd_same, rfl,
            ?_, fun t ht => ?_, rfl, fun t ht =>
              (b2 t (pm2.mem_iff.mp ht)).2.2⟩, hrows.perm eR2, ?_, ?_⟩
        · intro c o hc hcS
          rw [upd_ne hcS, upd_of nA2 (s5 _ _ (hS hc hcS))]
        · intro o ho
          rcases List.mem_cons.mp ho with h | h
          · rw [h]; exact .inr hA2
          · obtain ⟨t, ht, rfl⟩ := List.mem_map.mp h
            obtain ⟨c1, c2, c3⟩ := b2 t (pm2.mem_iff.mp ht)
            refine .inr ?_
            cases e : H t.1 with
            | none => rfl
            | some o =>
              have h2 := hS e (ne_of c1 g5 (by intro z; cases z))
              rw [c2] at h2; cases h2
        · rw [upd_ne nAS, upd_same]
        · obtain ⟨c1, c2, c3⟩ := b2 t (pm2.mem_iff.mp ht)
          rw [upd_ne (ne_of c1 g5 (by intro z; cases z)), upd_of nA2 c1]
        · intro r hr
          rcases List.mem_cons.mp (eR2.mem_iff.mp hr) with h | h
          · rw [h]; exact hxl
          · obtain ⟨s, hs, rfl⟩ := List.mem_map.mp h
            split
            · exact Nat.xor_lt_two_pow (hh.lt s hs) hxl
            · exact hh.lt s hs
        · have h1 := eR2.length_eq
          have h2 : (more x R).length = R.length + 1 := by
            show (x :: R.map _).length = _
            rw [List.length_cons, List.length_map]
          omega
structure spInitS (K : PySem.W.Frag) (C : Addr) (vs : List V) (H : Hp)
    (Q : VK) (E : XK) : Prop where
  ex : ∃ (S dx a : Addr) (l : List Nat), vs = [.ref S, .ref a] ∧
    H S = some (.ins C dx []) ∧ SqL K H a (nV l) ∧
    (∀ n ∈ l, n < 2 ^ 199) ∧ l.length ≤ 40 ∧
    ∀ H' O R, Keep S H H' → (∀ o ∈ O, H o = none) →
      (∀ n ∈ l, rs R n = 0) → SpanAt H' C S O R l.length → Q .non H'
theorem ok_Span_ddinitdd {f : Addr} {fd : FuncData} {d0 : V}
    (F : FunD K "__init__" "Span.__init__"
      (defArgs s_Span_ddinitdd) (defBody s_Span_ddinitdd)
      (defScope s_Span_ddinitdd) [d0] [] f fd) (TS : STxt K CS)
    (D_Span_add : Dm P w K mg base CS "add" 3 ["self", "number"]
      (spAdd CS)) :
    FnOk P w K mg base CX0 4 f fd ["self", "numbers"] (spInitS K CS) := by
  refine F.ok sc_Span_ddinitdd (fun vs H Q E h => ?_)
    (fun cdv A outer s H vs Q E hr h => ?_)
  · obtain ⟨S, dx, a, l, rfl, _⟩ := h
    rfl
  · obtain ⟨S, dx, a, l, rfl, hS, ha, hb, hl, q⟩ := h
    refine ⟨_, PSs.nox (pss_cons /- self._pairs = [] -/ (ps_fld (pv 0) (pe_lst pa_nil) rfl)
(pss_cons /- self._added = 0 -/ (ps_fld (pv 0) pe_int rfl)
(pss_one /- for number in numbers: -/ (ps_for PassesOwn.never rfl (pi_list (pv 1)) (pg_name (i := 2) sc_Span_ddinitdd.nd rfl (Or.inl rfl))
(pss_one /- self.add(number) -/ (ps_expr (pe_dm TS.cl D_Span_add (hr.mono (by decide)) (pv 0) (pa_cons (pv 2) pa_nil)))))))), ?_⟩
    refine ⟨Nat.zero_le _, fun L nL => ?_⟩
    have nSL : S ≠ L := ne_of_none hS nL
    refine ⟨_, rfl, S, CS, dx, _, rfl, upd_of nL hS, TS.cl, TS.np,
      by show 0 < 1000; decide, ?_⟩
    refine ⟨_, rfl, S, CS, dx, _, rfl, upd_same, TS.cl, TS.na,
      by show 1 < 1000; decide, ?_⟩
    rw [show V.int 0 = V.int ((0 : Nat) : Int) from rfl, sF_new]
    have haS : ∀ {H' : Hp}, Keep S H H' → SqL K H' a (nV l) := by
      intro H' k
      rcases ha with (h | ⟨o, h⟩) | h
      · exact .inl (.inl (k _ _ h (ne_of h hS (by intro z; cases z))))
      · exact .inl (.inr ⟨o, k _ _ h (ne_of h hS
          (by intro z; cases z))⟩)
      · exact .inr h
    have k0 : Keep S H (upd (upd (upd H L (.lst [])) S
        (.ins CS dx (putF "_pairs" (.ref L) []))) S
        (.ins CS dx (sF L 0))) := by
      intro c o hc hcs
      rw [upd_ne hcs, upd_ne hcs, upd_of nL hc]
    have h0 : SpanAt (upd (upd (upd H L (.lst [])) S
        (.ins CS dx (putF "_pairs" (.ref L) []))) S
        (.ins CS dx (sF L 0))) CS S [L] [] 0 := by
      refine ⟨⟨dx, L, [], upd_same, rfl, ?_, (fun t ht => nomatch ht), rfl,
        (fun t ht => nomatch ht)⟩, Rows.nil, (fun r hr => nomatch hr),
        ⟨Nat.le_refl _, by decide⟩⟩
      rw [upd_ne (Ne.symm nSL), upd_ne (Ne.symm nSL)]
      exact upd_same
    generalize upd (upd (upd H L (.lst [])) S
        (.ins CS dx (putF "_pairs" (.ref L) []))) S
        (.ins CS dx (sF L 0)) = H1 at k0 h0 ⊢
    refine ⟨_, rfl, a, rfl, ⟨_, haS k0⟩, ?_⟩
    refine for_list (K := K) (a := a) (xs := nV l) (fun i σ H' =>
      Keep S H H' ∧ ∃ (M : List Addr) (R : List Nat) (v2 : Option V),
        σ = [some (.ref S), some (.ref a), v2] ∧ (∀ o ∈ M, H o = none) ∧
        SpanAt H' CS S M R i ∧ ∀ n ∈ l.take i, rs R n = 0)
      ⟨k0, [L], [], none, rfl, fun o ho => by
        rw [List.mem_singleton] at ho
        rw [ho]; exact nL, h0, fun n hn => nomatch hn⟩ ?_ ?_ ?_
    · rintro i σ H' _ ⟨k, _⟩; exact haS k
    · rintro i x σ H' hx ⟨k, M, R, v2, rfl, nM, hh, hin⟩
      obtain ⟨n, e1, rfl⟩ := nV_get hx
      have hil := (List.getElem?_eq_some_iff.mp e1).1
      have hn := hb n (List.mem_of_getElem? e1)
      obtain ⟨dx2, L2, e2⟩ := hh.ins
      refine ⟨_, rfl, S, dx2, _, rfl, e2, sF_no _ _ (by decide +kernel)
        (by decide +kernel), _, rfl, S, M, R, i, n, rfl, hh, hn, by omega,
        fun H2 M2 R2 k2 w2 z1 z2 hh2 => ?_⟩
      refine ⟨fun c o hc hcs => k2 _ _ (k c o hc hcs) hcs, M2, R2,
        _, rfl, ?_, hh2, ?_⟩
      · intro o ho
        rcases w2 o ho with h | h
        · exact nM o h
        · exact Keep.free k h fun z => by
            rw [z, e2] at h; cases h
      · intro m hm'
        rw [List.take_add_one, e1] at hm'
        by_cases hz : rs R n = 0
        · rw [z1 hz]
          rcases List.mem_append.mp hm' with h | h
          · exact hin m h
          · have : m = n := by simpa using h
            rw [this]; exact hz
        · have hx := rs_top hh.rows n
          rw [rs_perm (z2 hz)]
          rcases List.mem_append.mp hm' with h | h
          · exact more_keeps hh.rows hz hx (hin m h)
          · have : m = n := by simpa using h
            rw [this]; exact more_new hh.rows hz
    · rintro σ H' ⟨k, M, R, v2, rfl, nM, hh, hin⟩
      rw [nV_len] at hh hin
      rw [List.take_length] at hin
      exact q H' M R k nM hin hh
end

/-! ### drawn numbers -/
theorem b8000 {m : Int} (a : 0 ≤ m) (b : m < 1000000) : BB 8000 m :=
  BB.mono (BB.small (by omega)) (by decide)
def xorL (l : List Nat) : Nat := l.foldl (fun a b => a ^^^ b) 0
theorem xorL_snoc (l : List Nat) (x : Nat) :
    xorL (l ++ [x]) = xorL l ^^^ x := by
  unfold xorL
  rw [List.foldl_append]; rfl
theorem xorL_lt {t : Nat} : ∀ (l : List Nat), (∀ x ∈ l, x < 2 ^ t) →
    xorL l < 2 ^ t := by
  intro l h
  have : ∀ (l : List Nat) (a : Nat), a < 2 ^ t → (∀ x ∈ l, x < 2 ^ t) →
      l.foldl (fun a b => a ^^^ b) a < 2 ^ t := by
    intro l
    induction l with
    | nil => intro a ha _; exact ha
    | cons x r ih =>
      intro a ha hx
      exact ih _ (Nat.xor_lt_two_pow ha (hx x (List.mem_cons_self ..)))
        fun y hy => hx y (List.mem_cons_of_mem _ hy)
  exact this l 0 (Nat.two_pow_pos _) h
section
variable {P : Program} {w : World} {K : PySem.W.Frag}
variable {mg : Str → Option Value} {base : Heap}
/-- a drawn number below 2 ** powers -/
structure spNum (vs : List V) (H : Hp) (Q : VK) (E : XK) : Prop where
  ex : ∃ (p c : Addr) (n powers : Nat),
    vs = [.ref p, .int (powers : Nat)] ∧ powers ≤ 1000 ∧ Pen H p c n ∧
    n < 1000000000000000 ∧ ∀ H' (x : Nat), Keep p H H' →
      Pen H' p c (n + 400) → x < 2 ^ powers → Q (.int (x : Nat)) H'
/-- the same, of any kind -/
structure spNumber (vs : List V) (H : Hp) (Q : VK) (E : XK) : Prop where
  ex : ∃ (p c : Addr) (n powers : Nat),
    vs = [.ref p, .int (powers : Nat)] ∧ powers ≤ 1000 ∧ Pen H p c n ∧
    n < 900000000000000 ∧ ∀ H' (x : Nat), Keep p H H' →
      Pen H' p c (n + 600) → x < 2 ^ powers → Q (.int (x : Nat)) H'
theorem ok_any {f : Addr} {fd : FuncData}
    (F : Fun K "_law_any" "_law_any" s_any f fd) (Z : Zs mg)
    (D_draw : Dd P w K mg base "_law_draw" 1 ["pen", "many"] spDraw) :
    FnOk P w K mg base CX0 2 f fd ["pen", "powers"] spNum := by
  refine F.ok sc_any (fun vs H Q E h => ?_)
    (fun cdv A outer s H vs Q E hr h => ?_)
  · obtain ⟨p, c, n, powers, rfl, _⟩ := h
    rfl
  · obtain ⟨p, c, n, powers, rfl, hp, P0, hn, q⟩ := h
    have hu := hu_of hr
    refine ⟨_, (pss_cons /- found = 0 -/ (ps_set (i := 2) sc_any.nd rfl (Or.inl rfl) pe_int)
(pss_cons /- for k in range((powers + 3) // 4): -/ (ps_for PassesOwn.never rfl (pi_range1 (by rfl) Z.range (pa_cons (pe_op op_fdivW (pe_op op_add (pv 1) pe_int) pe_int) pa_nil)) (pg_name (i := 3) sc_any.nd rfl (Or.inl rfl))
(pss_one /- found = 16 * found + _law_draw(pen, 16) -/ (ps_set (i := 2) sc_any.nd rfl (Or.inl rfl) (pe_op op_add (pe_op op_mulX pe_int (pv 2)) (pe_d D_draw (hr.mono (by decide)) (by rfl) (pa_cons (pv 0) (pa_cons pe_int pa_nil)))))))
(pss_one /- return found % (1 << powers) -/ (ps_ret (pe_op op_mod (pv 2) (pe_op op_one pe_int (pv 1))))))), ?_⟩
    have c4 : BB 64 4 := by show _ < _; decide
    refine ⟨_, rfl, _, _, rfl, rfl, _, _, rfl, rfl, divW_ok (by decide) c4
      (by decide) (by decide), _, rfl, by omega, by omega, ?_⟩
    have eN : ((((powers : Nat) : Int) + 3) / 4).toNat ≤ 251 := by omega
    generalize ((((powers : Nat) : Int) + 3) / 4).toNat = N at eN ⊢
    refine for_range (lo := 0) (n := N) (fun i σ H' =>
      ∃ (y : Nat) (v3 : Option V), σ = [some (.ref p),
        some (.int (powers : Nat)), some (.int (y : Nat)), v3] ∧
        Keep p H H' ∧ Pen H' p c (n + i) ∧ y < 2 ^ (4 * i))
      ⟨0, none, rfl, Keep.refl, P0, by decide⟩ ?_ ?_
    · rintro i σ H1 hi ⟨y, v3, rfl, k1, P1, ly⟩
      have c16 : BB 64 16 := by show _ < _; decide
      have by' : BB (4 * i) ((y : Nat) : Int) := ly
      refine ⟨_, rfl, _, _, rfl, rfl, mulX_ok c16 by' (by omega), _,
        rfl, p, c, n + i, 16, rfl, by decide,
        b8000 (by decide) (by decide), P1, by omega,
        fun H2 d k2 P2 d0 d1 => ?_⟩
      obtain ⟨d, rfl⟩ := Int.eq_ofNat_of_zero_le d0
      refine ⟨_, _, rfl, rfl, 16 * y + d,
        some (.int (0 + (i : Int))), ?_, k1.trans k2, P2, ?_⟩
      · have e : 16 * ((y : Nat) : Int) + (d : Nat) =
            ((16 * y + d : Nat) : Int) := by omega
        show [some (V.ref p), some (V.int (powers : Nat)),
          some (V.int (16 * ((y : Nat) : Int) + (d : Nat))),
          some (V.int (0 + (i : Int)))] = _
        rw [e]
      · have e2 : 2 ^ (4 * (i + 1)) = 2 ^ (4 * i) * 16 := by
          rw [show 4 * (i + 1) = 4 * i + 4 by omega, Nat.pow_add]
        rw [e2]
        omega
    · rintro σ H1 ⟨y, v3, rfl, k1, P1, ly⟩
      have tp0 := Nat.two_pow_pos powers
      refine ⟨_, rfl, _, rfl, powers, rfl, rfl, by omega, _, _, rfl, rfl,
        by show (0 : Int) < ((2 ^ powers : Nat) : Int); omega, ?_⟩
      have e : ((y : Nat) : Int) % ((2 ^ powers : Nat) : Int) =
        ((y % 2 ^ powers : Nat) : Int) := rfl
      show Q (.int (((y : Nat) : Int) % ((2 ^ powers : Nat) : Int))) H1
      rw [e]
      exact q H1 _ k1 (P1.mono (by omega)) (Nat.mod_lt _ tp0)
structure spFew (vs : List V) (H : Hp) (Q : VK) (E : XK) : Prop where
  ex : ∃ (p c : Addr) (n powers : Nat),
    vs = [.ref p, .int (powers : Nat)] ∧ powers ≤ 1000 ∧ Pen H p c n ∧
    n < 1000000000000000 ∧ ∀ H' (x : Nat), Keep p H H' →
      Pen H' p c (n + 10) → x < 2 ^ powers → Q (.int (x : Nat)) H'
theorem ok_few_marks {f : Addr} {fd : FuncData}
    (F : Fun K "_law_few_marks" "_law_few_marks" s_few_marks f fd)
    (Z : Zs mg)
    (D_draw : Dd P w K mg base "_law_draw" 1 ["pen", "many"] spDraw) :
    FnOk P w K mg base CX0 2 f fd ["pen", "powers"] spFew := by
  refine F.ok sc_few_marks (fun vs H Q E h => ?_)
    (fun cdv A outer s H vs Q E hr h => ?_)
  · obtain ⟨p, c, n, powers, rfl, _⟩ := h
    rfl
  · obtain ⟨p, c, n, powers, rfl, hp, P0, hn, q⟩ := h
    have hu := hu_of hr
    refine ⟨_, (pss_cons /- found = 0 -/ (ps_set (i := 2) sc_few_marks.nd rfl (Or.inl rfl) pe_int)
(pss_cons /- for k in range(_law_draw(pen, 5) * int(powers > 0)): -/ (ps_for PassesOwn.never rfl (pi_range1 (by rfl) Z.range (pa_cons (pe_op op_mulX (pe_d D_draw (hr.mono (by decide)) (by rfl) (pa_cons (pv 0) (pa_cons pe_int pa_nil))) (pe_callTy call_int1 (by rfl) Z.int (by decide +kernel) (pa_cons (pe_cmpR op_gt (pv 1) pe_int (nomark _)) pa_nil))) pa_nil)) (pg_name (i := 3) sc_few_marks.nd rfl (Or.inl rfl))
(pss_one /- found = found | 1 << _law_draw(pen, powers) -/ (ps_set (i := 2) sc_few_marks.nd rfl (Or.inl rfl) (pe_op op_orN (pv 2) (pe_op op_one pe_int (pe_d D_draw (hr.mono (by decide)) (by rfl) (pa_cons (pv 0) (pa_cons (pv 1) pa_nil))))))))
(pss_one /- return found -/ (ps_ret (pv 2))))), ?_⟩
    refine ⟨_, rfl, p, c, n, 5, rfl, by decide,
      b8000 (by decide) (by decide), P0, by omega,
      fun H1 d k1 P1 d0 d1 => ?_⟩
    obtain ⟨d, rfl⟩ := Int.eq_ofNat_of_zero_le d0
    refine ⟨_, rfl, _, _, rfl, rfl, .inr ⟨_, rfl, ?_⟩⟩
    obtain ⟨N, hN, eN⟩ : ∃ N : Nat, N ≤ 4 ∧ ((d : Int) *
        (if decide ((0 : Int) < (powers : Nat)) = true then 1 else 0)) = N ∧
        (0 < N → 0 < powers) := by
      by_cases h : (0 : Int) < (powers : Nat)
      · refine ⟨d, by omega, ?_, by omega⟩
        rw [decide_eq_true h, if_pos rfl, Int.mul_one]
      · refine ⟨0, by omega, ?_, by omega⟩
        rw [decide_eq_false h, if_neg Bool.false_ne_true, Int.mul_zero]
        rfl
    obtain ⟨eN, hpos⟩ := eN
    have bd : BB 64 (d : Int) := BB.small (by omega)
    have b1 : BB 64 (if decide ((0 : Int) < (powers : Nat)) = true then
        1 else 0 : Int) := by split <;> exact BB.small (by decide)
    refine ⟨_, _, rfl, rfl, mulX_ok bd b1 (by decide), (N : Nat), ?_,
      by omega, by omega, ?_⟩
    · show [V.int _] = _
      rw [eN]
    refine for_range (lo := 0) (n := N) (fun i σ H' =>
      ∃ (y : Nat) (v3 : Option V), σ = [some (.ref p),
        some (.int (powers : Nat)), some (.int (y : Nat)), v3] ∧
        Keep p H H' ∧ Pen H' p c (n + 1 + i) ∧ y < 2 ^ powers)
      ⟨0, none, rfl, k1, P1, Nat.two_pow_pos _⟩ ?_ ?_
    · rintro i σ H2 hi ⟨y, v3, rfl, k2, P2, ly⟩
      refine ⟨_, rfl, _, rfl, _, rfl, p, c, _, powers, rfl, by omega,
        b8000 (by omega) (by omega), P2, by omega,
        fun H3 e k3 P3 e0 e1 => ?_⟩
      obtain ⟨e, rfl⟩ := Int.eq_ofNat_of_zero_le e0
      refine ⟨e, rfl, rfl, by omega, y, 2 ^ e, rfl, rfl, y ||| 2 ^ e, _, rfl,
        k2.trans k3, P3.mono (by omega), Nat.or_lt_two_pow ly
          (Nat.pow_lt_pow_right (by decide) (by omega))⟩
    · rintro σ H2 ⟨y, v3, rfl, k2, P2, ly⟩
      exact ⟨_, rfl, q H2 y k2 (P2.mono (by omega)) ly⟩
theorem ok_number {f : Addr} {fd : FuncData}
    (F : Fun K "_law_number" "_law_number" s_number f fd) (Z : Zs mg)
    (D_draw : Dd P w K mg base "_law_draw" 1 ["pen", "many"] spDraw)
    (D_few_marks : Dd P w K mg base "_law_few_marks" 2
      ["pen", "powers"] spFew)
    (D_any : Dd P w K mg base "_law_any" 2 ["pen", "powers"] spNum) :
    FnOk P w K mg base CX0 3 f fd ["pen", "powers"] spNumber := by
  refine F.ok sc_number (fun vs H Q E h => ?_)
    (fun cdv A outer s H vs Q E hr h => ?_)
  · obtain ⟨p, c, n, powers, rfl, _⟩ := h
    rfl
  · obtain ⟨p, c, n, powers, rfl, hp, P0, hn, q⟩ := h
    have hu := hu_of hr
    refine ⟨_, (pss_cons /- way, far = (_law_draw(pen, 6), (1 << powers) - 1) -/ (ps_par (i := 2) (j := 3) (by rfl) sc_number.nd rfl rfl (by decide) rfl rfl (pa_cons (pe_d D_draw (hr.mono (by decide)) (by rfl) (pa_cons (pv 0) (pa_cons pe_int pa_nil))) (pa_cons (pe_op op_sub (pe_op op_one pe_int (pv 1)) pe_int) pa_nil)) (by rfl))
(pss_cons /- if way < 2: -/ (ps_if (pt_cmpR op_lt (pv 2) pe_int (nomark _))
(pss_one /- return _law_few_marks(pen, powers) -/ (ps_ret (pe_d D_few_marks (hr.mono (by decide)) (by rfl) (pa_cons (pv 0) (pa_cons (pv 1) pa_nil)))))
pss_nil)
(pss_cons /- if way == 2: -/ (ps_if (pt_cmpR op_eq (pv 2) pe_int (nomark _))
(pss_one /- return min(far, _law_draw(pen, 9)) -/ (ps_ret (pe_callB (call_min2 rfl) (by rfl) Z.min (by decide +kernel) (pa_cons (pv 3) (pa_cons (pe_d D_draw (hr.mono (by decide)) (by rfl) (pa_cons (pv 0) (pa_cons pe_int pa_nil))) pa_nil)))))
pss_nil)
(pss_one /- return max(0, far - _law_draw(pen, 9)) if way == 3 else _law_any(pen, powers) -/ (ps_ret (pe_ifExp (pt_cmpR op_eq (pv 2) pe_int (nomark _)) (pe_callB (call_max2 rfl) (by rfl) Z.max (by decide +kernel) (pa_cons pe_int (pa_cons (pe_op op_sub (pv 3) (pe_d D_draw (hr.mono (by decide)) (by rfl) (pa_cons (pv 0) (pa_cons pe_int pa_nil)))) pa_nil))) (pe_d D_any (hr.mono (by decide)) (by rfl) (pa_cons (pv 0) (pa_cons (pv 1) pa_nil))))))))), ?_⟩
    refine ⟨_, rfl, p, c, n, 6, rfl, by decide,
      b8000 (by decide) (by decide), P0, by omega,
      fun H1 d k1 P1 d0 d1 => ?_⟩
    have tp0 := Nat.two_pow_pos powers
    refine ⟨_, rfl, powers, rfl, rfl, by omega, _, _, rfl, rfl, ?_⟩
    obtain ⟨far, efar, lfar⟩ : ∃ far : Nat, ((2 ^ powers : Nat) : Int) - 1 =
        (far : Int) ∧ far < 2 ^ powers := ⟨2 ^ powers - 1, by omega, by omega⟩
    refine ⟨_, _, rfl, ?_⟩
    show tSeq _ _ _ [some (.ref p), some (.int (powers : Nat)),
      some (.int d), some (.int (((2 ^ powers : Nat) : Int) - 1))] H1
    rw [efar]
    refine ⟨_, rfl, _, _, rfl, rfl, _, rfl, ?_⟩
    refine ite2 (fun _ => ?_) (fun _ => ?_)
    · exact ⟨_, rfl, _, rfl, p, c, _, powers, rfl, hp, P1, by omega,
        fun H2 x k2 P2 lx => q H2 x (k1.trans k2) (P2.mono (by omega)) lx⟩
    refine ⟨_, rfl, rfl, _, rfl, ?_⟩
    refine ite2 (fun _ => ?_) (fun _ => ?_)
    · refine ⟨_, rfl, _, rfl, p, c, _, 9, rfl, by decide,
        b8000 (by decide) (by decide), P1, by omega,
        fun H2 e k2 P2 e0 e1 => ⟨_, _, rfl, ?_⟩⟩
      obtain ⟨e, rfl⟩ := Int.eq_ofNat_of_zero_le e0
      have em : (if (e : Int) < (far : Int) then (e : Int) else (far : Int)) =
          ((if e < far then e else far : Nat) : Int) := by
        split <;> split <;> omega
      show Q (.int (if (e : Int) < (far : Int) then (e : Int)
        else (far : Int))) H2
      rw [em]
      exact q H2 _ (k1.trans k2) (P2.mono (by omega)) (by split <;> omega)
    refine ⟨_, rfl, rfl, _, rfl, ?_⟩
    refine ite2 (fun _ => ?_) (fun _ => ?_)
    · refine ⟨_, rfl, _, rfl, p, c, _, 9, rfl, by decide,
        b8000 (by decide) (by decide), P1, by omega,
        fun H2 e k2 P2 e0 e1 => ⟨_, _, rfl, rfl, _, _, rfl, ?_⟩⟩
      obtain ⟨e, rfl⟩ := Int.eq_ofNat_of_zero_le e0
      have em : (if (far : Int) - (e : Int) > 0 then (far : Int) - (e : Int)
          else 0) = ((far - e : Nat) : Int) := by
        split <;> omega
      show Q (.int (if (far : Int) - (e : Int) > 0
        then (far : Int) - (e : Int) else 0)) H2
      rw [em]
      exact q H2 _ (k1.trans k2) (P2.mono (by omega)) (by omega)
    · exact ⟨_, rfl, _, rfl, p, c, _, powers, rfl, hp, P1, by omega,
        fun H2 x k2 P2 lx => q H2 x (k1.trans k2) (P2.mono (by omega)) lx⟩
structure spXor (K : PySem.W.Frag) (vs : List V) (H : Hp) (Q : VK)
    (E : XK) : Prop where
  ex : ∃ (a : Addr) (l : List Nat), vs = [.ref a] ∧ SqL K H a (nV l) ∧
    Q (.int (xorL l : Nat)) H
theorem ok_sum {f : Addr} {fd : FuncData}
    (F : Fun K "_law_sum" "_law_sum" s_sum f fd) (Z : Zs mg) :
    FnOk P w K mg base CX0 1 f fd ["numbers"] (spXor K) := by
  refine F.ok sc_sum (fun vs H Q E h => ?_)
    (fun cdv A outer s H vs Q E hr h => ?_)
  · obtain ⟨a, l, rfl, _⟩ := h
    rfl
  · obtain ⟨a, l, rfl, hq, q⟩ := h
    refine ⟨_, (pss_cons /- found = 0 -/ (ps_set (i := 1) sc_sum.nd rfl (Or.inl rfl) pe_int)
(pss_cons /- for number in numbers: -/ (ps_for PassesOwn.never rfl (pi_list (pv 0)) (pg_name (i := 2) sc_sum.nd rfl (Or.inl rfl))
(pss_one /- found = found ^ number -/ (ps_set (i := 1) sc_sum.nd rfl (Or.inl rfl) (pe_op op_xorN (pv 1) (pv 2)))))
(pss_one /- return found -/ (ps_ret (pv 1))))), ?_⟩
    refine ⟨_, rfl, a, rfl, ⟨_, hq⟩, ?_⟩
    refine for_list (K := K) (a := a) (xs := nV l) (fun i σ H' => H' = H ∧
      ∃ v2, σ = [some (.ref a), some (.int (xorL (l.take i) : Nat)), v2])
      ⟨rfl, none, rfl⟩ ?_ ?_ ?_
    · rintro i σ H' _ ⟨rfl, _⟩; exact hq
    · rintro i x σ H' hx ⟨rfl, v2, rfl⟩
      obtain ⟨z, ez, rfl⟩ := nV_get hx
      refine ⟨_, rfl, _, rfl, _, _, rfl, rfl, rfl, some (.int (z : Nat)),
        ?_⟩
      rw [List.take_add_one, ez]
      show _ = [some (V.ref a), some (V.int (xorL (l.take i ++ [z]) : Nat)),
        some (V.int (z : Nat))]
      rw [xorL_snoc]; rfl
    · rintro σ H' ⟨rfl, v2, rfl⟩
      rw [nV_len, List.take_length]
      exact ⟨_, rfl, q⟩
end

/-! ### many drawn numbers -/
structure spMany (vs : List V) (H : Hp) (Q : VK) (E : XK) : Prop where
  ex : ∃ (p c : Addr) (n most : Nat), vs = [.ref p, .int (most : Nat)] ∧
    most ≤ 30 ∧ Pen H p c n ∧ n < 100000000000000 ∧
    ∀ H' q (l : List Nat), Keep p H H' → Pen H' p c (n + 100000) →
      H q = none → q ≠ p → q ≠ c → H' q = some (.lst (nV l)) →
      (∀ x ∈ l, x < 2 ^ 199) → l.length ≤ most → Q (.ref q) H'
section
variable {P : Program} {w : World} {K : PySem.W.Frag}
variable {mg : Str → Option Value} {base : Heap}
theorem ok_many_numbers {f : Addr} {fd : FuncData}
    (F : Fun K "_law_many_numbers" "_law_many_numbers" s_many_numbers f fd)
    (Z : Zs mg)
    (D_draw : Dd P w K mg base "_law_draw" 1 ["pen", "many"] spDraw)
    (D_pick : Dd P w K mg base "_law_pick" 2 ["pen", "some"] (spPick K))
    (D_any : Dd P w K mg base "_law_any" 2 ["pen", "powers"] spNum)
    (D_few_marks : Dd P w K mg base "_law_few_marks" 2
      ["pen", "powers"] spFew)
    (D_sum : Dd P w K mg base "_law_sum" 1 ["numbers"] (spXor K)) :
    FnOk P w K mg base CX0 3 f fd ["pen", "most"] spMany := by
  refine F.ok sc_many_numbers (fun vs H Q E h => ?_)
    (fun cdv A outer s H vs Q E hr h => ?_)
  · obtain ⟨p, c, n, most, rfl, _⟩ := h
    rfl
  · obtain ⟨p, c, n, most, rfl, hm, P0, hn, q⟩ := h
    have hu := hu_of hr
    refine ⟨_, (pss_cons /- spots, found = ([0, 198] + [_law_draw(pen, 199) for k in range(3 + _law_draw(pen, 9))], []) -/ (ps_asg (pe_tup (pa_cons (pe_op op_cat (pe_lst (pa_cons pe_int (pa_cons pe_int pa_nil))) (pe_lc (own := [("k", 4)]) (g := (gName 4)) (by rfl) sc_many_numbers.nd (pi_range1 (by rfl) Z.range (pa_cons (pe_op op_add pe_int (pe_d D_draw (hr.mono (by decide)) (by rfl) (pa_cons (pv 0) (pa_cons pe_int pa_nil)))) pa_nil)) (blkOk_by (own := [("k", 4)]) (N := N_many_numbers) (sc := defScope s_many_numbers) (by decide +kernel)) (fun _ _ _ _ _ => pg_name (i := 4) sc_many_numbers.nd rfl (Or.inl rfl)) (fun _ _ _ _ _ => pts_nil) (fun _ _ _ _ _ => (pe_d D_draw (hr.mono (by decide)) (by rfl) (pa_cons (pv 0) (pa_cons pe_int pa_nil)))))) (pa_cons (pe_lst pa_nil) pa_nil))) (pg_tup (n := 2) rfl (pgs_cons (pg_name (i := 2) sc_many_numbers.nd rfl (Or.inr rfl)) (pgs_cons (pg_name (i := 3) sc_many_numbers.nd rfl (Or.inl rfl)) pgs_nil))))
(pss_cons /- for k in range(_law_draw(pen, most + 1)): -/ (ps_for PassesOwn.never rfl (pi_range1 (by rfl) Z.range (pa_cons (pe_d D_draw (hr.mono (by decide)) (by rfl) (pa_cons (pv 0) (pa_cons (pe_op op_add (pv 1) pe_int) pa_nil))) pa_nil)) (pg_name (i := 4) sc_many_numbers.nd rfl (Or.inl rfl))
(pss_cons /- picked = [_law_pick(pen, spots) for j in range(1 + _law_draw(pen, 6))] -/ (ps_setLc (i := 5) (own := [("j", 6)]) (g := (gName 6)) (by rfl) sc_many_numbers.nd rfl rfl (sw_true rfl rfl rfl (by decide +kernel)) (pi_range1 (by rfl) Z.range (pa_cons (pe_op op_add pe_int (pe_d D_draw (hr.mono (by decide)) (by rfl) (pa_cons (pv 0) (pa_cons pe_int pa_nil)))) pa_nil)) (blkOk_by (own := [("j", 6)]) (N := N_many_numbers) (sc := defScope s_many_numbers) (by decide +kernel)) (fun _ _ _ _ _ => pg_name (i := 6) sc_many_numbers.nd rfl (Or.inl rfl)) (fun _ _ _ _ _ => pts_nil) (fun _ _ _ _ _ => (pe_d D_pick (hr.mono (by decide)) (by rfl) (pa_cons (pv 0) (pa_cons (pv 2) pa_nil)))))
(pss_cons /- fresh = [_law_sum([1 << spot for spot in picked]), _law_any(pen, 199), _law_few_marks(pen, 12)] -/ (ps_set (i := 7) sc_many_numbers.nd rfl (Or.inl rfl) (pe_lst (pa_cons (pe_d D_sum (hr.mono (by decide)) (by rfl) (pa_cons (pe_lc (own := [("spot", 8)]) (g := (gName 8)) (by rfl) sc_many_numbers.nd (pi_list (pv 5)) (blkOk_by (own := [("spot", 8)]) (N := N_many_numbers) (sc := defScope s_many_numbers) (by decide +kernel)) (fun _ _ _ _ _ => pg_name (i := 8) sc_many_numbers.nd rfl (Or.inl rfl)) (fun _ _ _ _ _ => pts_nil) (fun _ _ _ _ _ => (pe_op op_one pe_int (pv 8)))) pa_nil)) (pa_cons (pe_d D_any (hr.mono (by decide)) (by rfl) (pa_cons (pv 0) (pa_cons pe_int pa_nil))) (pa_cons (pe_d D_few_marks (hr.mono (by decide)) (by rfl) (pa_cons (pv 0) (pa_cons pe_int pa_nil))) pa_nil)))))
(pss_one /- found.append(_law_pick(pen, fresh[:1] * 3 + fresh)) -/ (ps_expr (pe_bm PySem.F.plainAttrs_list PySem.F.slot_list_append PySem.F.type_list_append mt_append (pv 3) (pa_cons (pe_d D_pick (hr.mono (by decide)) (by rfl) (pa_cons (pv 0) (pa_cons (pe_op op_cat (pe_op op_rep (pe_slice sl_list (pv 7) po_none (po_some pe_int)) pe_int) (pv 7)) pa_nil))) pa_nil)))))))
(pss_one /- return found -/ (ps_ret (pv 3))))), ?_⟩
    refine ⟨by show 2 ≤ sizeLine; decide, fun e ne => ?_⟩
    have ge : (upd H e (.lst [.int 0, .int 198])) e =
        some (.lst (nV [0, 198])) := upd_same
    have P1 := P0.new (o := .lst [.int 0, .int 198]) ne
    have k1 : Keep p H (upd H e (.lst [.int 0, .int 198])) :=
      Keep.refl.new ne
    have nep := P0.nep ne
    generalize upd H e (.lst [.int 0, .int 198]) = H1 at ge P1 k1 ⊢
    refine ⟨_, rfl, p, c, n, 9, rfl, by decide,
      b8000 (by decide) (by decide), P1, by omega,
      fun H2 d k2 P2 d0 d1 => ⟨_, _, rfl, rfl, _, rfl, by omega, by omega,
        fun D nD => ?_⟩⟩
    have nDp := P2.nep nD
    have nDc := P2.nec nD
    have ge2 := k2 _ _ ge nep
    have neD : e ≠ D := ne_of_none ge2 nD
    have hN : (3 + d).toNat ≤ 11 := by omega
    generalize (3 + d).toNat = N at hN ⊢
    refine lc_range (lo := 0) (n := N) (fun j H' => ∃ xs : List Nat,
      Keep p H H' ∧ Pen H' p c (n + 1 + j) ∧ H' e = some (.lst (nV [0, 198])) ∧
      H' D = some (.lst (nV xs)) ∧ xs.length = j ∧ ∀ x ∈ xs, x < 199)
      ⟨[], (k1.trans k2).new nD, P2.new nD, upd_of nD ge2, upd_same, rfl,
        fun x hx => nomatch hx⟩ ?_ ?_
    · rintro j H3 hj ⟨xs, k3, P3, e3, g3, lx, bx⟩
      refine ⟨rfl, _, rfl, p, c, _, 199, rfl, by decide,
        b8000 (by decide) (by decide), P3, by omega,
        fun H4 y k4 P4 y0 y1 => ?_⟩
      obtain ⟨y, rfl⟩ := Int.eq_ofNat_of_zero_le y0
      have g4 := k4 _ _ g3 nDp
      refine ⟨_, g4, ?_, xs ++ [y], ?_, (P4.set nDp nDc).mono (by omega),
        ?_, ?_, ?_, ?_⟩
      · rw [nV_len, sizeLine_eq]; omega
      · intro b o hb hbp
        have h3 := k3 b o hb hbp
        by_cases z : b = D
        · exfalso
          have hh := (k1.trans k2) b o hb hbp
          rw [z, nD] at hh; cases hh
        · rw [upd_ne z]; exact k4 _ _ h3 hbp
      · rw [upd_ne neD]; exact k4 _ _ e3 nep
      · rw [upd_same, nV_app]; rfl
      · rw [List.length_append, lx]; rfl
      · intro x hx
        rcases List.mem_append.mp hx with h | h
        · exact bx x h
        · rw [List.mem_singleton] at h
          omega
    rintro H3 ⟨xs, k3, P3, e3, g3, lx, bx⟩
    refine ⟨e, D, _, _, rfl, rfl, e3, g3, ?_, fun t nt => ?_⟩
    · rw [nV_len, nV_len, sizeLine_eq]
      show 2 + xs.length ≤ _
      omega
    have gt : (upd H3 t (.lst (nV [0, 198] ++ nV xs))) t =
        some (.lst (nV (0 :: 198 :: xs))) := by
      rw [upd_same, ← nV_app]; rfl
    have P4 := P3.new (o := .lst (nV [0, 198] ++ nV xs)) nt
    have k4 : Keep p H (upd H3 t (.lst (nV [0, 198] ++ nV xs))) := k3.new nt
    have ntp := P3.nep nt
    have ntc := P3.nec nt
    have bs : ∀ s ∈ 0 :: 198 :: xs, s < 199 := by
      intro s hs
      rcases List.mem_cons.mp hs with h | h
      · omega
      · rcases List.mem_cons.mp h with h | h
        · omega
        · exact bx s h
    have ls : (0 :: 198 :: xs).length ≤ 20 ∧ 0 < (0 :: 198 :: xs).length := by
      rw [List.length_cons, List.length_cons]
      omega
    generalize (0 :: 198 :: xs) = sp at gt bs ls
    generalize upd H3 t (.lst (nV [0, 198] ++ nV xs)) = H4 at gt P4 k4 ⊢
    refine ⟨Nat.zero_le _, fun fo nfo => ?_⟩
    have gfo : (upd H4 fo (.lst [])) fo = some (.lst []) := upd_same
    have gt5 := upd_of (o := .lst []) nfo gt
    have P5 := P4.new (o := .lst []) nfo
    have k5 : Keep p H (upd H4 fo (.lst [])) := k4.new nfo
    have nfp := P4.nep nfo
    have nfc := P4.nec nfo
    have ntf : t ≠ fo := ne_of_none gt nfo
    have nHfo : H fo = none := k4.free nfo nfp
    generalize upd H4 fo (.lst []) = H5 at gfo gt5 P5 k5 ⊢
    refine ⟨by show 2 ≤ sizeLine; decide, fun T nT => ?_⟩
    have gT : (upd H5 T (.tup [.ref t, .ref fo])) T =
        some (.tup [.ref t, .ref fo]) := upd_same
    have gfo6 := upd_of (o := .tup [.ref t, .ref fo]) nT gfo
    have gt6 := upd_of (o := .tup [.ref t, .ref fo]) nT gt5
    have P6 := P5.new (o := .tup [.ref t, .ref fo]) nT
    have k6 : Keep p H (upd H5 T (.tup [.ref t, .ref fo])) := k5.new nT
    generalize upd H5 T (.tup [.ref t, .ref fo]) = H6
      at gT gfo6 gt6 P6 k6 ⊢
    refine ⟨T, [.ref t, .ref fo], rfl, .of gT, rfl, _, [_], rfl, _, [], rfl,
      rfl, ?_⟩
    -- for k in range(..)
    refine ⟨_, rfl, _, rfl, _, _, rfl, rfl, p, c, _, _, rfl, by omega,
      b8000 (by omega) (by omega), P6, by omega,
      fun H7 e k7 P7 e0 e1 => ⟨_, rfl, by omega, by omega, ?_⟩⟩
    have gfo7 := k7 _ _ gfo6 nfp
    have gt7 := k7 _ _ gt6 ntp
    have hN2 : e.toNat ≤ most := by omega
    generalize e.toNat = M at hN2 ⊢
    refine for_range (lo := 0) (n := M) (fun i σ H' =>
      ∃ (l : List Nat) (v4 v5 v6 v7 v8 : Option V), σ = [some (.ref p),
        some (.int (most : Nat)), some (.ref t), some (.ref fo), v4, v5, v6,
        v7, v8] ∧ Keep p H H' ∧ Pen H' p c (n + 100 + i * 1000) ∧
        H' t = some (.lst (nV sp)) ∧ H' fo = some (.lst (nV l)) ∧
        (∀ x ∈ l, x < 2 ^ 199) ∧ l.length ≤ i)
      ⟨[], _, _, _, _, _, rfl, k6.trans k7, P7.mono (by omega), gt7, gfo7,
        (fun x hx => nomatch hx), Nat.le_refl _⟩ ?_ ?_
    · rintro i σ H8 hi ⟨l, v4, v5, v6, v7, v8, rfl, k8, P8, gt8, gf8, bl, ll⟩
      refine ⟨_, rfl, p, c, _, 6, rfl, by decide,
        b8000 (by decide) (by decide), P8, by omega,
        fun H9 d9 k9 P9 d90 d91 => ⟨_, _, rfl, rfl, _, rfl, by omega,
          by omega, fun D2 nD2 => ?_⟩⟩
      have nD2p := P9.nep nD2
      have nD2c := P9.nec nD2
      have gt9 := k9 _ _ gt8 ntp
      have gf9 := k9 _ _ gf8 nfp
      have ntD : t ≠ D2 := ne_of_none gt9 nD2
      have nfD : fo ≠ D2 := ne_of_none gf9 nD2
      have kk9 := k8.trans k9
      have hN3 : (1 + d9).toNat ≤ 6 := by omega
      generalize (1 + d9).toNat = N3 at hN3 ⊢
      refine lc_range (lo := 0) (n := N3) (fun j H' => ∃ ys : List Nat,
        Keep p H H' ∧ Pen H' p c (n + 100 + i * 1000 + 1 + j) ∧
        H' t = some (.lst (nV sp)) ∧ H' fo = some (.lst (nV l)) ∧
        H' D2 = some (.lst (nV ys)) ∧ ys.length = j ∧ ∀ y ∈ ys, y < 199)
        ⟨[], kk9.new nD2, P9.new nD2, upd_of nD2 gt9, upd_of nD2 gf9,
          upd_same, rfl, fun x hx => nomatch hx⟩ ?_ ?_
      · rintro j H10 hj ⟨ys, k10, P10, gt10, gf10, g10, ly, by'⟩
        refine ⟨rfl, _, rfl, _, rfl, p, c, t, _, nV sp, rfl, .of gt10,
          by rw [nV_len]; exact ls.2, by rw [nV_len]; omega, P10, by omega,
          fun H11 v k11 P11 hv => ?_⟩
        obtain ⟨s, hs, rfl⟩ := List.mem_map.mp hv
        have g11 := k11 _ _ g10 nD2p
        refine ⟨_, g11, ?_, ys ++ [s], ?_, (P11.set nD2p nD2c).mono
          (by omega), ?_, ?_, ?_, ?_, ?_⟩
        · rw [nV_len, sizeLine_eq]; omega
        · intro b o hb hbp
          have h3 := k10 b o hb hbp
          by_cases z : b = D2
          · exfalso
            have hh := kk9 b o hb hbp
            rw [z, nD2] at hh; cases hh
          · rw [upd_ne z]; exact k11 _ _ h3 hbp
        · rw [upd_ne ntD]; exact k11 _ _ gt10 ntp
        · rw [upd_ne nfD]; exact k11 _ _ gf10 nfp
        · rw [upd_same, nV_app]; rfl
        · rw [List.length_append, ly]; rfl
        · intro x hx
          rcases List.mem_append.mp hx with h | h
          · exact by' x h
          · rw [List.mem_singleton] at h
            rw [h]; exact bs s hs
      rintro H10 ⟨ys, k10, P10, gt10, gf10, g10, ly, by'⟩
      -- fresh = [..]
      refine ⟨_, rfl, D2, rfl, ⟨_, .of g10⟩, fun D3 nD3 => ?_⟩
      refine lc_list (K := K) (a := D2) (xs := nV ys) (fun j H' =>
        Same H10 H' ∧ H' D3 = some (.lst (nV ((ys.take j).map
          fun s => 2 ^ s))))
        ⟨same_new (Same.refl _) nD3, upd_same⟩ ?_ ?_ ?_
      · rintro j H' _ ⟨h1, _⟩; exact .of (h1 _ _ g10)
      · rintro j x H11 hx ⟨h1, h2⟩
        obtain ⟨s, es, rfl⟩ := nV_get hx
        have hs := by' s (List.mem_of_getElem? es)
        refine ⟨rfl, _, rfl, s, rfl, rfl, by omega, _, h2, ?_, ?_, ?_⟩
        · rw [nV_len, List.length_map, List.length_take, sizeLine_eq]
          omega
        · intro c o hc
          rw [upd_ne (ne_of_none hc nD3)]
          exact h1 _ _ hc
        · rw [upd_same, List.take_add_one, es, List.map_append, nV_app]
          rfl
      rintro H11 ⟨h1, h2⟩
      rw [nV_len, List.take_length] at h2
      have hx1 : xorL (ys.map fun s => 2 ^ s) < 2 ^ 199 := xorL_lt _ (by
        intro x hx
        obtain ⟨s, hs, rfl⟩ := List.mem_map.mp hx
        exact Nat.pow_lt_pow_right (by decide) (by' s hs))
      refine ⟨D3, _, rfl, .of h2, ?_⟩
      generalize xorL (ys.map fun s => 2 ^ s) = x1 at hx1 ⊢
      have P11 := P10.same h1
      have k11 : Keep p H H11 := fun b o hb hbp => h1 _ _ (k10 b o hb hbp)
      have gf11 := h1 _ _ gf10
      have gt11 := h1 _ _ gt10
      refine ⟨_, rfl, p, c, _, 199, rfl, by decide, P11, by omega,
        fun H12 x2 k12 P12 hx2 => ?_⟩
      refine ⟨_, rfl, p, c, _, 12, rfl, by decide, P12, by omega,
        fun H13 x3 k13 P13 hx3' => ?_⟩
      have hx3 : x3 < 2 ^ 199 := Nat.lt_of_lt_of_le hx3'
        (Nat.pow_le_pow_right (by decide) (by decide))
      have kk13 : Keep p H H13 := (k11.trans k12).trans k13
      have gf13 := k13 _ _ (k12 _ _ gf11 nfp) nfp
      have gt13 := k13 _ _ (k12 _ _ gt11 ntp) ntp
      refine ⟨by show 3 ≤ sizeLine; decide, fun fr nfr => ?_⟩
      have gfr : (upd H13 fr (.lst [.int (x1 : Nat), .int (x2 : Nat),
          .int (x3 : Nat)])) fr = some (.lst (nV [x1, x2, x3])) := upd_same
      have gf14 := upd_of (o := .lst [.int (x1 : Nat), .int (x2 : Nat),
          .int (x3 : Nat)]) nfr gf13
      have gt14 := upd_of (o := .lst [.int (x1 : Nat), .int (x2 : Nat),
          .int (x3 : Nat)]) nfr gt13
      have P14 := P13.new (o := .lst [.int (x1 : Nat), .int (x2 : Nat),
          .int (x3 : Nat)]) nfr
      have k14 : Keep p H (upd H13 fr (.lst [.int (x1 : Nat),
          .int (x2 : Nat), .int (x3 : Nat)])) := kk13.new nfr
      generalize upd H13 fr (.lst [.int (x1 : Nat), .int (x2 : Nat),
          .int (x3 : Nat)]) = H14 at gfr gf14 gt14 P14 k14 ⊢
      -- found.append(..)
      refine ⟨_, rfl, .inl ⟨rfl, _, .of gf14⟩, _, rfl, _, rfl, 1, rfl, fr,
        _, rfl, .of gfr, fun s1 ns1 => ?_⟩
      rw [show cutV (nV [x1, x2, x3]) none (some 1) = nV [x1] from
        cut_take _ 1]
      refine ⟨s1, 3, _, rfl, rfl, upd_same, by decide, by decide,
        by show 1 * 3 ≤ _; decide, fun r1 nr1 => ?_⟩
      have gfr15 := upd_of (o := .lst (nV [x1])) ns1 gfr
      have gfr16 := upd_of (o := .lst (List.replicate (3 : Int).toNat
        (nV [x1])).flatten) nr1 gfr15
      refine ⟨_, rfl, r1, fr, _, _, rfl, rfl, upd_same, gfr16, ?_,
        fun u nu => ?_⟩
      · show 3 + 3 ≤ _; decide
      have gf15 := upd_of (o := .lst (nV [x1])) ns1 gf14
      have gf16 := upd_of (o := .lst (List.replicate (3 : Int).toNat
        (nV [x1])).flatten) nr1 gf15
      have gf17 := upd_of (o := .lst ((List.replicate (3 : Int).toNat
        (nV [x1])).flatten ++ nV [x1, x2, x3])) nu gf16
      have gt17 := upd_of (o := .lst ((List.replicate (3 : Int).toNat
        (nV [x1])).flatten ++ nV [x1, x2, x3])) nu (upd_of
        (o := .lst (List.replicate (3 : Int).toNat (nV [x1])).flatten) nr1
        (upd_of (o := .lst (nV [x1])) ns1 gt14))
      have P17 := ((P14.new (o := .lst (nV [x1])) ns1).new
        (o := .lst (List.replicate (3 : Int).toNat (nV [x1])).flatten)
        nr1).new (o := .lst ((List.replicate (3 : Int).toNat
        (nV [x1])).flatten ++ nV [x1, x2, x3])) nu
      have k17 := ((k14.new (o := .lst (nV [x1])) ns1).new
        (o := .lst (List.replicate (3 : Int).toNat (nV [x1])).flatten)
        nr1).new (o := .lst ((List.replicate (3 : Int).toNat
        (nV [x1])).flatten ++ nV [x1, x2, x3])) nu
      refine ⟨p, c, u, _, _, rfl, .of upd_same, by show 0 < 6; decide,
        by show 6 ≤ 1000000; decide, P17, by omega,
        fun H18 v k18 P18 hv => ?_⟩
      have gf18 := k18 _ _ gf17 nfp
      have gt18 := k18 _ _ gt17 ntp
      obtain ⟨x, hx, rfl⟩ : ∃ x : Nat, x < 2 ^ 199 ∧ v = .int (x : Nat) := by
        have : v ∈ nV [x1, x1, x1, x1, x2, x3] := hv
        obtain ⟨x, hx, rfl⟩ := List.mem_map.mp this
        refine ⟨x, ?_, rfl⟩
        simp only [List.mem_cons, List.not_mem_nil, or_false] at hx
        rcases hx with h | h | h | h | h | h <;> (rw [h]; assumption)
      have k18' := k17.trans k18
      refine ⟨fo, _, _, rfl, rfl, gf18, by rw [nV_len, sizeLine_eq]; omega,
        l ++ [x], _, _, _, _, _, rfl, ?_, (P18.set nfp nfc).mono (by omega),
        ?_, ?_, ?_, ?_⟩
      · intro b o hb hbp
        rw [upd_ne (ne_of_none hb nHfo)]
        exact k18' b o hb hbp
      · rw [upd_ne ntf]; exact gt18
      · rw [upd_same, nV_app]; rfl
      · intro y hy
        rcases List.mem_append.mp hy with h | h
        · exact bl y h
        · rw [List.mem_singleton] at h
          rw [h]; exact hx
      · rw [List.length_append]
        show _ + 1 ≤ _
        omega
    · rintro σ H8 ⟨l, v4, v5, v6, v7, v8, rfl, k8, P8, gt8, gf8, bl, ll⟩
      exact ⟨_, rfl, q H8 fo l k8 (P8.mono (by omega)) nHfo nfp nfc gf8 bl
        (by omega)⟩
end

theorem Pen.sq {H H' : Hp} {p c S : Addr} {n : Nat} (h : Pen H p c n)
    (k : Keep S H H') (np : p ≠ S) (nc : c ≠ S) : Pen H' p c n := by
  obtain ⟨cs, b, x, h1, h2, h3, h4, h5, h6⟩ := h.ex
  exact ⟨cs, b, x, k _ _ h1 np, k _ _ h2 nc, h3, h4, h5, h6⟩
theorem made_same {H : Hp} {x dx C : Addr} (nx : H x = none)
    (nd : H dx = none) :
    Same H (upd (upd H dx (.own x)) x (.ins C dx [])) := fun b o e => by
  rw [upd_ne (ne_of_none e nx), upd_ne (ne_of_none e nd)]
  exact e
theorem Same.thenKeep {H H1 H2 : Hp} {x : Addr} (nx : H x = none)
    (s : Same H H1) (k : Keep x H1 H2) : Same H H2 := fun b o e =>
  k _ _ (s b o e) (ne_of_none e nx)

/-! ### the law -/
theorem sorted_eq : ∀ {l m : List Int}, l.Pairwise (· ≤ ·) →
    m.Pairwise (· ≤ ·) → l.Perm m → l = m
  | [], m, _, _, p => p.nil_eq
  | a :: l, [], _, _, p => (p.symm.nil_eq).symm
  | a :: l, b :: m, hl, hm', p => by
    obtain ⟨h1, h2⟩ := List.pairwise_cons.mp hl
    obtain ⟨h3, h4⟩ := List.pairwise_cons.mp hm'
    have e : a = b := by
      have ha : a ∈ b :: m := p.mem_iff.mp (List.mem_cons_self ..)
      have hb : b ∈ a :: l := p.mem_iff.mpr (List.mem_cons_self ..)
      rcases List.mem_cons.mp ha with h | h
      · exact h
      · rcases List.mem_cons.mp hb with g | g
        · exact g.symm
        · have := h3 a h
          have := h1 b g
          omega
    subst e
    rw [sorted_eq h2 h4 p.cons_inv]
theorem SpanAt.free {H : Hp} {C S q : Addr} {O : List Addr} {R : List Nat}
    {k : Nat} (h : SpanAt H C S O R k) (hq : H q = none) :
    q ∉ O ∧ q ≠ S := by
  obtain ⟨dx, A, prs, e1, e2, e3, e4, e5, e6⟩ := h.ex
  refine ⟨fun z => ?_, (ne_of_none e1 hq).symm⟩
  rw [e2] at z
  rcases List.mem_cons.mp z with g | g
  · rw [g, e3] at hq; cases hq
  · obtain ⟨t, ht, rfl⟩ := List.mem_map.mp g
    rw [e4 t ht] at hq; cases hq
theorem xorL_cons (x : Nat) (l : List Nat) : xorL (x :: l) = x ^^^ xorL l := by
  have : ∀ (l : List Nat) (a : Nat), l.foldl (fun a b => a ^^^ b) a =
      a ^^^ xorL l := by
    intro l
    unfold xorL
    induction l with
    | nil => intro a; simp
    | cons y r ih =>
      intro a
      rw [List.foldl_cons, List.foldl_cons, ih, ih (0 ^^^ y), Nat.zero_xor,
        Nat.xor_assoc]
  show l.foldl (fun a b => a ^^^ b) (0 ^^^ x) = _
  rw [this, Nat.zero_xor]
theorem rs_xorL {R : List Nat} : ∀ {l : List Nat}, (∀ x ∈ l, rs R x = 0) →
    rs R (xorL l) = 0
  | [], _ => rs_of fun r _ => Nat.zero_testBit _
  | x :: l, h => by
    rw [xorL_cons, rs_xor, h x (List.mem_cons_self ..),
      rs_xorL fun y hy => h y (List.mem_cons_of_mem _ hy)]
    rfl
theorem dN' (a b : Nat) : decide (V.int (a : Nat) = V.int (b : Nat)) =
    decide (a = b) := by
  rw [dec_int]
  by_cases h : a = b
  · subst h; simp
  · have h' : ¬ ((a : Int) = (b : Int)) := by omega
    simp [h, h']
def spLaw (K : PySem.W.Frag) : Sp := fun vs H Q _ =>
  ∃ (a : Addr) (ns : List Int), vs = [.ref a] ∧
    SqL K H a (ns.map V.int) ∧ ns.length ≤ 63 ∧
    (∀ z ∈ ns, BB 1048576 z) ∧ ∀ H', Q (.bl true) H'
section
variable {P : Program} {w : World} {K : PySem.W.Frag}
variable {mg : Str → Option Value} {base : Heap} {CS : Addr}
theorem ok_law {f : Addr} {fd : FuncData}
    (F : Fun K "law" "law" s_law f fd) (Z : Zs mg) (TS : STxt K CS)
    (D_pen : Dd P w K mg base "_law_pen" 1 ["script"] (spPen K))
    (D_draw : Dd P w K mg base "_law_draw" 1 ["pen", "many"] spDraw)
    (D_pick : Dd P w K mg base "_law_pick" 2 ["pen", "some"] (spPick K))
    (D_any : Dd P w K mg base "_law_any" 2 ["pen", "powers"] spNum)
    (D_few_marks : Dd P w K mg base "_law_few_marks" 2
      ["pen", "powers"] spFew)
    (D_number : Dd P w K mg base "_law_number" 3 ["pen", "powers"]
      spNumber)
    (D_sum : Dd P w K mg base "_law_sum" 1 ["numbers"] (spXor K))
    (D_many_numbers : Dd P w K mg base "_law_many_numbers" 3
      ["pen", "most"] spMany)
    (D_Span_ddinitdd : Dk P w K mg base CS "Span" 4 ["self", "numbers"]
      (spInitS K CS))
    (D_Span_rows : Dm P w K mg base CS "rows" 1 ["self"] (spRows CS))
    (D_Span_rank : Dm P w K mg base CS "rank" 1 ["self"] (spRank CS))
    (D_Span_rest : Dm P w K mg base CS "rest" 3 ["self", "number"]
      (spRest CS))
    (D_Span_holds : Dm P w K mg base CS "holds" 4 ["self", "number"]
      (spHolds CS))
    (D_Span_add : Dm P w K mg base CS "add" 3 ["self", "number"]
      (spAdd CS)) :
    FnG P w K mg base CX0 6 f fd ["script"] (spLaw K) := by
  refine fnG_of F sc_law (fun vs H Q E h => ?_)
    (fun cdv A outer s H vs Q E gd hr h => ?_)
  · obtain ⟨a, ns, rfl, _⟩ := h
    rfl
  · obtain ⟨a, ns, rfl, hs, hl, hb, q⟩ := h
    have hu := hu_of hr
    refine ⟨_, (pss_cons /- pen = _law_pen(script) -/ (ps_set (i := 1) sc_law.nd rfl (Or.inr rfl) (pe_d D_pen (hr.mono (by decide)) (by rfl) (pa_cons (pv 0) pa_nil)))
(pss_cons /- for turn in range(4): -/ (ps_for PassesOwn.never rfl (pi_range1 (by rfl) Z.range (pa_cons pe_int pa_nil)) (pg_name (i := 2) sc_law.nd rfl (Or.inl rfl))
(pss_cons /- numbers = _law_many_numbers(pen, 16) -/ (ps_set (i := 3) sc_law.nd rfl (Or.inl rfl) (pe_d D_many_numbers (hr.mono (by decide)) (by rfl) (pa_cons (pv 1) (pa_cons pe_int pa_nil))))
(pss_cons /- span = Span(numbers) -/ (ps_set (i := 4) sc_law.nd rfl (Or.inl rfl) (pe_dk D_Span_ddinitdd (hr.mono (by decide)) (by rfl) (pa_cons (pv 3) pa_nil)))
(pss_cons /- tops = [row.bit_length() - 1 for row in span.rows()] -/ (ps_setLc (i := 5) (own := [("row", 6)]) (g := (gName 6)) (by rfl) sc_law.nd rfl rfl (sw_true rfl rfl rfl (by decide +kernel)) (pi_list (pe_dm0 TS.cl D_Span_rows (hr.mono (by decide)) (pv 4))) (blkOk_by (own := [("row", 6)]) (N := N_law) (sc := defScope s_law) (by decide +kernel)) (fun _ _ _ _ _ => pg_name (i := 6) sc_law.nd rfl (Or.inl rfl)) (fun _ _ _ _ _ => pts_nil) (fun _ _ _ _ _ => (pe_op op_sub (pe_bits (pv 6)) pe_int)))
(pss_cons /- for again in range(3): -/ (ps_for PassesOwn.never rfl (pi_range1 (by rfl) Z.range (pa_cons pe_int pa_nil)) (pg_name (i := 7) sc_law.nd rfl (Or.inl rfl))
(pss_cons /- one, two = (_law_number(pen, 199), _law_pick(pen, [_law_any(pen, 199), _law_few_marks(pen, 199)])) -/ (ps_par (i := 8) (j := 9) (by rfl) sc_law.nd rfl rfl (by decide) rfl rfl (pa_cons (pe_d D_number (hr.mono (by decide)) (by rfl) (pa_cons (pv 1) (pa_cons pe_int pa_nil))) (pa_cons (pe_d D_pick (hr.mono (by decide)) (by rfl) (pa_cons (pv 1) (pa_cons (pe_lst (pa_cons (pe_d D_any (hr.mono (by decide)) (by rfl) (pa_cons (pv 1) (pa_cons pe_int pa_nil))) (pa_cons (pe_d D_few_marks (hr.mono (by decide)) (by rfl) (pa_cons (pv 1) (pa_cons pe_int pa_nil))) pa_nil))) pa_nil))) pa_nil)) (by rfl))
(pss_cons /- near = _law_sum([one] + [number for number in numbers if _law_draw(pen, 2) == 0]) -/ (ps_set (i := 10) sc_law.nd rfl (Or.inl rfl) (pe_d D_sum (hr.mono (by decide)) (by rfl) (pa_cons (pe_op op_cat (pe_lst (pa_cons (pv 8) pa_nil)) (pe_lc (own := [("number", 11)]) (g := (gName 11)) (by rfl) sc_law.nd (pi_list (pv 3)) (blkOk_by (own := [("number", 11)]) (N := N_law) (sc := defScope s_law) (by decide +kernel)) (fun _ _ _ _ _ => pg_name (i := 11) sc_law.nd rfl (Or.inl rfl)) (fun _ _ _ _ _ => pts_one (pt_cmpR op_eq (pe_d D_draw (hr.mono (by decide)) (by rfl) (pa_cons (pv 1) (pa_cons pe_int pa_nil))) pe_int (nomark _))) (fun _ _ _ _ _ => (pv 11)))) pa_nil)))
(pss_cons /- rest = span.rest(one) -/ (ps_set (i := 12) sc_law.nd rfl (Or.inr rfl) (pe_dm TS.cl D_Span_rest (hr.mono (by decide)) (pv 4) (pa_cons (pv 8) pa_nil)))
(pss_cons /- if not isinstance(rest, int) or rest != span.rest(near) or rest != span.rest(rest) or (rest > one): -/ (ps_if (PW.pt (pw_or (pt_not (pt_val (pe_callB call_isi (by rfl) Z.isinstance (by decide +kernel) (pa_cons (pv 12) (pa_cons (pe_bltn (v := .ty "int") (by rfl) Z.int (by decide +kernel) rfl) pa_nil))))) (pw_or (pt_cmpR op_ne (pv 12) (pe_dm TS.cl D_Span_rest (hr.mono (by decide)) (pv 4) (pa_cons (pv 10) pa_nil)) (nomark _)) (pw_or (pt_cmpR op_ne (pv 12) (pe_dm TS.cl D_Span_rest (hr.mono (by decide)) (pv 4) (pa_cons (pv 12) pa_nil)) (nomark _)) (pw_or1 (pt_cmpR op_gt (pv 12) (pv 8) (nomark _)))))))
(pss_one /- return False -/ (ps_ret pe_bl))
pss_nil)
(pss_cons /- if [mark for mark in tops if rest >> mark & 1 == 1] != [] or not span.holds(one ^ rest): -/ (ps_if (PW.pt (pw_or (pt_cmpR (op_neD hr.units) (pe_lc (own := [("mark", 13)]) (g := (gName 13)) (by rfl) sc_law.nd (pi_list (pv 5)) (blkOk_by (own := [("mark", 13)]) (N := N_law) (sc := defScope s_law) (by decide +kernel)) (fun _ _ _ _ _ => pg_name (i := 13) sc_law.nd rfl (Or.inl rfl)) (fun _ _ _ _ _ => pts_one (pt_cmpR op_eq (pe_op op_odd (pe_op op_shrM (pv 12) (pv 13)) pe_int) pe_int (nomark _))) (fun _ _ _ _ _ => (pv 13))) (pe_lst pa_nil) (nomark _)) (pw_or1 (pt_not (pt_val (pe_dm TS.cl D_Span_holds (hr.mono (by decide)) (pv 4) (pa_cons (pe_op op_xorN (pv 8) (pv 12)) pa_nil)))))))
(pss_one /- return False -/ (ps_ret pe_bl))
pss_nil)
(pss_one /- if span.rest(one ^ two) != rest ^ span.rest(two) or (rest == 0) != span.holds(one): -/ (ps_if (PW.pt (pw_or (pt_cmpR op_ne (pe_dm TS.cl D_Span_rest (hr.mono (by decide)) (pv 4) (pa_cons (pe_op op_xorN (pv 8) (pv 9)) pa_nil)) (pe_op op_xorN (pv 12) (pe_dm TS.cl D_Span_rest (hr.mono (by decide)) (pv 4) (pa_cons (pv 9) pa_nil))) (nomark _)) (pw_or1 (pt_cmpR op_ne (pe_cmpR op_eq (pv 12) pe_int (nomark _)) (pe_dm TS.cl D_Span_holds (hr.mono (by decide)) (pv 4) (pa_cons (pv 8) pa_nil)) (nomark _)))))
(pss_one /- return False -/ (ps_ret pe_bl))
pss_nil))))))))
(pss_cons /- fresh, rank = (_law_pick(pen, [one, near, two, one ^ near]), span.rank()) -/ (ps_par (i := 14) (j := 15) (by rfl) sc_law.nd rfl rfl (by decide) rfl rfl (pa_cons (pe_d D_pick (hr.mono (by decide)) (by rfl) (pa_cons (pv 1) (pa_cons (pe_lst (pa_cons (pv 8) (pa_cons (pv 10) (pa_cons (pv 9) (pa_cons (pe_op op_xorN (pv 8) (pv 10)) pa_nil))))) pa_nil))) (pa_cons (pe_dm0 TS.cl D_Span_rank (hr.mono (by decide)) (pv 4)) pa_nil)) (by rfl))
(pss_cons /- rest = span.rest(fresh) -/ (ps_set (i := 12) sc_law.nd rfl (Or.inr rfl) (pe_dm TS.cl D_Span_rest (hr.mono (by decide)) (pv 4) (pa_cons (pv 14) pa_nil)))
(pss_cons /- if span.add(fresh) != (rest > 0) or span.rank() != rank + int(rest > 0) or span.rest(fresh) != 0: -/ (ps_if (PW.pt (pw_or (pt_cmpR op_ne (pe_dm TS.cl D_Span_add (hr.mono (by decide)) (pv 4) (pa_cons (pv 14) pa_nil)) (pe_cmpR op_gt (pv 12) pe_int (nomark _)) (nomark _)) (pw_or (pt_cmpR op_ne (pe_dm0 TS.cl D_Span_rank (hr.mono (by decide)) (pv 4)) (pe_op op_add (pv 15) (pe_callTy call_int1 (by rfl) Z.int (by decide +kernel) (pa_cons (pe_cmpR op_gt (pv 12) pe_int (nomark _)) pa_nil))) (nomark _)) (pw_or1 (pt_cmpR op_ne (pe_dm TS.cl D_Span_rest (hr.mono (by decide)) (pv 4) (pa_cons (pv 14) pa_nil)) pe_int (nomark _))))))
(pss_one /- return False -/ (ps_ret pe_bl))
pss_nil)
(pss_cons /- more = [row.bit_length() - 1 for row in span.rows()] -/ (ps_setLc (i := 16) (own := [("row", 6)]) (g := (gName 6)) (by rfl) sc_law.nd rfl rfl (sw_true rfl rfl rfl (by decide +kernel)) (pi_list (pe_dm0 TS.cl D_Span_rows (hr.mono (by decide)) (pv 4))) (blkOk_by (own := [("row", 6)]) (N := N_law) (sc := defScope s_law) (by decide +kernel)) (fun _ _ _ _ _ => pg_name (i := 6) sc_law.nd rfl (Or.inl rfl)) (fun _ _ _ _ _ => pts_nil) (fun _ _ _ _ _ => (pe_op op_sub (pe_bits (pv 6)) pe_int)))
(pss_one /- if sorted(more) != sorted(tops + [rest.bit_length() - 1] * int(rest > 0)): -/ (ps_if (pt_cmpR (op_neD hr.units) (pe_callB cr_sortedI (by rfl) Z.sorted (by decide +kernel) (pa_cons (pv 16) pa_nil)) (pe_callB cr_sortedI (by rfl) Z.sorted (by decide +kernel) (pa_cons (pe_op op_cat (pv 5) (pe_op op_rep (pe_lst (pa_cons (pe_op op_sub (pe_bits (pv 12)) pe_int) pa_nil)) (pe_callTy call_int1 (by rfl) Z.int (by decide +kernel) (pa_cons (pe_cmpR op_gt (pv 12) pe_int (nomark _)) pa_nil)))) pa_nil)) (nomark _))
(pss_one /- return False -/ (ps_ret pe_bl))
pss_nil)))))))))))
(pss_one /- return True -/ (ps_ret pe_bl)))), ?_⟩
    refine ⟨_, rfl, a, ns, rfl, hs, hl, hb, fun H1 p c s1 _ _ P1 => ?_⟩
    -- for turn in range(4)
    refine ⟨4, rfl, by decide, by decide, ?_⟩
    refine for_range (lo := 0) (n := 4) (fun i σ H' =>
      ∃ v2 v3 v4 v5 v6 v7 v8 v9 v10 v11 v12 v13 v14 v15 v16,
        σ = [some (.ref a), some (.ref p), v2, v3, v4, v5, v6, v7, v8, v9,
          v10, v11, v12, v13, v14, v15, v16] ∧ Pen H' p c (i * 10000000))
      ⟨none, none, none, none, none, none, none, none, none, none, none,
        none, none, none, none, rfl, P1⟩ ?_ ?_
    · rintro i σ H2 hi ⟨v2, v3, v4, v5, v6, v7, v8, v9, v10, v11, v12, v13,
        v14, v15, v16, rfl, P2⟩
      -- numbers = ..
      refine ⟨_, rfl, p, c, _, 16, rfl, by decide, P2, by omega,
        fun H3 qn l k3 P3 nqn nqp nqc gn bl ll => ?_⟩
      -- span = Span(numbers)
      refine ⟨_, rfl, fun S dx nS ndx ndS => ?_⟩
      have sm4 := made_same (C := CS) nS ndx
      refine ⟨S, dx, qn, l, rfl, upd_same, .of (sm4 _ _ gn), bl, by omega,
        fun H4 O R k4 nO hin hh => ⟨rfl, ?_⟩⟩
      have s4 := Same.thenKeep nS sm4 k4
      have P4 := P3.same s4
      have gn4 := s4 _ _ gn
      have npO : p ∉ O := fun z => by
        obtain ⟨kk, e⟩ := P3.p
        have := nO p z
        rw [sm4 _ _ e] at this; cases this
      have nSp : S ≠ p := P3.nep nS
      have nSc : S ≠ c := P3.nec nS
      -- tops = [..]
      obtain ⟨dx4, A4, e4⟩ := hh.ins
      refine ⟨_, rfl, S, dx4, _, rfl, e4, sF_no _ _ (by decide +kernel)
        (by decide +kernel), S, O, R, _, rfl, hh,
        fun H5 qr s5 nqr gr => ⟨qr, rfl, ⟨_, .of gr⟩, fun qt nqt => ?_⟩⟩
      have lR : R.length ≤ 50 := by have := hh.few; omega
      refine lc_list (K := K) (a := qr) (xs := nV R) (fun j H' =>
        Same H5 H' ∧ H' qt = some (.lst (nV ((R.take j).map tp))))
        ⟨same_new (Same.refl _) nqt, upd_same⟩ ?_ ?_ ?_
      · rintro j H' _ ⟨h1, _⟩; exact .of (h1 _ _ gr)
      · rintro j x H' hx ⟨h1, h2⟩
        obtain ⟨r, er, rfl⟩ := nV_get hx
        have r0 := hh.rows.nz r (List.mem_of_getElem? er)
        have bp := bL_pos r0
        have et : V.int (Builtin.Int.intBits ((r : Nat) : Int) - 1) =
            V.int (tp r : Nat) := by
          have e : Builtin.Int.intBits ((r : Nat) : Int) = bL r := bl_bL r
          rw [e]
          unfold tp
          congr 1; omega
        refine ⟨rfl, _, rfl, r, rfl, _, _, rfl, rfl, _, h2, ?_, ?_, ?_⟩
        · rw [nV_len, List.length_map, List.length_take, sizeLine_eq]
          omega
        · intro b o hb'
          rw [upd_ne (ne_of_none hb' nqt)]
          exact h1 _ _ hb'
        · show (upd H' qt (.lst (nV ((R.take j).map tp) ++
            [V.int (Builtin.Int.intBits ((r : Nat) : Int) - 1)]))) qt = _
          rw [et, upd_same, List.take_add_one, er, List.map_append, nV_app]
          rfl
      rintro H6 ⟨s6, gt6⟩
      rw [nV_len, List.take_length] at gt6
      have s46 := s5.trans s6
      have hh6 := hh.same s46
      have P6 := P4.same s46
      have gn6 := s46 _ _ gn4
      -- for again in range(3)
      refine ⟨3, rfl, by decide, by decide, ?_⟩
      refine for_range (lo := 0) (n := 3) (fun j σ H' =>
        ∃ v6 v7 v8 v9 v10 v11 v12 v13 v14 v15 v16,
          σ = [some (.ref a), some (.ref p), some (.int (0 + (i : Int))),
            some (.ref qn), some (.ref S), some (.ref qt), v6, v7, v8, v9,
            v10, v11, v12, v13, v14, v15, v16] ∧
          Pen H' p c (i * 10000000 + 200000 + j * 10000) ∧
          SpanAt H' CS S O R l.length ∧ H' qn = some (.lst (nV l)) ∧
          H' qt = some (.lst (nV (R.map tp))) ∧
          (0 < j → ∃ o t r : Nat, v8 = some (.int (o : Nat)) ∧
            v9 = some (.int (t : Nat)) ∧ v10 = some (.int (r : Nat)) ∧
            o < 2 ^ 199 ∧ t < 2 ^ 199 ∧ r < 2 ^ 199))
        ⟨_, _, _, _, _, _, _, _, _, _, _, rfl, P6.mono (by omega), hh6, gn6,
          gt6, fun h => absurd h (Nat.lt_irrefl 0)⟩ ?_ ?_
      · rintro j σ H7 hj ⟨v6, v7, v8, v9, v10, v11, v12, v13, v14, v15, v16,
          rfl, P7, hh7, gn7, gt7, _⟩
        have nqtp := P7.nel gt7
        -- one, two = ..
        refine ⟨_, rfl, p, c, _, 199, rfl, by decide, P7, by omega,
          fun H8 one k8 P8 lone => ?_⟩
        refine ⟨_, rfl, _, rfl, p, c, _, 199, rfl, by decide, P8, by omega,
          fun H9 x1 k9 P9 lx1 => ?_⟩
        refine ⟨_, rfl, p, c, _, 199, rfl, by decide, P9, by omega,
          fun H10 x2 k10 P10 lx2 => ?_⟩
        refine ⟨by show 2 ≤ sizeLine; decide, fun w nw => ?_⟩
        refine ⟨p, c, w, _, [.int (x1 : Nat), .int (x2 : Nat)], rfl,
          .of upd_same, by show 0 < 2; decide, by show 2 ≤ 1000000; decide,
          P10.new nw, by omega, fun H11 v k11 P11 hv => ?_⟩
        obtain ⟨two, ltwo, rfl⟩ : ∃ x : Nat, x < 2 ^ 199 ∧
            v = .int (x : Nat) := by
          rcases List.mem_cons.mp hv with h | h
          · exact ⟨x1, lx1, h⟩
          · exact ⟨x2, lx2, List.mem_singleton.mp h⟩
        have k711 : Keep p H7 H11 :=
          ((((k8.trans k9).trans k10)).new nw).trans k11
        have hh11 := hh7.keep k711 nSp npO
        have gn11 := k711 _ _ gn7 nqp
        have gt11 := k711 _ _ gt7 nqtp
        refine ⟨_, _, rfl, ?_⟩
        -- near = ..
        refine ⟨_, rfl, by show 1 ≤ sizeLine; decide, fun e1 ne1 => ?_⟩
        have ge1 : (upd H11 e1 (.lst [.int (one : Nat)])) e1 =
            some (.lst (nV [one])) := upd_same
        have gn12 := upd_of (o := .lst [.int (one : Nat)]) ne1 gn11
        have gt12 := upd_of (o := .lst [.int (one : Nat)]) ne1 gt11
        have P12 := P11.new (o := .lst [.int (one : Nat)]) ne1
        have hh12 := hh11.same (same_new (o := .lst [.int (one : Nat)])
          (Same.refl _) ne1)
        generalize upd H11 e1 (.lst [.int (one : Nat)]) = H12
          at ge1 gn12 gt12 P12 hh12 ⊢
        have ne1p := P12.nel ge1
        refine ⟨_, rfl, qn, rfl, ⟨_, .of gn12⟩, fun D nD => ?_⟩
        have nDp := P12.nep nD
        have nDc := P12.nec nD
        refine lc_list (K := K) (a := qn) (xs := nV l) (fun m H' =>
          ∃ ys : List Nat, Keep p H12 H' ∧
          Pen H' p c (i * 10000000 + 200000 + j * 10000 + 2000 + m) ∧
          H' D = some (.lst (nV ys)) ∧ ys.length ≤ m ∧ ∀ y ∈ ys, y ∈ l)
          ⟨[], Keep.refl.new nD, (P12.new nD).mono (by omega), upd_same,
            Nat.le_refl _, fun x hx => nomatch hx⟩ ?_ ?_ ?_
        · rintro m H' _ ⟨_, k, _⟩; exact .of (k _ _ gn12 nqp)
        · rintro m x H' hx ⟨ys, k13, P13, g13, ly, my⟩
          obtain ⟨y, ey, rfl⟩ := nV_get hx
          have hml := (List.getElem?_eq_some_iff.mp ey).1
          refine ⟨rfl, _, rfl, p, c, _, 2, rfl, by decide,
            b8000 (by decide) (by decide), P13, by omega,
            fun H14 d k14 P14 d0 d1 => ⟨rfl, _, rfl, ?_⟩⟩
          have g14 := k14 _ _ g13 nDp
          refine ite2 (fun _ => ?_) (fun _ => ?_)
          · refine ⟨_, rfl, _, g14, ?_, ys ++ [y], ?_, (P14.set nDp
              nDc).mono (by omega), ?_, ?_, ?_⟩
            · rw [nV_len, sizeLine_eq]; omega
            · intro b o hb' hbp
              rw [upd_ne (ne_of_none hb' nD)]
              exact k14 _ _ (k13 b o hb' hbp) hbp
            · rw [upd_same, nV_app]; rfl
            · rw [List.length_append]
              show _ + 1 ≤ _
              omega
            · intro z hz
              rcases List.mem_append.mp hz with h | h
              · exact my z h
              · rw [List.mem_singleton] at h
                rw [h]; exact List.mem_of_getElem? ey
          · exact ⟨ys, k13.trans k14, P14.mono (by omega), g14, by omega, my⟩
        rintro H13 ⟨ys, k13, P13, g13, ly, my⟩
        rw [nV_len] at P13 ly
        have hh13 := hh12.keep k13 nSp npO
        have gn13 := k13 _ _ gn12 nqp
        have gt13 := k13 _ _ gt12 nqtp
        have ge13 := k13 _ _ ge1 ne1p
        refine ⟨e1, D, _, _, rfl, rfl, ge13, g13, ?_, fun t nt => ?_⟩
        · rw [nV_len, nV_len, sizeLine_eq]
          show 1 + ys.length ≤ _
          omega
        refine ⟨t, one :: ys, rfl, .of (upd_same.trans (by
          rw [← nV_app]; rfl)), ?_⟩
        have hnear : rs R (xorL (one :: ys)) = rs R one := by
          rw [xorL_cons, rs_xor, rs_xorL fun y hy => hin y (my y hy),
            Nat.xor_zero]
        have lnear : xorL (one :: ys) < 2 ^ 199 := xorL_lt _ (by
          intro y hy
          rcases List.mem_cons.mp hy with h | h
          · rw [h]; exact lone
          · exact bl y (my y h))
        generalize xorL (one :: ys) = near at hnear lnear ⊢
        have s14 : Same H13 (upd H13 t (.lst (nV [one] ++ nV ys))) :=
          same_new (Same.refl _) nt
        generalize upd H13 t (.lst (nV [one] ++ nV ys)) = H14 at s14 ⊢
        have hh14 := hh13.same s14
        have P14 := P13.same s14
        have gn14 := s14 _ _ gn13
        have gt14 := s14 _ _ gt13
        -- rest = span.rest(one)
        obtain ⟨dx14, A14, e14⟩ := hh14.ins
        refine ⟨_, rfl, S, dx14, _, rfl, e14, sF_no _ _ (by decide +kernel)
          (by decide +kernel), _, rfl, S, O, R, _, one, rfl, hh14,
          fun H15 s15 => ?_⟩
        have hh15 := hh14.same s15
        obtain ⟨dx15, A15, e15⟩ := hh15.ins
        have rle := rs_le hh.rows one
        have ridem := rs_idem hh.rows one
        have rtop := rs_top hh.rows one
        have rlin : rs R (one ^^^ two) = rs R one ^^^ rs R two :=
          rs_xor _ _ _
        have rho : rs R (one ^^^ rs R one) = 0 := by
          rw [rs_xor, ridem, Nat.xor_self]
        -- if not isinstance(rest, int) or ..
        refine ⟨_, rfl, .int (rs R one : Nat), .ty "int", .type "int",
          .type "int", true, rfl, .ty _, .base (.int _),
          kit_ty (by decide +kernel), true, rfl, if' rfl ?_⟩
        refine ⟨_, rfl, _, rfl, S, dx15, _, rfl, e15, sF_no _ _
          (by decide +kernel) (by decide +kernel), _, rfl, S, O, R, _, near,
          rfl, hh15, fun H16 s16 => ⟨rfl, _, rfl, if' (by
            rw [hnear]; simp) ?_⟩⟩
        have hh16 := hh15.same s16
        obtain ⟨dx16, A16, e16⟩ := hh16.ins
        refine ⟨_, rfl, _, rfl, S, dx16, _, rfl, e16, sF_no _ _
          (by decide +kernel) (by decide +kernel), _, rfl, S, O, R, _,
          rs R one, rfl, hh16, fun H17 s17 => ⟨rfl, _, rfl, if' (by
            rw [ridem]; simp) ?_⟩⟩
        refine ⟨_, rfl, _, rfl, _, _, rfl, rfl, _, rfl,
          if' (decide_eq_false (by omega)) ?_⟩
        have s417 := ((s15.trans s16).trans s17)
        have hh17 := hh14.same s417
        have gt17 := s417 _ _ gt14
        -- if [..] != [] or not span.holds(one ^ rest)
        refine ⟨_, rfl, qt, rfl, ⟨_, .of gt17⟩, fun D2 nD2 => ?_⟩
        refine lc_list (K := K) (a := qt) (xs := nV (R.map tp))
          (fun m H' => Same H17 H' ∧ H' D2 = some (.lst []))
          ⟨same_new (Same.refl _) nD2, upd_same⟩ ?_ ?_ ?_
        · rintro m H' _ ⟨h1, _⟩; exact .of (h1 _ _ gt17)
        · rintro m x H' hx ⟨h1, h2⟩
          obtain ⟨b, eb, rfl⟩ := nV_get hx
          obtain ⟨r, hr', rfl⟩ := List.mem_map.mp (List.mem_of_getElem? eb)
          refine ⟨rfl, _, rfl, _, rfl, rs R one, tp r, rfl, rfl,
            rs R one / 2 ^ tp r, rfl, rfl, rfl, _, rfl, ?_⟩
          have et : decide (V.int (rs R one / 2 ^ tp r % 2 : Nat) =
              V.int 1) = false := by
            rw [show V.int 1 = V.int ((1 : Nat) : Int) from rfl, dN',
              ← Nat.testBit_eq_decide_div_mod_eq]
            exact rtop r hr'
          exact if' et ⟨h1, h2⟩
        rintro H18 ⟨s18, g18⟩
        refine ⟨Nat.zero_le _, fun e2 ne2 => ?_⟩
        refine ⟨.list (([] : List Int).map .int),
          .list (([] : List Int).map .int),
          dpL (.of (upd_of ne2 g18)), dpL (.of upd_same),
          shapedL _, shapedL _, _, rfl, if' (by rw [eqvL]; rfl) ?_⟩
        have s19 : Same H17 (upd H18 e2 (.lst [])) := same_new s18 ne2
        have hh19 := hh17.same s19
        have s149 := s417.trans s19
        generalize upd H18 e2 (.lst []) = H19 at hh19 s149 ⊢
        obtain ⟨dx19, A19, e19⟩ := hh19.ins
        refine ⟨_, rfl, S, dx19, _, rfl, e19, sF_no _ _ (by decide +kernel)
          (by decide +kernel), _, rfl, _, rfl, one, rs R one, rfl, rfl, S, O,
          R, _, one ^^^ rs R one, rfl, hh19, fun H20 s20 => ⟨_, rfl,
            if' (by rw [rho]; rfl) ?_⟩⟩
        have hh20 := hh19.same s20
        obtain ⟨dx20, A20, e20⟩ := hh20.ins
        -- if span.rest(one ^ two) != rest ^ span.rest(two) or ..
        refine ⟨_, rfl, S, dx20, _, rfl, e20, sF_no _ _ (by decide +kernel)
          (by decide +kernel), _, rfl, _, rfl, one, two, rfl, rfl, S, O, R, _,
          one ^^^ two, rfl, hh20, fun H21 s21 => ?_⟩
        have hh21 := hh20.same s21
        obtain ⟨dx21, A21, e21⟩ := hh21.ins
        refine ⟨_, rfl, _, rfl, S, dx21, _, rfl, e21, sF_no _ _
          (by decide +kernel) (by decide +kernel), _, rfl, S, O, R, _, two,
          rfl, hh21, fun H22 s22 => ⟨_, _, rfl, rfl, rfl, _, rfl, if' (by
            rw [rlin]; simp) ?_⟩⟩
        have hh22 := hh21.same s22
        obtain ⟨dx22, A22, e22⟩ := hh22.ins
        refine ⟨_, rfl, rfl, _, rfl, S, dx22, _, rfl, e22, sF_no _ _
          (by decide +kernel) (by decide +kernel), _, rfl, S, O, R, _, one,
          rfl, hh22, fun H23 s23 => ⟨rfl, _, rfl, if' ?_ ?_⟩⟩
        · rw [show V.int 0 = V.int ((0 : Nat) : Int) from rfl, dN']
          simp
        have s1423 := (((s149.trans s20).trans s21).trans s22).trans s23
        exact ⟨_, _, _, _, _, _, _, _, _, _, _, rfl,
          (P14.same s1423).mono (by omega), hh14.same s1423,
          s1423 _ _ gn14, s1423 _ _ gt14, fun _ => ⟨one, two, near, rfl, rfl,
            rfl, lone, ltwo, lnear⟩⟩
      · rintro σ H7 ⟨v6, v7, v8, v9, v10, v11, v12, v13, v14, v15, v16,
          rfl, P7, hh7, gn7, gt7, h7⟩
        obtain ⟨one, two, near, rfl, rfl, rfl, lone, ltwo, lnear⟩ :=
          h7 (by decide)
        have nqtp := P7.nel gt7
        -- fresh, rank = ..
        refine ⟨_, rfl, _, rfl, _, rfl, _, rfl, _, rfl, _, rfl, one, near,
          rfl, rfl, by show 4 ≤ sizeLine; decide, fun w nw => ?_⟩
        refine ⟨p, c, w, _, [.int (one : Nat), .int (near : Nat),
          .int (two : Nat), .int (one ^^^ near : Nat)], rfl,
          .of upd_same, by show 0 < 4; decide, by show 4 ≤ 1000000; decide,
          P7.new nw, by omega, fun H8 v k8 P8 hv => ?_⟩
        obtain ⟨fr, lfr, rfl⟩ : ∃ x : Nat, x < 2 ^ 199 ∧
            v = .int (x : Nat) := by
          simp only [List.mem_cons, List.not_mem_nil, or_false] at hv
          rcases hv with h | h | h | h
          · exact ⟨one, lone, h⟩
          · exact ⟨near, lnear, h⟩
          · exact ⟨two, ltwo, h⟩
          · exact ⟨_, Nat.xor_lt_two_pow lone lnear, h⟩
        have k78 : Keep p H7 H8 := (Keep.refl.new nw).trans k8
        have hh8 := hh7.keep k78 nSp npO
        have gt8 := k78 _ _ gt7 nqtp
        obtain ⟨dx8, A8, e8⟩ := hh8.ins
        refine ⟨_, rfl, S, dx8, _, rfl, e8, sF_no _ _ (by decide +kernel)
          (by decide +kernel), S, O, R, _, rfl, hh8, _, _, rfl, ?_⟩
        -- rest = span.rest(fresh)
        refine ⟨_, rfl, S, dx8, _, rfl, e8, sF_no _ _ (by decide +kernel)
          (by decide +kernel), _, rfl, S, O, R, _, fr, rfl, hh8,
          fun H9 s9 => ?_⟩
        have hh9 := hh8.same s9
        have gt9 := s9 _ _ gt8
        obtain ⟨dx9, A9, e9⟩ := hh9.ins
        have P9 := P8.same s9
        have ep : decide ((0 : Int) < ((rs R fr : Nat) : Int)) =
            decide (rs R fr ≠ 0) := by
          by_cases h : rs R fr = 0
          · rw [decide_eq_false (by omega), decide_eq_false fun z => z h]
          · rw [decide_eq_true (by omega), decide_eq_true h]
        -- if span.add(fresh) != (rest > 0) or ..
        refine ⟨_, rfl, S, dx9, _, rfl, e9, sF_no _ _ (by decide +kernel)
          (by decide +kernel), _, rfl, S, O, R, _, fr, rfl, hh9, lfr,
          by omega, fun H10 O2 R2 k10 w10 z1 z2 hh10 => ?_⟩
        have gt10 := k10 _ _ gt9 (by
          intro z
          rw [z, e9] at gt9; cases gt9)
        have P10 : Pen H10 p c (i * 10000000 + 200000 + 3 * 10000 + 1) :=
          P9.sq k10 (Ne.symm nSp) (Ne.symm nSc)
        refine ⟨_, rfl, _, _, rfl, rfl, rfl, _, rfl, if' (by
          show (!decide (V.bl (decide (rs R fr ≠ 0)) =
            V.bl (decide ((0 : Int) < ((rs R fr : Nat) : Int))))) = false
          rw [ep]; simp) ?_⟩
        obtain ⟨dx10, A10, e10⟩ := hh10.ins
        have lR2 : ((R2.length : Nat) : Int) = (R.length : Nat) +
            (if decide ((0 : Int) < ((rs R fr : Nat) : Int)) = true
              then 1 else 0) := by
          by_cases h : rs R fr = 0
          · rw [z1 h, ep, decide_eq_false fun z => z h,
              if_neg Bool.false_ne_true]
            omega
          · have h1 := (z2 h).length_eq
            have h2 : (more (rs R fr) R).length = R.length + 1 := by
              show (_ :: R.map _).length = _
              rw [List.length_cons, List.length_map]
            rw [ep, decide_eq_true h, if_pos rfl]
            omega
        have hr2 : rs R2 fr = 0 := by
          by_cases h : rs R fr = 0
          · rw [z1 h]; exact h
          · rw [rs_perm (z2 h)]
            exact more_new hh.rows h
        refine ⟨_, rfl, S, dx10, _, rfl, e10, sF_no _ _ (by decide +kernel)
          (by decide +kernel), S, O2, R2, _, rfl, hh10, _, rfl, _, rfl, _, _,
          rfl, rfl, .inr ⟨_, rfl, _, _, rfl, rfl, rfl, _, rfl,
          if' (by rw [lR2]; simp) ?_⟩⟩
        refine ⟨_, rfl, S, dx10, _, rfl, e10, sF_no _ _ (by decide +kernel)
          (by decide +kernel), _, rfl, S, O2, R2, _, fr, rfl, hh10,
          fun H11 s11 => ⟨rfl, _, rfl, if' (by rw [hr2]; rfl) ?_⟩⟩
        have hh11 := hh10.same s11
        have gt11 := s11 _ _ gt10
        have P11 := P10.same s11
        obtain ⟨dx11, A11, e11⟩ := hh11.ins
        -- more = [..]
        refine ⟨_, rfl, S, dx11, _, rfl, e11, sF_no _ _ (by decide +kernel)
          (by decide +kernel), S, O2, R2, _, rfl, hh11,
          fun H12 qr2 s12 nqr2 gr2 => ⟨qr2, rfl, ⟨_, .of gr2⟩,
            fun qm nqm => ?_⟩⟩
        have lR2' : R2.length ≤ 51 := by have := hh10.few; omega
        refine lc_list (K := K) (a := qr2) (xs := nV R2) (fun j H' =>
          Same H12 H' ∧ H' qm = some (.lst (nV ((R2.take j).map tp))))
          ⟨same_new (Same.refl _) nqm, upd_same⟩ ?_ ?_ ?_
        · rintro j H' _ ⟨h1, _⟩; exact .of (h1 _ _ gr2)
        · rintro j x H' hx ⟨h1, h2⟩
          obtain ⟨r, er, rfl⟩ := nV_get hx
          have r0 := hh10.rows.nz r (List.mem_of_getElem? er)
          have bp := bL_pos r0
          have et : V.int (Builtin.Int.intBits ((r : Nat) : Int) - 1) =
              V.int (tp r : Nat) := by
            have e : Builtin.Int.intBits ((r : Nat) : Int) = bL r := bl_bL r
            rw [e]
            unfold tp
            congr 1; omega
          refine ⟨rfl, _, rfl, r, rfl, _, _, rfl, rfl, _, h2, ?_, ?_, ?_⟩
          · rw [nV_len, List.length_map, List.length_take, sizeLine_eq]
            omega
          · intro b o hb'
            rw [upd_ne (ne_of_none hb' nqm)]
            exact h1 _ _ hb'
          · show (upd H' qm (.lst (nV ((R2.take j).map tp) ++
              [V.int (Builtin.Int.intBits ((r : Nat) : Int) - 1)]))) qm = _
            rw [et, upd_same, List.take_add_one, er, List.map_append, nV_app]
            rfl
        rintro H13 ⟨s13, gm13⟩
        rw [nV_len, List.take_length] at gm13
        have gt13 := s13 _ _ (s12 _ _ gt11)
        have P13 := (P11.same s12).same s13
        -- if sorted(more) != sorted(..)
        refine ⟨_, rfl, qm, ci (R2.map tp), rfl,
          by rw [← nV_int]; exact .of gm13, fun na L1 pm1 sr1 nL1 => ?_⟩
        have gt14 := upd_of (o := .lst (na.map V.int)) nL1 gt13
        have P14 := P13.new (o := .lst (na.map V.int)) nL1
        have gL1 : (upd H13 L1 (.lst (na.map V.int))) L1 =
            some (.lst (na.map V.int)) := upd_same
        generalize upd H13 L1 (.lst (na.map V.int)) = H14 at gt14 P14 gL1 ⊢
        refine ⟨_, rfl, _, rfl, rs R fr, rfl, _, _, rfl, rfl,
          by show 1 ≤ sizeLine; decide, fun e5 ne5 => ?_⟩
        obtain ⟨T2, eT2, pT2⟩ : ∃ T2 : List Nat, nV (R.map tp) ++
            (List.replicate (if decide ((0 : Int) < ((rs R fr : Nat) : Int))
              = true then (1 : Int) else 0).toNat [V.int (Builtin.Int.intBits
              ((rs R fr : Nat) : Int) - 1)]).flatten = nV T2 ∧
            (R2.map tp).Perm T2 := by
          by_cases h : rs R fr = 0
          · refine ⟨R.map tp, ?_, by rw [z1 h]⟩
            rw [ep, decide_eq_false fun z => z h,
              if_neg Bool.false_ne_true]
            show nV (R.map tp) ++ [] = _
            rw [List.append_nil]
          · refine ⟨R.map tp ++ [tp (rs R fr)], ?_, ?_⟩
            · rw [ep, decide_eq_true h, if_pos rfl, nV_app]
              have bp := bL_pos h
              have e : Builtin.Int.intBits ((rs R fr : Nat) : Int) =
                bL (rs R fr) := bl_bL _
              rw [e]
              have e2 : ((bL (rs R fr) : Nat) : Int) - 1 =
                  ((tp (rs R fr) : Nat) : Int) := by
                unfold tp; omega
              rw [e2]; rfl
            · have h1 := (z2 h).map tp
              rw [more_tops hh.rows h (rs_top hh.rows fr)] at h1
              exact h1.trans (List.perm_append_singleton _ _).symm
        refine ⟨_, rfl, _, _, rfl, rfl, .inr ⟨_, rfl, ?_⟩⟩
        refine ⟨e5, _, _, rfl, rfl, upd_same, ?_, ?_, ?_,
          fun r1 nr1 => ?_⟩
        · split <;> omega
        · split <;> omega
        · split <;> (show 1 * _ ≤ _; decide)
        have gt15 := upd_of (o := .lst [V.int (Builtin.Int.intBits
          ((rs R fr : Nat) : Int) - 1)]) ne5 gt14
        refine ⟨qt, r1, _, _, rfl, rfl, upd_of nr1 gt15, upd_same, ?_,
          fun u nu => ?_⟩
        · have h1 := congrArg List.length eT2
          rw [List.length_append, nV_len T2] at h1
          refine Nat.le_trans (Nat.le_of_eq h1) ?_
          have h2 := pT2.length_eq
          rw [List.length_map] at h2
          rw [sizeLine_eq]
          omega
        refine ⟨u, ci T2, rfl, .of (upd_same.trans (by
          rw [← nV_int]; exact congrArg (fun z => some (HO.lst z)) eT2)),
          fun nb L2 pm2 sr2 nL2 => ?_⟩
        have eab : na = nb := sorted_eq sr1 sr2 (pm1.trans
          ((pT2.map fun i : Nat => (i : Int)).trans pm2.symm))
        refine ⟨.list (na.map .int), .list (nb.map .int),
          dpL (.of (upd_of nL2 (upd_of nu (upd_of nr1 (upd_of ne5 gL1))))),
          dpL (.of upd_same), shapedL _,
          shapedL _, _, rfl, if' (by rw [eqvL, eab]; simp) ?_⟩
        exact ⟨_, _, _, _, _, _, _, _, _, _, _, _, _, _, _, rfl,
          Pen.mono (Pen.new (Pen.new (Pen.new (Pen.new P14 ne5) nr1) nu) nL2)
            (by omega)⟩
    · rintro σ H2 ⟨v2, v3, v4, v5, v6, v7, v8, v9, v10, v11, v12, v13,
        v14, v15, v16, rfl, P2⟩
      exact q H2
end

/-! ### what the top has written, and the end -/
theorem all_mk {l : PySem.W.OpenLaw} {w : World} {K : PySem.W.Frag}
    {h : Heap} {mg : Str → Option Value} {fa : Addr} (X : K.In h)
    (G : h.Ns mainGlobals mg) (hfa : mg "law" = some (.ref fa))
    {CS : Addr}
    {od0 an0 : Option Addr} {sl0 : Array (Option Value)} {oc0 kV0 dc0 pm0 cd0 ct0 : Value} {f0 : Addr}
    {od1 an1 : Option Addr} {sl1 : Array (Option Value)} {oc1 kV1 dc1 pm1 cd1 ct1 : Value} {f1 : Addr}
    {od2 an2 : Option Addr} {sl2 : Array (Option Value)} {oc2 kV2 dc2 pm2 cd2 ct2 : Value} {f2 : Addr}
    {od3 an3 : Option Addr} {sl3 : Array (Option Value)} {oc3 kV3 dc3 pm3 cd3 ct3 : Value} {f3 : Addr}
    {od4 an4 : Option Addr} {sl4 : Array (Option Value)} {oc4 kV4 dc4 pm4 cd4 ct4 : Value} {f4 : Addr}
    {od5 an5 : Option Addr} {sl5 : Array (Option Value)} {oc5 kV5 dc5 pm5 cd5 ct5 : Value} {f5 : Addr}
    {od6 an6 : Option Addr} {sl6 : Array (Option Value)} {oc6 kV6 dc6 pm6 cd6 ct6 : Value} {f6 : Addr}
    {od7 an7 : Option Addr} {sl7 : Array (Option Value)} {oc7 kV7 dc7 pm7 cd7 ct7 : Value} {f7 : Addr}
    {od8 an8 : Option Addr} {sl8 : Array (Option Value)} {oc8 kV8 dc8 pm8 cd8 ct8 : Value} {f8 : Addr}
    {od9 an9 : Option Addr} {sl9 : Array (Option Value)} {oc9 kV9 dc9 pm9 cd9 ct9 : Value} {f9 : Addr}
    {od10 ot10 an10 : Option Addr} {st10 sl10 : Array (Option Value)} {oc10 om10 kV10 dc10 pm10 cd10 ct10 ad10 : Value} {f10 T10 : Addr} {tn10 : Nat}
    {A10 : Addr}
    {od11 an11 : Option Addr} {sl11 : Array (Option Value)} {oc11 kV11 dc11 pm11 cd11 ct11 : Value} {f11 : Addr}
    {od12 an12 : Option Addr} {sl12 : Array (Option Value)} {oc12 kV12 dc12 pm12 cd12 ct12 : Value} {f12 : Addr}
    {od13 an13 : Option Addr} {sl13 : Array (Option Value)} {oc13 kV13 dc13 pm13 cd13 ct13 : Value} {f13 : Addr}
    {od14 an14 : Option Addr} {sl14 : Array (Option Value)} {oc14 kV14 dc14 pm14 cd14 ct14 : Value} {f14 : Addr}
    {od15 an15 : Option Addr} {sl15 : Array (Option Value)} {oc15 kV15 dc15 pm15 cd15 ct15 : Value} {f15 : Addr}
    {od16 an16 : Option Addr} {sl16 : Array (Option Value)} {oc16 kV16 dc16 pm16 cd16 ct16 : Value} {f16 : Addr}
    (aC_Span : PySem.W.nsIn K mainGlobals "Span" =
      some (some (.ref CS)))
    (pg_Span : PySem.W.plainGet K CS Str.empty = true)
    (hd_Span : PySem.W.hasDictIn K CS = true)
    (po_Span : PySem.W.plainOver K CS = true)
    (sa_Span : PySem.W.findIn K (.ref CS) "__setattr__" =
      some (some (.builtin "object.__setattr__")))
    (mk_Span : PySem.W.makesIn K CS = true)
    (kc_Span : PySem.W.keepIn K (.ref CS) = true)
    (n_pairs_Span : PySem.W.findIn K (.ref CS) "_pairs" = some none)
    (n_added_Span : PySem.W.findIn K (.ref CS) "_added" = some none)
    (a0 : PySem.W.nsIn K mainGlobals "top" =
      some (some (.ref f0)))
    (l0 : K.lookup f0 = some ⟨oc0, od0, .func (PySem.W.fnOf "top"
      "top" (defArgs s_top) (defBody s_top) (defScope s_top) .none kV0
      dc0 pm0 an0 cd0 ct0), sl0⟩)
    (c0 : PySem.W.codeIn K cd0 "top" = true)
    (k0 : PySem.W.keepIn K (.ref f0) = true)
    (a1 : PySem.W.nsIn K mainGlobals "_law_draw" =
      some (some (.ref f1)))
    (l1 : K.lookup f1 = some ⟨oc1, od1, .func (PySem.W.fnOf "_law_draw"
      "_law_draw" (defArgs s_draw) (defBody s_draw) (defScope s_draw) .none kV1
      dc1 pm1 an1 cd1 ct1), sl1⟩)
    (c1 : PySem.W.codeIn K cd1 "_law_draw" = true)
    (k1 : PySem.W.keepIn K (.ref f1) = true)
    (a2 : PySem.W.nsIn K mainGlobals "_law_pen" =
      some (some (.ref f2)))
    (l2 : K.lookup f2 = some ⟨oc2, od2, .func (PySem.W.fnOf "_law_pen"
      "_law_pen" (defArgs s_pen) (defBody s_pen) (defScope s_pen) .none kV2
      dc2 pm2 an2 cd2 ct2), sl2⟩)
    (c2 : PySem.W.codeIn K cd2 "_law_pen" = true)
    (k2 : PySem.W.keepIn K (.ref f2) = true)
    (a3 : PySem.W.nsIn K mainGlobals "_law_pick" =
      some (some (.ref f3)))
    (l3 : K.lookup f3 = some ⟨oc3, od3, .func (PySem.W.fnOf "_law_pick"
      "_law_pick" (defArgs s_pick) (defBody s_pick) (defScope s_pick) .none kV3
      dc3 pm3 an3 cd3 ct3), sl3⟩)
    (c3 : PySem.W.codeIn K cd3 "_law_pick" = true)
    (k3 : PySem.W.keepIn K (.ref f3) = true)
    (a4 : PySem.W.findIn K (.ref CS) "_reduced" =
      some (some (.ref f4)))
    (i4 : PySem.W.isFn K (.ref f4) = true)
    (l4 : K.lookup f4 = some ⟨oc4, od4, .func (PySem.W.fnOf "_reduced"
      "Span._reduced" (defArgs s_Span__reduced) (defBody s_Span__reduced) (defScope s_Span__reduced) .none kV4
      dc4 pm4 an4 cd4 ct4), sl4⟩)
    (c4 : PySem.W.codeIn K cd4 "Span._reduced" = true)
    (k4 : PySem.W.keepIn K (.ref f4) = true)
    (a5 : PySem.W.findIn K (.ref CS) "rest" =
      some (some (.ref f5)))
    (i5 : PySem.W.isFn K (.ref f5) = true)
    (l5 : K.lookup f5 = some ⟨oc5, od5, .func (PySem.W.fnOf "rest"
      "Span.rest" (defArgs s_Span_rest) (defBody s_Span_rest) (defScope s_Span_rest) .none kV5
      dc5 pm5 an5 cd5 ct5), sl5⟩)
    (c5 : PySem.W.codeIn K cd5 "Span.rest" = true)
    (k5 : PySem.W.keepIn K (.ref f5) = true)
    (a6 : PySem.W.findIn K (.ref CS) "holds" =
      some (some (.ref f6)))
    (i6 : PySem.W.isFn K (.ref f6) = true)
    (l6 : K.lookup f6 = some ⟨oc6, od6, .func (PySem.W.fnOf "holds"
      "Span.holds" (defArgs s_Span_holds) (defBody s_Span_holds) (defScope s_Span_holds) .none kV6
      dc6 pm6 an6 cd6 ct6), sl6⟩)
    (c6 : PySem.W.codeIn K cd6 "Span.holds" = true)
    (k6 : PySem.W.keepIn K (.ref f6) = true)
    (a7 : PySem.W.findIn K (.ref CS) "rank" =
      some (some (.ref f7)))
    (i7 : PySem.W.isFn K (.ref f7) = true)
    (l7 : K.lookup f7 = some ⟨oc7, od7, .func (PySem.W.fnOf "rank"
      "Span.rank" (defArgs s_Span_rank) (defBody s_Span_rank) (defScope s_Span_rank) .none kV7
      dc7 pm7 an7 cd7 ct7), sl7⟩)
    (c7 : PySem.W.codeIn K cd7 "Span.rank" = true)
    (k7 : PySem.W.keepIn K (.ref f7) = true)
    (a8 : PySem.W.findIn K (.ref CS) "rows" =
      some (some (.ref f8)))
    (i8 : PySem.W.isFn K (.ref f8) = true)
    (l8 : K.lookup f8 = some ⟨oc8, od8, .func (PySem.W.fnOf "rows"
      "Span.rows" (defArgs s_Span_rows) (defBody s_Span_rows) (defScope s_Span_rows) .none kV8
      dc8 pm8 an8 cd8 ct8), sl8⟩)
    (c8 : PySem.W.codeIn K cd8 "Span.rows" = true)
    (k8 : PySem.W.keepIn K (.ref f8) = true)
    (a9 : PySem.W.findIn K (.ref CS) "add" =
      some (some (.ref f9)))
    (i9 : PySem.W.isFn K (.ref f9) = true)
    (l9 : K.lookup f9 = some ⟨oc9, od9, .func (PySem.W.fnOf "add"
      "Span.add" (defArgs s_Span_add) (defBody s_Span_add) (defScope s_Span_add) .none kV9
      dc9 pm9 an9 cd9 ct9), sl9⟩)
    (c9 : PySem.W.codeIn K cd9 "Span.add" = true)
    (k9 : PySem.W.keepIn K (.ref f9) = true)
    (a10 : PySem.W.findIn K (.ref CS) "__init__" =
      some (some (.ref f10)))
    (i10 : PySem.W.isFn K (.ref f10) = true)
    (l10 : K.lookup f10 = some ⟨oc10, od10, .func (PySem.W.fnOf "__init__"
      "Span.__init__" (defArgs s_Span_ddinitdd) (defBody s_Span_ddinitdd) (defScope s_Span_ddinitdd) (.ref T10) kV10
      dc10 pm10 an10 cd10 ct10), sl10⟩)
    (lT10 : K.lookup T10 = some ⟨om10, ot10, .seq #[ad10] tn10, st10⟩)
    (dV10 : ad10 = .ref A10)
    (c10 : PySem.W.codeIn K cd10 "Span.__init__" = true)
    (k10 : PySem.W.keepIn K (.ref f10) = true)
    (a11 : PySem.W.nsIn K mainGlobals "_law_any" =
      some (some (.ref f11)))
    (l11 : K.lookup f11 = some ⟨oc11, od11, .func (PySem.W.fnOf "_law_any"
      "_law_any" (defArgs s_any) (defBody s_any) (defScope s_any) .none kV11
      dc11 pm11 an11 cd11 ct11), sl11⟩)
    (c11 : PySem.W.codeIn K cd11 "_law_any" = true)
    (k11 : PySem.W.keepIn K (.ref f11) = true)
    (a12 : PySem.W.nsIn K mainGlobals "_law_few_marks" =
      some (some (.ref f12)))
    (l12 : K.lookup f12 = some ⟨oc12, od12, .func (PySem.W.fnOf "_law_few_marks"
      "_law_few_marks" (defArgs s_few_marks) (defBody s_few_marks) (defScope s_few_marks) .none kV12
      dc12 pm12 an12 cd12 ct12), sl12⟩)
    (c12 : PySem.W.codeIn K cd12 "_law_few_marks" = true)
    (k12 : PySem.W.keepIn K (.ref f12) = true)
    (a13 : PySem.W.nsIn K mainGlobals "_law_number" =
      some (some (.ref f13)))
    (l13 : K.lookup f13 = some ⟨oc13, od13, .func (PySem.W.fnOf "_law_number"
      "_law_number" (defArgs s_number) (defBody s_number) (defScope s_number) .none kV13
      dc13 pm13 an13 cd13 ct13), sl13⟩)
    (c13 : PySem.W.codeIn K cd13 "_law_number" = true)
    (k13 : PySem.W.keepIn K (.ref f13) = true)
    (a14 : PySem.W.nsIn K mainGlobals "_law_sum" =
      some (some (.ref f14)))
    (l14 : K.lookup f14 = some ⟨oc14, od14, .func (PySem.W.fnOf "_law_sum"
      "_law_sum" (defArgs s_sum) (defBody s_sum) (defScope s_sum) .none kV14
      dc14 pm14 an14 cd14 ct14), sl14⟩)
    (c14 : PySem.W.codeIn K cd14 "_law_sum" = true)
    (k14 : PySem.W.keepIn K (.ref f14) = true)
    (a15 : PySem.W.nsIn K mainGlobals "_law_many_numbers" =
      some (some (.ref f15)))
    (l15 : K.lookup f15 = some ⟨oc15, od15, .func (PySem.W.fnOf "_law_many_numbers"
      "_law_many_numbers" (defArgs s_many_numbers) (defBody s_many_numbers) (defScope s_many_numbers) .none kV15
      dc15 pm15 an15 cd15 ct15), sl15⟩)
    (c15 : PySem.W.codeIn K cd15 "_law_many_numbers" = true)
    (k15 : PySem.W.keepIn K (.ref f15) = true)
    (a16 : PySem.W.nsIn K mainGlobals "law" =
      some (some (.ref f16)))
    (l16 : K.lookup f16 = some ⟨oc16, od16, .func (PySem.W.fnOf "law"
      "law" (defArgs s_law) (defBody s_law) (defScope s_law) .none kV16
      dc16 pm16 an16 cd16 ct16), sl16⟩)
    (c16 : PySem.W.codeIn K cd16 "law" = true)
    (k16 : PySem.W.keepIn K (.ref f16) = true)
    (z_abs : PySem.W.nsIn K mainGlobals "abs" = some none)
    (z_int : PySem.W.nsIn K mainGlobals "int" = some none)
    (z_isinstance : PySem.W.nsIn K mainGlobals "isinstance" = some none)
    (z_len : PySem.W.nsIn K mainGlobals "len" = some none)
    (z_max : PySem.W.nsIn K mainGlobals "max" = some none)
    (z_min : PySem.W.nsIn K mainGlobals "min" = some none)
    (z_range : PySem.W.nsIn K mainGlobals "range" = some none)
    (z_sorted : PySem.W.nsIn K mainGlobals "sorted" = some none) :
    ∃ fd : FuncData, (∀ (s : Shared) (v : Value),
      BindsTo s fd ⟨[v], []⟩ [("script", v)]) ∧
    ∀ base : Heap, K.In base → base.Ns mainGlobals mg →
      FnG l.prog w K mg base CX0 6 fa fd ["script"] (spLaw K) := by
  have e := hfa.symm.trans (PySem.W.mg_of X G a16)
  cases e
  have Z : Zs mg := ⟨PySem.W.mg_none_of X G z_abs,
    PySem.W.mg_none_of X G z_int,
    PySem.W.mg_none_of X G z_isinstance,
    PySem.W.mg_none_of X G z_len,
    PySem.W.mg_none_of X G z_max,
    PySem.W.mg_none_of X G z_min,
    PySem.W.mg_none_of X G z_range,
    PySem.W.mg_none_of X G z_sorted⟩
  have TS : STxt K CS := ⟨⟨pg_Span, hd_Span, po_Span, sa_Span⟩, n_pairs_Span, n_added_Span⟩
  have F0 := fun_mk (st := s_top) l0 c0 k0
  have b0 := F0.binds (ps := ["number"])
    fun _ _ _ _ _ _ us hl =>
      match us, hl with | [_], _ => rfl
  have F1 := fun_mk (st := s_draw) l1 c1 k1
  have b1 := F1.binds (ps := ["pen", "many"])
    fun _ _ _ _ _ _ us hl =>
      match us, hl with | [_, _], _ => rfl
  have F2 := fun_mk (st := s_pen) l2 c2 k2
  have b2 := F2.binds (ps := ["script"])
    fun _ _ _ _ _ _ us hl =>
      match us, hl with | [_], _ => rfl
  have F3 := fun_mk (st := s_pick) l3 c3 k3
  have b3 := F3.binds (ps := ["pen", "some"])
    fun _ _ _ _ _ _ us hl =>
      match us, hl with | [_, _], _ => rfl
  have F4 := fun_mk (st := s_Span__reduced) l4 c4 k4
  have b4 := F4.binds (ps := ["self", "number", "places"])
    fun _ _ _ _ _ _ us hl =>
      match us, hl with | [_, _, _], _ => rfl
  have F5 := fun_mk (st := s_Span_rest) l5 c5 k5
  have b5 := F5.binds (ps := ["self", "number"])
    fun _ _ _ _ _ _ us hl =>
      match us, hl with | [_, _], _ => rfl
  have F6 := fun_mk (st := s_Span_holds) l6 c6 k6
  have b6 := F6.binds (ps := ["self", "number"])
    fun _ _ _ _ _ _ us hl =>
      match us, hl with | [_, _], _ => rfl
  have F7 := fun_mk (st := s_Span_rank) l7 c7 k7
  have b7 := F7.binds (ps := ["self"])
    fun _ _ _ _ _ _ us hl =>
      match us, hl with | [_], _ => rfl
  have F8 := fun_mk (st := s_Span_rows) l8 c8 k8
  have b8 := F8.binds (ps := ["self"])
    fun _ _ _ _ _ _ us hl =>
      match us, hl with | [_], _ => rfl
  have F9 := fun_mk (st := s_Span_add) l9 c9 k9
  have b9 := F9.binds (ps := ["self", "number"])
    fun _ _ _ _ _ _ us hl =>
      match us, hl with | [_, _], _ => rfl
  have F10 : FunD K "__init__" "Span.__init__" (defArgs s_Span_ddinitdd) (defBody s_Span_ddinitdd)
    (defScope s_Span_ddinitdd) [V.ref A10] [] f10 _ :=
    ⟨⟨oc10, od10, .ref T10, kV10, dc10, pm10, an10, cd10, ct10, sl10, rfl, l10, c10,
      .inr ⟨by simp, T10, _, [ad10], _, rfl, lT10, rfl, .cons (by rw [dV10]; rfl) .nil⟩, .inl rfl⟩, k10⟩
  obtain ⟨ds10, r10, b10⟩ := F10.binds1 (ps := ["self", "numbers"]) 2 1 (by simp) rfl
    fun _ _ _ _ _ _ _ us its hl hi => match us, hl, its, hi with
      | [_, _], _, [_], _ => ⟨_, rfl, rfl⟩
  cases r10
  have F11 := fun_mk (st := s_any) l11 c11 k11
  have b11 := F11.binds (ps := ["pen", "powers"])
    fun _ _ _ _ _ _ us hl =>
      match us, hl with | [_, _], _ => rfl
  have F12 := fun_mk (st := s_few_marks) l12 c12 k12
  have b12 := F12.binds (ps := ["pen", "powers"])
    fun _ _ _ _ _ _ us hl =>
      match us, hl with | [_, _], _ => rfl
  have F13 := fun_mk (st := s_number) l13 c13 k13
  have b13 := F13.binds (ps := ["pen", "powers"])
    fun _ _ _ _ _ _ us hl =>
      match us, hl with | [_, _], _ => rfl
  have F14 := fun_mk (st := s_sum) l14 c14 k14
  have b14 := F14.binds (ps := ["numbers"])
    fun _ _ _ _ _ _ us hl =>
      match us, hl with | [_], _ => rfl
  have F15 := fun_mk (st := s_many_numbers) l15 c15 k15
  have b15 := F15.binds (ps := ["pen", "most"])
    fun _ _ _ _ _ _ us hl =>
      match us, hl with | [_, _], _ => rfl
  have F16 := fun_mk (st := s_law) l16 c16 k16
  refine ⟨PySem.W.fnOf "law" "law" (defArgs s_law) (defBody s_law)
    (defScope s_law) .none kV16 dc16 pm16 an16 cd16 ct16,
    fun s v => .of_eq rfl, fun base _ _ => ?_⟩
  have D_top : Dd l.prog w K mg base "top" 1 ["number"] spTop :=
    ⟨_, _, PySem.W.mg_of X G a0, k0, b0, ok_top F0 Z⟩
  have D_draw : Dd l.prog w K mg base "_law_draw" 1 ["pen", "many"] spDraw :=
    ⟨_, _, PySem.W.mg_of X G a1, k1, b1, ok_draw F1 Z⟩
  have D_pen : Dd l.prog w K mg base "_law_pen" 1 ["script"] (spPen K) :=
    ⟨_, _, PySem.W.mg_of X G a2, k2, b2, ok_pen F2 Z⟩
  have D_pick : Dd l.prog w K mg base "_law_pick" 2 ["pen", "some"] (spPick K) :=
    ⟨_, _, PySem.W.mg_of X G a3, k3, b3, ok_pick F3 Z D_draw⟩
  have D_Span__reduced : Dm l.prog w K mg base CS "_reduced" 2 ["self", "number", "places"] (spReduced CS) :=
    ⟨f4, _, ⟨a4, i4, k4⟩, b4, ok_Span__reduced F4 TS D_top⟩
  have D_Span_rest : Dm l.prog w K mg base CS "rest" 3 ["self", "number"] (spRest CS) :=
    ⟨f5, _, ⟨a5, i5, k5⟩, b5, ok_Span_rest F5 TS D_Span__reduced⟩
  have D_Span_holds : Dm l.prog w K mg base CS "holds" 4 ["self", "number"] (spHolds CS) :=
    ⟨f6, _, ⟨a6, i6, k6⟩, b6, ok_Span_holds F6 TS D_Span_rest⟩
  have D_Span_rank : Dm l.prog w K mg base CS "rank" 1 ["self"] (spRank CS) :=
    ⟨f7, _, ⟨a7, i7, k7⟩, b7, ok_Span_rank F7 Z TS⟩
  have D_Span_rows : Dm l.prog w K mg base CS "rows" 1 ["self"] (spRows CS) :=
    ⟨f8, _, ⟨a8, i8, k8⟩, b8, ok_Span_rows F8 TS⟩
  have D_Span_add : Dm l.prog w K mg base CS "add" 3 ["self", "number"] (spAdd CS) :=
    ⟨f9, _, ⟨a9, i9, k9⟩, b9, ok_Span_add F9 Z TS D_top D_Span__reduced⟩
  have D_Span_ddinitdd : Dk l.prog w K mg base CS "Span" 4 ["self", "numbers"] (spInitS K CS) :=
    ⟨f10, _, PySem.W.mg_of X G aC_Span, ⟨mk_Span, a10, i10, kc_Span⟩, b10, ok_Span_ddinitdd F10 TS D_Span_add⟩
  have D_any : Dd l.prog w K mg base "_law_any" 2 ["pen", "powers"] spNum :=
    ⟨_, _, PySem.W.mg_of X G a11, k11, b11, ok_any F11 Z D_draw⟩
  have D_few_marks : Dd l.prog w K mg base "_law_few_marks" 2 ["pen", "powers"] spFew :=
    ⟨_, _, PySem.W.mg_of X G a12, k12, b12, ok_few_marks F12 Z D_draw⟩
  have D_number : Dd l.prog w K mg base "_law_number" 3 ["pen", "powers"] spNumber :=
    ⟨_, _, PySem.W.mg_of X G a13, k13, b13, ok_number F13 Z D_draw D_few_marks D_any⟩
  have D_sum : Dd l.prog w K mg base "_law_sum" 1 ["numbers"] (spXor K) :=
    ⟨_, _, PySem.W.mg_of X G a14, k14, b14, ok_sum F14 Z⟩
  have D_many_numbers : Dd l.prog w K mg base "_law_many_numbers" 3 ["pen", "most"] spMany :=
    ⟨_, _, PySem.W.mg_of X G a15, k15, b15, ok_many_numbers F15 Z D_draw D_pick D_any D_few_marks D_sum⟩
  exact ok_law F16 Z TS D_pen D_draw D_pick D_any D_few_marks D_number D_sum D_many_numbers D_Span_ddinitdd D_Span_rows D_Span_rank D_Span_rest D_Span_holds D_Span_add
end My
open PySem PySem.W PyProof.Rows
set_option maxRecDepth 100000 in
set_option maxHeartbeats 0 in
theorem PySem.Challenge.cw_firstbooks_k29_whole_rests_holds : PySem.Challenge.rw_firstbooks_k29_whole_rests.Holds := by
  w_on; o_law; k_head; (case hw => w_witness2)
  k_fill
  refine My.walkG (l := PySem.Challenge.rw_firstbooks_k29_whole_rests) (n := 63) (k := 6)
    (x := "script") (CX := fun _ => L2.CX0) (sp := fun w => My.spLaw _)
    rfl (by decide) rfl ⟨rfl, by decide, by decide⟩
    (fun w h Y => PySem.W.kIn_of Y) ?F
    (fun w H a ns hl hb _ hS => ⟨a, ns, rfl, hS, hl,
      fun z hz => My.BB.of_bits (hb z hz), fun _ => rfl⟩)
    (fun _ _ _ _ _ h => h)
  case F =>
    intro w mg fa h KX G hmg
    refine' My.all_mk KX G hmg ?aC_Span ?pg_Span ?hd_Span ?po_Span ?sa_Span ?mk_Span ?kc_Span ?n_pairs_Span ?n_added_Span ?a0
      ?l0 ?c0 ?k0 ?a1 ?l1 ?c1 ?k1 ?a2 ?l2 ?c2
      ?k2 ?a3 ?l3 ?c3 ?k3 ?a4 ?i4 ?l4 ?c4 ?k4
      ?a5 ?i5 ?l5 ?c5 ?k5 ?a6 ?i6 ?l6 ?c6 ?k6
      ?a7 ?i7 ?l7 ?c7 ?k7 ?a8 ?i8 ?l8 ?c8 ?k8
      ?a9 ?i9 ?l9 ?c9 ?k9 ?a10 ?i10 ?l10 ?lT10 ?dV10
      ?c10 ?k10 ?a11 ?l11 ?c11 ?k11 ?a12 ?l12 ?c12 ?k12
      ?a13 ?l13 ?c13 ?k13 ?a14 ?l14 ?c14 ?k14 ?a15 ?l15
      ?c15 ?k15 ?a16 ?l16 ?c16 ?k16 ?z_abs ?z_int ?z_isinstance ?z_len
      ?z_max ?z_min ?z_range ?z_sorted
    (case aC_Span => k_is)
    (case pg_Span => k_is)
    (case hd_Span => k_is)
    (case po_Span => k_is)
    (case sa_Span => k_is)
    (case mk_Span => k_is)
    (case kc_Span => k_is)
    (case n_pairs_Span => k_is)
    (case n_added_Span => k_is)
    (case a0 => k_is)
    (case l0 => k_is)
    (case c0 => k_is)
    (case k0 => k_is)
    (case a1 => k_is)
    (case l1 => k_is)
    (case c1 => k_is)
    (case k1 => k_is)
    (case a2 => k_is)
    (case l2 => k_is)
    (case c2 => k_is)
    (case k2 => k_is)
    (case a3 => k_is)
    (case l3 => k_is)
    (case c3 => k_is)
    (case k3 => k_is)
    (case a4 => k_is)
    (case i4 => k_is)
    (case l4 => k_is)
    (case c4 => k_is)
    (case k4 => k_is)
    (case a5 => k_is)
    (case i5 => k_is)
    (case l5 => k_is)
    (case c5 => k_is)
    (case k5 => k_is)
    (case a6 => k_is)
    (case i6 => k_is)
    (case l6 => k_is)
    (case c6 => k_is)
    (case k6 => k_is)
    (case a7 => k_is)
    (case i7 => k_is)
    (case l7 => k_is)
    (case c7 => k_is)
    (case k7 => k_is)
    (case a8 => k_is)
    (case i8 => k_is)
    (case l8 => k_is)
    (case c8 => k_is)
    (case k8 => k_is)
    (case a9 => k_is)
    (case i9 => k_is)
    (case l9 => k_is)
    (case c9 => k_is)
    (case k9 => k_is)
    (case a10 => k_is)
    (case i10 => k_is)
    (case l10 => k_is)
    (case lT10 => k_is)
    (case dV10 => rfl)
    (case c10 => k_is)
    (case k10 => k_is)
    (case a11 => k_is)
    (case l11 => k_is)
    (case c11 => k_is)
    (case k11 => k_is)
    (case a12 => k_is)
    (case l12 => k_is)
    (case c12 => k_is)
    (case k12 => k_is)
    (case a13 => k_is)
    (case l13 => k_is)
    (case c13 => k_is)
    (case k13 => k_is)
    (case a14 => k_is)
    (case l14 => k_is)
    (case c14 => k_is)
    (case k14 => k_is)
    (case a15 => k_is)
    (case l15 => k_is)
    (case c15 => k_is)
    (case k15 => k_is)
    (case a16 => k_is)
    (case l16 => k_is)
    (case c16 => k_is)
    (case k16 => k_is)
    (case z_abs => k_is)
    (case z_int => k_is)
    (case z_isinstance => k_is)
    (case z_len => k_is)
    (case z_max => k_is)
    (case z_min => k_is)
    (case z_range => k_is)
    (case z_sorted => k_is)
