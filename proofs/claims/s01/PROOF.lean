import PyProof.Rows.All
import Wide.All
import OpenK.AllK
import Wide.FinOn
import PyProof.EqAt
import PyProof.EqKinds
import PyProof.TupleCall
import Open.SpecLaws
import KE.KStateDown
import KE.OsHead
import KE.OsShapes
import KE.OsGo
import HandS.ForSpec
import HandS.ForMost
import HandS.TryMany
import HandS.Defaults
import HandS.Evl
import HandS.Deep
import HandS.Flow
import HandS.Codes
import HandS.Walk
import HandS.ExcInit
import HandS.ExcSuper
import HandS.ExcField
import HandS.HeadHook1
import HandS.HeadHook2
import PySem.Challenge.RW_feebooks_s01_answers
import KE.KDictZip
import KE.GoesMore
import HandS.HeadHook4
import HandS.Head4
import HandS.Spec
import HandS.EndTab
import HandS.TupSets
import HandS.SetFor
import HandS.SortInts
import HandS.Lambda
import HandS.CallLocal
import HandS.SortKw
import HandS.Conv
import KE.KSortTupG
import KE.KDictList
import HandS.Nested
-- FB0
set_option Elab.async false
set_option linter.all false
set_option maxRecDepth 100000
set_option maxHeartbeats 3900000
namespace FB
open PySem PySem.Spec PyProof.Rows L2 Evl
def topS (i : Nat) : Stmt := PySem.Challenge.pw_feebooks_s01_answers.main.body.getD i (.Pass ⟨0, 0, 0, 0⟩)
abbrev FnP (K : PySem.W.Frag) (x q : Str) (st : Stmt) (f : Addr) (fd : FuncData) : Prop := FunD K x q (defArgs st) (defBody st) (defScope st) [] [] f fd
end FB
-- FB1
set_option Elab.async false
set_option linter.all false
set_option maxRecDepth 100000
set_option maxHeartbeats 3900000
namespace FB
open PySem PySem.Spec PyProof.Rows L2 Evl
/-- an error class of the program's own, straight over Exception: its object, and how it is found, tested and kept -/
structure OexE (K : PySem.W.Frag) (C : Addr) : Prop where
  cls : ∃ nm q N bs sn sub ab col dd k0 k1 k2 k3 k5, K.lookup C = some (excClassObj nm q C N bs PySem.ESX.exTail true sn sub ab col dd k0 k1 k2 k3 k5 "Exception.__new__")
  found : (PySem.W.keepIn K (.ref C) = true ∧ PySem.W.typeIn K (.ref C) = some (.type "type")) ∧ (PySem.W.subIn K (.ref C) (.type "BaseException") = some true ∧ PySem.W.findIn K (.ref C) "__setattr__" = some (some (.builtin "object.__setattr__")))
section
variable {K : PySem.W.Frag} {C : Addr} (T : OexE K C)
include T
theorem OexE.sa : PySem.W.findIn K (.ref C) "__setattr__" = some (some (.builtin "object.__setattr__")) := T.found.2.2
theorem OexE.exC : PySem.W.subIn K (.ref C) (.type "BaseException") = some true := T.found.2.1
theorem OexE.tyC : PySem.W.typeIn K (.ref C) = some (.type "type") := T.found.1.2
theorem OexE.kC : PySem.W.keepIn K (.ref C) = true := T.found.1.1
end
/-- how a method's call stands as a tree -/
abbrev MTree (X : Cx) (o : Expr) (m : Str) (es : List Expr) (at_ pos : Pos) (pl : Sem Bool) : Prop :=
  eval (.Call (.Attribute o m at_) es [] pos) X.env = (eval o X.env >>= fun v => standAt at_.atName >>= fun _ => holding [v] (getMethod v m pl) >>= fun q => callWith pos q.1 q.2 (backTo pos (starEach es X.env)) (backToKw pos (keywordEach [] X.env)))
/-- what the top has written: built-in names that are free, whole numbers, where each def and class stands -/
structure Tx (K : PySem.W.Frag) (mg : Str → Option Value) : Prop where
  b_len : mg "len" = none
  b_all : mg "all" = none
  b_any : mg "any" = none
  b_dict : mg "dict" = none
  b_zip : mg "zip" = none
  b_enumerate : mg "enumerate" = none
  b_tuple : mg "tuple" = none
  b_set : mg "set" = none
  b_sum : mg "sum" = none
  b_ord : mg "ord" = none
  b_Exception : mg "Exception" = none
  b_min : mg "min" = none
  b_max : mg "max" = none
  b_sorted : mg "sorted" = none
  b_range : mg "range" = none
  c_OPEN : ∃ t, mg "OPEN" = some (.int 0 t)
  c_PAID : ∃ t, mg "PAID" = some (.int 1 t)
  c_LAPSED : ∃ t, mg "LAPSED" = some (.int 2 t)
  c_GIVEN_BACK : ∃ t, mg "GIVEN_BACK" = some (.int 3 t)
  c_ACCOUNTS : ∃ t, mg "ACCOUNTS" = some (.int 20 t)
  c_OWNERS : ∃ t, mg "OWNERS" = some (.int 40 t)
  c_DAYS_WITHOUT_SURCHARGE : ∃ t, mg "DAYS_WITHOUT_SURCHARGE" = some (.int 30 t)
  c_DAYS_BEFORE_LAPSE : ∃ t, mg "DAYS_BEFORE_LAPSE" = some (.int 180 t)
  c_DEPOSIT : ∃ t, mg "DEPOSIT" = some (.int 3 t)
  c_CHARGE : ∃ t, mg "CHARGE" = some (.int 5 t)
  c_BLANK : ∃ t, mg "BLANK" = some (.int 32 t)
  c_LINE_END : ∃ t, mg "LINE_END" = some (.int 10 t)
  c_FIRST_LETTER : ∃ t, mg "FIRST_LETTER" = some (.int 97 t)
  c_LAST_LETTER : ∃ t, mg "LAST_LETTER" = some (.int 122 t)
  c_ZERO : ∃ t, mg "ZERO" = some (.int 48 t)
  c_NINE : ∃ t, mg "NINE" = some (.int 57 t)
  c_MOST_LETTERS : ∃ t, mg "MOST_LETTERS" = some (.int 12 t)
  c_MOST_DIGITS : ∃ t, mg "MOST_DIGITS" = some (.int 9 t)
  c_FIRST_ASKING : ∃ t, mg "FIRST_ASKING" = some (.int 11 t)
  c_MOST_BYTES : ∃ t, mg "MOST_BYTES" = some (.int 2000 t)
  c_LAST_BYTE : ∃ t, mg "LAST_BYTE" = some (.int 255 t)
  c_MOST_ABOVE : ∃ t, mg "MOST_ABOVE" = some (.int 10000 t)
  c_MOST_PERCENT : ∃ t, mg "MOST_PERCENT" = some (.int 100 t)
  c_MOST_FEES : ∃ t, mg "MOST_FEES" = some (.int 12 t)
  c_MOST_SCHEDULES : ∃ t, mg "MOST_SCHEDULES" = some (.int 8 t)
  c_MOST_EVENTS : ∃ t, mg "MOST_EVENTS" = some (.int 60 t)
  c_MOST_LANDS : ∃ t, mg "MOST_LANDS" = some (.int 10 t)
  c_MOST_WEIGHT : ∃ t, mg "MOST_WEIGHT" = some (.int 1000 t)
  g_WHOLE_NUMBERS : mg "WHOLE_NUMBERS" = some (.ref (He.ga K "WHOLE_NUMBERS"))
  g_WITH_LIST : mg "WITH_LIST" = some (.ref (He.ga K "WITH_LIST"))
  g_WITH_TEXT : mg "WITH_TEXT" = some (.ref (He.ga K "WITH_TEXT"))
  g_RANGES : mg "RANGES" = some (.ref (He.ga K "RANGES"))
  g_KEPT_WORDS : mg "KEPT_WORDS" = some (.ref (He.ga K "KEPT_WORDS"))
  g_TELLERS : mg "TELLERS" = some (.ref (He.ga K "TELLERS"))
  g_TAKERS : mg "TAKERS" = some (.ref (He.ga K "TAKERS"))
  g_ASKERS : mg "ASKERS" = some (.ref (He.ga K "ASKERS"))
  t_KEPT_WORDS : ∀ H, SqT K H (He.ga K "KEPT_WORDS") [.str "fee", .str "above", .str "late", .str "small", .str "shared"]
  t_WITH_LIST : ∀ H, SqT K H (He.ga K "WITH_LIST") [.int 0, .int 2, .int 5, .int 16]
  t_WITH_TEXT : ∀ H, SqT K H (He.ga K "WITH_TEXT") [.int 0, .int 5, .int 16]
  d_Charge___init__ : ∃ fd, FnP K "__init__" "Charge.__init__" (inClass (topS 9) 0) (He.ma K (He.ga K "Charge") "__init__") fd
  d_Books___init__ : ∃ fd, FnP K "__init__" "Books.__init__" (inClass (topS 10) 0) (He.ma K (He.ga K "Books") "__init__") fd
  g_rest_of : mg "rest_of" = some (.ref (He.ga K "rest_of"))
  d_rest_of : ∃ fd, FnP K "rest_of" "rest_of" (topS 11) (He.ga K "rest_of") fd
  g_open_charges : mg "open_charges" = some (.ref (He.ga K "open_charges"))
  d_open_charges : ∃ fd, FnP K "open_charges" "open_charges" (topS 12) (He.ga K "open_charges") fd
  g_open_charges_of : mg "open_charges_of" = some (.ref (He.ga K "open_charges_of"))
  d_open_charges_of : ∃ fd, FnP K "open_charges_of" "open_charges_of" (topS 13) (He.ga K "open_charges_of") fd
  g_kept : mg "kept" = some (.ref (He.ga K "kept"))
  d_kept : ∃ fd, FnP K "kept" "kept" (topS 14) (He.ga K "kept") fd
  g_pot_of : mg "pot_of" = some (.ref (He.ga K "pot_of"))
  d_pot_of : ∃ fd, FnP K "pot_of" "pot_of" (topS 15) (He.ga K "pot_of") fd
  g_schedule_in_force : mg "schedule_in_force" = some (.ref (He.ga K "schedule_in_force"))
  d_schedule_in_force : ∃ fd, FnP K "schedule_in_force" "schedule_in_force" (topS 17) (He.ga K "schedule_in_force") fd
  g_fee_in_force : mg "fee_in_force" = some (.ref (He.ga K "fee_in_force"))
  d_fee_in_force : ∃ fd, FnP K "fee_in_force" "fee_in_force" (topS 18) (He.ga K "fee_in_force") fd
  g_price_of : mg "price_of" = some (.ref (He.ga K "price_of"))
  d_price_of : ∃ fd, FnP K "price_of" "price_of" (topS 19) (He.ga K "price_of") fd
  d_Event___init__ : ∃ fd, FnP K "__init__" "Event.__init__" (inClass (topS 23) 0) (He.ma K (He.ga K "Event") "__init__") fd
  d_Record___init__ : ∃ fd, FnP K "__init__" "Record.__init__" (inClass (topS 24) 0) (He.ma K (He.ga K "Record") "__init__") fd
  g_target_refusal : mg "target_refusal" = some (.ref (He.ga K "target_refusal"))
  d_target_refusal : ∃ fd, FnP K "target_refusal" "target_refusal" (topS 25) (He.ga K "target_refusal") fd
  g_event_order : mg "event_order" = some (.ref (He.ga K "event_order"))
  d_event_order : ∃ fd, FnP K "event_order" "event_order" (topS 26) (He.ga K "event_order") fd
  g_events_in_order : mg "events_in_order" = some (.ref (He.ga K "events_in_order"))
  d_events_in_order : ∃ fd, FnP K "events_in_order" "events_in_order" (topS 27) (He.ga K "events_in_order") fd
  g_pay_from_credit : mg "pay_from_credit" = some (.ref (He.ga K "pay_from_credit"))
  d_pay_from_credit : ∃ fd, FnP K "pay_from_credit" "pay_from_credit" (topS 29) (He.ga K "pay_from_credit") fd
  g_pay_from_account : mg "pay_from_account" = some (.ref (He.ga K "pay_from_account"))
  d_pay_from_account : ∃ fd, FnP K "pay_from_account" "pay_from_account" (topS 30) (He.ga K "pay_from_account") fd
  g_settle_charge : mg "settle_charge" = some (.ref (He.ga K "settle_charge"))
  d_settle_charge : ∃ fd, FnP K "settle_charge" "settle_charge" (topS 31) (He.ga K "settle_charge") fd
  g_settle : mg "settle" = some (.ref (He.ga K "settle"))
  d_settle : ∃ fd, FnP K "settle" "settle" (topS 32) (He.ga K "settle") fd
  g_lapse : mg "lapse" = some (.ref (He.ga K "lapse"))
  d_lapse : ∃ fd, FnP K "lapse" "lapse" (topS 33) (He.ga K "lapse") fd
  g_add_surcharge : mg "add_surcharge" = some (.ref (He.ga K "add_surcharge"))
  d_add_surcharge : ∃ fd, FnP K "add_surcharge" "add_surcharge" (topS 34) (He.ga K "add_surcharge") fd
  g_pass_time : mg "pass_time" = some (.ref (He.ga K "pass_time"))
  d_pass_time : ∃ fd, FnP K "pass_time" "pass_time" (topS 35) (He.ga K "pass_time") fd
  g_take_deposit : mg "take_deposit" = some (.ref (He.ga K "take_deposit"))
  d_take_deposit : ∃ fd, FnP K "take_deposit" "take_deposit" (topS 36) (He.ga K "take_deposit") fd
  g_take_bounce : mg "take_bounce" = some (.ref (He.ga K "take_bounce"))
  d_take_bounce : ∃ fd, FnP K "take_bounce" "take_bounce" (topS 37) (He.ga K "take_bounce") fd
  g_take_charge : mg "take_charge" = some (.ref (He.ga K "take_charge"))
  d_take_charge : ∃ fd, FnP K "take_charge" "take_charge" (topS 38) (He.ga K "take_charge") fd
  g_take_payment : mg "take_payment" = some (.ref (He.ga K "take_payment"))
  d_take_payment : ∃ fd, FnP K "take_payment" "take_payment" (topS 39) (He.ga K "take_payment") fd
  g_take_order : mg "take_order" = some (.ref (He.ga K "take_order"))
  d_take_order : ∃ fd, FnP K "take_order" "take_order" (topS 40) (He.ga K "take_order") fd
  g_take_refund : mg "take_refund" = some (.ref (He.ga K "take_refund"))
  d_take_refund : ∃ fd, FnP K "take_refund" "take_refund" (topS 41) (He.ga K "take_refund") fd
  g_shares_of : mg "shares_of" = some (.ref (He.ga K "shares_of"))
  d_shares_of : ∃ fd, FnP K "shares_of" "shares_of" (topS 42) (He.ga K "shares_of") fd
  g_take_closing : mg "take_closing" = some (.ref (He.ga K "take_closing"))
  d_take_closing : ∃ fd, FnP K "take_closing" "take_closing" (topS 43) (He.ga K "take_closing") fd
  g_take : mg "take" = some (.ref (He.ga K "take"))
  d_take : ∃ fd, FnP K "take" "take" (topS 45) (He.ga K "take") fd
  g_days_of_change : mg "days_of_change" = some (.ref (He.ga K "days_of_change"))
  d_days_of_change : ∃ fd, FnP K "days_of_change" "days_of_change" (topS 46) (He.ga K "days_of_change") fd
  g_take_day : mg "take_day" = some (.ref (He.ga K "take_day"))
  d_take_day : ∃ fd, FnP K "take_day" "take_day" (topS 47) (He.ga K "take_day") fd
  g_books_on : mg "books_on" = some (.ref (He.ga K "books_on"))
  d_books_on : ∃ fd, FnP K "books_on" "books_on" (topS 48) (He.ga K "books_on") fd
  g_spelled : mg "spelled" = some (.ref (He.ga K "spelled"))
  d_spelled : ∃ fd, FnP K "spelled" "spelled" (topS 59) (He.ga K "spelled") fd
  g_split_words : mg "split_words" = some (.ref (He.ga K "split_words"))
  d_split_words : ∃ fd, FnP K "split_words" "split_words" (topS 60) (He.ga K "split_words") fd
  g_is_name : mg "is_name" = some (.ref (He.ga K "is_name"))
  d_is_name : ∃ fd, FnP K "is_name" "is_name" (topS 61) (He.ga K "is_name") fd
  g_is_number : mg "is_number" = some (.ref (He.ga K "is_number"))
  d_is_number : ∃ fd, FnP K "is_number" "is_number" (topS 62) (He.ga K "is_number") fd
  g_number_of : mg "number_of" = some (.ref (He.ga K "number_of"))
  d_number_of : ∃ fd, FnP K "number_of" "number_of" (topS 63) (He.ga K "number_of") fd
  g_ask_account : mg "ask_account" = some (.ref (He.ga K "ask_account"))
  d_ask_account : ∃ fd, FnP K "ask_account" "ask_account" (topS 65) (He.ga K "ask_account") fd
  g_ask_charged : mg "ask_charged" = some (.ref (He.ga K "ask_charged"))
  d_ask_charged : ∃ fd, FnP K "ask_charged" "ask_charged" (topS 66) (He.ga K "ask_charged") fd
  g_ask_owner : mg "ask_owner" = some (.ref (He.ga K "ask_owner"))
  d_ask_owner : ∃ fd, FnP K "ask_owner" "ask_owner" (topS 67) (He.ga K "ask_owner") fd
  g_ask_land : mg "ask_land" = some (.ref (He.ga K "ask_land"))
  d_ask_land : ∃ fd, FnP K "ask_land" "ask_land" (topS 68) (He.ga K "ask_land") fd
  g_ask_totals : mg "ask_totals" = some (.ref (He.ga K "ask_totals"))
  d_ask_totals : ∃ fd, FnP K "ask_totals" "ask_totals" (topS 69) (He.ga K "ask_totals") fd
  g_ask_price : mg "ask_price" = some (.ref (He.ga K "ask_price"))
  d_ask_price : ∃ fd, FnP K "ask_price" "ask_price" (topS 70) (He.ga K "ask_price") fd
  g_ask_text : mg "ask_text" = some (.ref (He.ga K "ask_text"))
  d_ask_text : ∃ fd, FnP K "ask_text" "ask_text" (topS 71) (He.ga K "ask_text") fd
  g_ask_events : mg "ask_events" = some (.ref (He.ga K "ask_events"))
  d_ask_events : ∃ fd, FnP K "ask_events" "ask_events" (topS 72) (He.ga K "ask_events") fd
  g_ask_owed : mg "ask_owed" = some (.ref (He.ga K "ask_owed"))
  d_ask_owed : ∃ fd, FnP K "ask_owed" "ask_owed" (topS 73) (He.ga K "ask_owed") fd
  g_ask_opened : mg "ask_opened" = some (.ref (He.ga K "ask_opened"))
  d_ask_opened : ∃ fd, FnP K "ask_opened" "ask_opened" (topS 74) (He.ga K "ask_opened") fd
  g_ask : mg "ask" = some (.ref (He.ga K "ask"))
  d_ask : ∃ fd, FnP K "ask" "ask" (topS 76) (He.ga K "ask") fd
  d_Call___init__ : ∃ fd, FnP K "__init__" "Call.__init__" (inClass (topS 85) 0) (He.ma K (He.ga K "Call") "__init__") fd
  g_split_calls : mg "split_calls" = some (.ref (He.ga K "split_calls"))
  d_split_calls : ∃ fd, FnP K "split_calls" "split_calls" (topS 86) (He.ga K "split_calls") fd
  g_in_range : mg "in_range" = some (.ref (He.ga K "in_range"))
  d_in_range : ∃ fd, FnP K "in_range" "in_range" (topS 87) (He.ga K "in_range") fd
  g_numbers_stand : mg "numbers_stand" = some (.ref (He.ga K "numbers_stand"))
  d_numbers_stand : ∃ fd, FnP K "numbers_stand" "numbers_stand" (topS 88) (He.ga K "numbers_stand") fd
  g_bytes_stand : mg "bytes_stand" = some (.ref (He.ga K "bytes_stand"))
  d_bytes_stand : ∃ fd, FnP K "bytes_stand" "bytes_stand" (topS 89) (He.ga K "bytes_stand") fd
  d_ScheduleFault___init__ : ∃ fd, FnP K "__init__" "ScheduleFault.__init__" (inClass (topS 93) 0) (He.ma K (He.ga K "ScheduleFault") "__init__") fd
  d_Fee___init__ : ∃ fd, FnP K "__init__" "Fee.__init__" (inClass (topS 94) 0) (He.ma K (He.ga K "Fee") "__init__") fd
  d_Schedule___init__ : ∃ fd, FnP K "__init__" "Schedule.__init__" (inClass (topS 95) 0) (He.ma K (He.ga K "Schedule") "__init__") fd
  d_Reader___init__ : ∃ fd, FnP K "__init__" "Reader.__init__" (inClass (topS 96) 0) (He.ma K (He.ga K "Reader") "__init__") fd
  d_Reader_ended : ∃ fd, FnP K "ended" "Reader.ended" (inClass (topS 96) 1) (He.ma K (He.ga K "Reader") "ended") fd
  m_Reader_ended : Meth K (He.ga K "Reader") "ended" (He.ma K (He.ga K "Reader") "ended")
  d_Reader_peek : ∃ fd, FnP K "peek" "Reader.peek" (inClass (topS 96) 2) (He.ma K (He.ga K "Reader") "peek") fd
  m_Reader_peek : Meth K (He.ga K "Reader") "peek" (He.ma K (He.ga K "Reader") "peek")
  d_Reader_here : ∃ fd, FnP K "here" "Reader.here" (inClass (topS 96) 3) (He.ma K (He.ga K "Reader") "here") fd
  m_Reader_here : Meth K (He.ga K "Reader") "here" (He.ma K (He.ga K "Reader") "here")
  d_Reader_leave : ∃ fd, FnP K "leave" "Reader.leave" (inClass (topS 96) 4) (He.ma K (He.ga K "Reader") "leave") fd
  m_Reader_leave : Meth K (He.ga K "Reader") "leave" (He.ma K (He.ga K "Reader") "leave")
  g_take_word : mg "take_word" = some (.ref (He.ga K "take_word"))
  d_take_word : ∃ fd, FnP K "take_word" "take_word" (topS 97) (He.ga K "take_word") fd
  g_take_name : mg "take_name" = some (.ref (He.ga K "take_name"))
  d_take_name : ∃ fd, FnP K "take_name" "take_name" (topS 98) (He.ga K "take_name") fd
  g_take_number : mg "take_number" = some (.ref (He.ga K "take_number"))
  d_take_number : ∃ fd, FnP K "take_number" "take_number" (topS 99) (He.ga K "take_number") fd
  g_take_option : mg "take_option" = some (.ref (He.ga K "take_option"))
  d_take_option : ∃ fd, FnP K "take_option" "take_option" (topS 100) (He.ga K "take_option") fd
  g_take_shared : mg "take_shared" = some (.ref (He.ga K "take_shared"))
  d_take_shared : ∃ fd, FnP K "take_shared" "take_shared" (topS 101) (He.ga K "take_shared") fd
  g_take_fee : mg "take_fee" = some (.ref (He.ga K "take_fee"))
  d_take_fee : ∃ fd, FnP K "take_fee" "take_fee" (topS 102) (He.ga K "take_fee") fd
  g_read_fees : mg "read_fees" = some (.ref (He.ga K "read_fees"))
  d_read_fees : ∃ fd, FnP K "read_fees" "read_fees" (topS 103) (He.ga K "read_fees") fd
  g_has_name_twice : mg "has_name_twice" = some (.ref (He.ga K "has_name_twice"))
  d_has_name_twice : ∃ fd, FnP K "has_name_twice" "has_name_twice" (topS 104) (He.ga K "has_name_twice") fd
  g_keep_schedule : mg "keep_schedule" = some (.ref (He.ga K "keep_schedule"))
  d_keep_schedule : ∃ fd, FnP K "keep_schedule" "keep_schedule" (topS 111) (He.ga K "keep_schedule") fd
  g_tell_schedule : mg "tell_schedule" = some (.ref (He.ga K "tell_schedule"))
  d_tell_schedule : ∃ fd, FnP K "tell_schedule" "tell_schedule" (topS 112) (He.ga K "tell_schedule") fd
  g_tell_small : mg "tell_small" = some (.ref (He.ga K "tell_small"))
  d_tell_small : ∃ fd, FnP K "tell_small" "tell_small" (topS 113) (He.ga K "tell_small") fd
  g_tell_lands : mg "tell_lands" = some (.ref (He.ga K "tell_lands"))
  d_tell_lands : ∃ fd, FnP K "tell_lands" "tell_lands" (topS 114) (He.ga K "tell_lands") fd
  g_tell_event : mg "tell_event" = some (.ref (He.ga K "tell_event"))
  d_tell_event : ∃ fd, FnP K "tell_event" "tell_event" (topS 115) (He.ga K "tell_event") fd
  g_has_follower : mg "has_follower" = some (.ref (He.ga K "has_follower"))
  d_has_follower : ∃ fd, FnP K "has_follower" "has_follower" (topS 116) (He.ga K "has_follower") fd
  g_tell_bounce : mg "tell_bounce" = some (.ref (He.ga K "tell_bounce"))
  d_tell_bounce : ∃ fd, FnP K "tell_bounce" "tell_bounce" (topS 117) (He.ga K "tell_bounce") fd
  g_tell_charge : mg "tell_charge" = some (.ref (He.ga K "tell_charge"))
  d_tell_charge : ∃ fd, FnP K "tell_charge" "tell_charge" (topS 118) (He.ga K "tell_charge") fd
  g_tell_refund : mg "tell_refund" = some (.ref (He.ga K "tell_refund"))
  d_tell_refund : ∃ fd, FnP K "tell_refund" "tell_refund" (topS 119) (He.ga K "tell_refund") fd
  g_tell_undo : mg "tell_undo" = some (.ref (He.ga K "tell_undo"))
  d_tell_undo : ∃ fd, FnP K "tell_undo" "tell_undo" (topS 120) (He.ga K "tell_undo") fd
  g_tell : mg "tell" = some (.ref (He.ga K "tell"))
  d_tell : ∃ fd, FnP K "tell" "tell" (topS 122) (He.ga K "tell") fd
  g_answer_to : mg "answer_to" = some (.ref (He.ga K "answer_to"))
  d_answer_to : ∃ fd, FnP K "answer_to" "answer_to" (topS 124) (He.ga K "answer_to") fd
  g_answers : mg "answers" = some (.ref (He.ga K "answers"))
  d_answers : ∃ fd, FnP K "answers" "answers" (topS 125) (He.ga K "answers") fd
  g_Charge : mg "Charge" = some (.ref (He.ga K "Charge"))
  k_Charge : Cls K (He.ga K "Charge")
  i_Charge : Mk K (He.ga K "Charge") (He.ma K (He.ga K "Charge") "__init__")
  n_Charge_number : NoAttr K (He.ga K "Charge") "number"
  n_Charge_day : NoAttr K (He.ga K "Charge") "day"
  n_Charge_owner : NoAttr K (He.ga K "Charge") "owner"
  n_Charge_base : NoAttr K (He.ga K "Charge") "base"
  n_Charge_late : NoAttr K (He.ga K "Charge") "late"
  n_Charge_shared : NoAttr K (He.ga K "Charge") "shared"
  n_Charge_surcharge : NoAttr K (He.ga K "Charge") "surcharge"
  n_Charge_paid : NoAttr K (He.ga K "Charge") "paid"
  n_Charge_state : NoAttr K (He.ga K "Charge") "state"
  g_Books : mg "Books" = some (.ref (He.ga K "Books"))
  k_Books : Cls K (He.ga K "Books")
  i_Books : Mk K (He.ga K "Books") (He.ma K (He.ga K "Books") "__init__")
  n_Books_accounts : NoAttr K (He.ga K "Books") "accounts"
  n_Books_credit : NoAttr K (He.ga K "Books") "credit"
  n_Books_sources : NoAttr K (He.ga K "Books") "sources"
  n_Books_charges : NoAttr K (He.ga K "Books") "charges"
  n_Books_handed : NoAttr K (He.ga K "Books") "handed"
  n_Books_came_in : NoAttr K (He.ga K "Books") "came_in"
  n_Books_given_back : NoAttr K (He.ga K "Books") "given_back"
  g_Event : mg "Event" = some (.ref (He.ga K "Event"))
  k_Event : Cls K (He.ga K "Event")
  i_Event : Mk K (He.ga K "Event") (He.ma K (He.ga K "Event") "__init__")
  n_Event_kind : NoAttr K (He.ga K "Event") "kind"
  n_Event_number : NoAttr K (He.ga K "Event") "number"
  n_Event_day : NoAttr K (He.ga K "Event") "day"
  n_Event_account : NoAttr K (He.ga K "Event") "account"
  n_Event_source : NoAttr K (He.ga K "Event") "source"
  n_Event_owner : NoAttr K (He.ga K "Event") "owner"
  n_Event_amount : NoAttr K (He.ga K "Event") "amount"
  n_Event_units : NoAttr K (He.ga K "Event") "units"
  n_Event_about : NoAttr K (He.ga K "Event") "about"
  n_Event_name : NoAttr K (He.ga K "Event") "name"
  g_Record : mg "Record" = some (.ref (He.ga K "Record"))
  k_Record : Cls K (He.ga K "Record")
  i_Record : Mk K (He.ga K "Record") (He.ma K (He.ga K "Record") "__init__")
  n_Record_schedules : NoAttr K (He.ga K "Record") "schedules"
  n_Record_small : NoAttr K (He.ga K "Record") "small"
  n_Record_weights : NoAttr K (He.ga K "Record") "weights"
  n_Record_events : NoAttr K (He.ga K "Record") "events"
  g_Call : mg "Call" = some (.ref (He.ga K "Call"))
  k_Call : Cls K (He.ga K "Call")
  i_Call : Mk K (He.ga K "Call") (He.ma K (He.ga K "Call") "__init__")
  n_Call_number : NoAttr K (He.ga K "Call") "number"
  n_Call_told : NoAttr K (He.ga K "Call") "told"
  n_Call_row : NoAttr K (He.ga K "Call") "row"
  g_ScheduleFault : mg "ScheduleFault" = some (.ref (He.ga K "ScheduleFault"))
  x_ScheduleFault : OexE K (He.ga K "ScheduleFault")
  xf_ScheduleFault : XfC K (He.ga K "ScheduleFault")
  xi_ScheduleFault : PySem.W.findIn K (.ref (He.ga K "ScheduleFault")) "__init__" = some (some (.ref (He.ma K (He.ga K "ScheduleFault") "__init__")))
  xt_ScheduleFault : PySem.W.typeIn K (.ref (He.ma K (He.ga K "ScheduleFault") "__init__")) = some (.type "function")
  xm_ScheduleFault : PySem.W.exmOne K (.ref (He.ga K "ScheduleFault")) (.ref (He.ga K "ScheduleFault")) = some true
  n_ScheduleFault_place : PySem.W.findIn K (.ref (He.ga K "ScheduleFault")) "place" = some none
  g_Fee : mg "Fee" = some (.ref (He.ga K "Fee"))
  k_Fee : Cls K (He.ga K "Fee")
  i_Fee : Mk K (He.ga K "Fee") (He.ma K (He.ga K "Fee") "__init__")
  n_Fee_name : NoAttr K (He.ga K "Fee") "name"
  n_Fee_amount : NoAttr K (He.ga K "Fee") "amount"
  n_Fee_above : NoAttr K (He.ga K "Fee") "above"
  n_Fee_late : NoAttr K (He.ga K "Fee") "late"
  n_Fee_small : NoAttr K (He.ga K "Fee") "small"
  n_Fee_shared : NoAttr K (He.ga K "Fee") "shared"
  g_Schedule : mg "Schedule" = some (.ref (He.ga K "Schedule"))
  k_Schedule : Cls K (He.ga K "Schedule")
  i_Schedule : Mk K (He.ga K "Schedule") (He.ma K (He.ga K "Schedule") "__init__")
  n_Schedule_day : NoAttr K (He.ga K "Schedule") "day"
  n_Schedule_text : NoAttr K (He.ga K "Schedule") "text"
  n_Schedule_fees : NoAttr K (He.ga K "Schedule") "fees"
  g_Reader : mg "Reader" = some (.ref (He.ga K "Reader"))
  k_Reader : Cls K (He.ga K "Reader")
  i_Reader : Mk K (He.ga K "Reader") (He.ma K (He.ga K "Reader") "__init__")
  n_Reader_words : NoAttr K (He.ga K "Reader") "words"
  n_Reader_length : NoAttr K (He.ga K "Reader") "length"
  n_Reader_at : NoAttr K (He.ga K "Reader") "at"
/-- a def of the top keeps its promise, and is found by its name -/
structure Own (P : Program) (w : World) (K : PySem.W.Frag) (mg : Str → Option Value) (base : Heap) (CX : CXT) (k : Nat) (x : Str) (ps : List Str) (sp : Sp) : Prop where
  ex : ∃ fd, FnOk P w K mg base CX k (He.ga K x) fd ps sp ∧ Binds K fd ps []
  gm : mg x = some (.ref (He.ga K x))
  kp : PySem.W.keepIn K (.ref (He.ga K x)) = true
/-- a method of a class of the top -/
structure OwnM (P : Program) (w : World) (K : PySem.W.Frag) (mg : Str → Option Value) (base : Heap) (CX : CXT) (k : Nat) (c m : Str) (ps : List Str) (sp : Sp) : Prop where
  ex : ∃ fd, FnOk P w K mg base CX k (He.ma K (He.ga K c) m) fd ps sp ∧ Binds K fd ps []
  cl : Cls K (He.ga K c)
  me : Meth K (He.ga K c) m (He.ma K (He.ga K c) m)
/-- a class of the top: its __init__ -/
structure OwnC (P : Program) (w : World) (K : PySem.W.Frag) (mg : Str → Option Value) (base : Heap) (k : Nat) (c : Str) (ps : List Str) (sp : Sp) : Prop where
  ex : ∃ fd, FnOk P w K mg base CX0 k (He.ma K (He.ga K c) "__init__") fd ps sp ∧ Binds K fd ps []
  gm : mg c = some (.ref (He.ga K c))
  mks : Mk K (He.ga K c) (He.ma K (He.ga K c) "__init__")
section
variable {X : Cx} {CX : CXT} {j k : Nat} {x c m : Str} {ps : List Str} {sp : Sp} {E : XK} {e o : Expr} {es : List Expr} {t : TA} {ta : TE} {p pos apos : Pos}
theorem pe_own (C : Own X.prog X.w X.K X.mg X.base CX k x ps sp) (hr : Room j X.A) (hj : k ≤ j) (hx : Passes CX X E) (ha : PA X (e :: es) t) (hg : Gl X x := by rfl) (hdb : (x == ("__debug__" : Str)) = false := by decide)
    (he : starEach (e :: es) X.env = (false, eval e X.env) :: starEach es X.env := by rfl) (hpl : (backTo pos (starEach es X.env)).any (·.1) = false := by rfl) : PE X (.Call (.Name x p) (e :: es) [] pos) (tCall sp [] E t) := by
  obtain ⟨⟨fd, F, b⟩, gm, kp⟩ := C
  exact pe_call F (hr.mono hj) hg gm kp b .nil hx ha hdb he hpl
theorem pe_ownM {pl : Sem Bool} (C : OwnM X.prog X.w X.K X.mg X.base CX k c m ps sp) (ho : PE X o ta) (hr : Room j X.A) (hj : k ≤ j) (hx : Passes CX X E) (ha : PA X (e :: es) t) (hst : starEach (e :: es) X.env = (false, eval e X.env) :: starEach es X.env := by rfl)
    (hpl : (backTo pos (starEach es X.env)).any (·.1) = false := by rfl)
    (ht : MTree X o m (e :: es) apos pos pl := by rfl) :
    PE X (.Call (.Attribute o m apos) (e :: es) [] pos) (tMeth (He.ga X.K c) m sp [] E ta t) := by
  obtain ⟨⟨fd, F, b⟩, cl, me⟩ := C
  exact pe_meth ho cl me F (hr.mono hj) b .nil hx ha hst hpl ht
theorem pe_ownM0 {pl : Sem Bool} (C : OwnM X.prog X.w X.K X.mg X.base CX k c m ps sp) (ho : PE X o ta) (hr : Room j X.A) (hj : k ≤ j) (hx : Passes CX X E)
    (ht : MTree X o m [] apos pos pl := by rfl) :
    PE X (.Call (.Attribute o m apos) [] [] pos) (tMeth (He.ga X.K c) m sp [] E ta tNil) := by
  obtain ⟨⟨fd, F, b⟩, cl, me⟩ := C
  exact pe_meth0 ho cl me F (hr.mono hj) b .nil hx ht
theorem pe_ownMk (C : OwnC X.prog X.w X.K X.mg X.base k c ps sp) (hr : Room j X.A) (hj : k + 1 ≤ j) (hx : Passes CX0 X E) (ha : PA X (e :: es) t) (hg : Gl X c := by rfl) (hdb : (c == ("__debug__" : Str)) = false := by decide)
    (he : starEach (e :: es) X.env = (false, eval e X.env) :: starEach es X.env := by rfl) (hpl : (backTo pos (starEach es X.env)).any (·.1) = false := by rfl) : PE X (.Call (.Name c p) (e :: es) [] pos) (tMake (He.ga X.K c) sp [] E t) := by
  obtain ⟨⟨fd, F, b⟩, gm, mk⟩ := C
  exact pe_make mk F (hr.mono hj) hg gm b .nil hx ha hdb he hpl
theorem pe_ownMk0 (C : OwnC X.prog X.w X.K X.mg X.base k c ps sp) (hr : Room j X.A) (hj : k + 1 ≤ j) (hx : Passes CX0 X E) (hg : Gl X c := by rfl) (hdb : (c == ("__debug__" : Str)) = false := by decide) : PE X (.Call (.Name c p) [] [] pos) (tMake (He.ga X.K c) sp [] E tNil) := by
  obtain ⟨⟨fd, F, b⟩, gm, mk⟩ := C
  exact pe_make0 mk F (hr.mono hj) hg gm b .nil hx hdb
theorem pe_cint {i : Int} (h : ∃ t, X.mg x = some (.int i t)) (hg : Gl X x := by rfl) (hd : (x == ("__debug__" : Str)) = false := by decide) : PE X (.Name x pos) (tC (.int i)) := by
  obtain ⟨t, h⟩ := h
  exact pe_glob hg h ⟨t, rfl⟩ hd
theorem pe_cref {a : Addr} (h : X.mg x = some (.ref a)) (hg : Gl X x := by rfl) (hd : (x == ("__debug__" : Str)) = false := by decide) : PE X (.Name x pos) (tC (.ref a)) := pe_glob (v := .ref a) hg h rfl hd
/-! the same where the written part is told by a letter (within a comprehension the reading must not hang on the block) -/
theorem pe_fldK {K : PySem.W.Frag} {f : Str} (hK : X.K = K) (he : PE X o ta) (hb : attributeBase o f X.env (eval o X.env) = eval o X.env) : PE X (.Attribute o f pos) (tFld K ta f) := by
  subst hK
  exact pe_fld he hb
theorem call_lenK {K : PySem.W.Frag} (hK : X.K = K) : CallR X (.builtin "len") (fun xs H Q => ∃ p ys, xs = [.ref p] ∧ (SqL K H p ys ∨ SqT K H p ys) ∧ Q (.int ys.length) H) := by
  subst hK
  exact call_len_seq
def rTupOf (K : PySem.W.Frag) : List V → Hp → VK → Prop := fun xs H Q => ∃ p ys, xs = [.ref p] ∧ ((SqL K H p ys ∧ ∀ l, H l = none → Q (.ref l) (upd H l (.tup ys))) ∨ (SqT K H p ys ∧ Q (.ref p) H))
theorem call_tupleK {K : PySem.W.Frag} (hK : X.K = K) : CallR X (.type "tuple") (rTupOf K) := by
  subst hK
  exact call_tuple_of
theorem ix_listK {K : PySem.W.Frag} (hK : X.K = K) : IxR X (rIxL K) := by
  subst hK
  exact ix_list
theorem ix_tupK {K : PySem.W.Frag} (hK : X.K = K) : IxR X (rIxT K) := by
  subst hK
  exact ix_tup
theorem op_in_seqK {K : PySem.W.Frag} (hK : X.K = K) : OpR X (compareOp .In) (rIn K false) := by
  subst hK
  exact op_in_seq
theorem op_notIn_seqK {K : PySem.W.Frag} (hK : X.K = K) : OpR X (compareOp .NotIn) (rIn K true) := by
  subst hK
  exact op_notIn_seq
theorem op_inDp (hr : Room j X.A) : OpR X (compareOp .In) (rInD X.K) := op_inD (by have := hr.un; omega)
theorem op_notInDp (hr : Room j X.A) : OpR X (compareOp .NotIn) (rNotInD X.K) := op_notInD (by have := hr.un; omega)
end
section
variable {P : Program} {w : World} {K : PySem.W.Frag} {mg : Str → Option Value} {base : Heap} {CX : CXT} {k : Nat} {x q c m : Str} {st : Stmt} {ps : List Str} {sp : Sp}
/-- binds of a plain def: every parameter is given -/
abbrev PB (x q : Str) (st : Stmt) (ps : List Str) : Prop := ∀ (kV doc pm : Value) (an : Option Addr) (cdv ct : Value) (us : List Value), us.length = ps.length → bindArgs (PySem.W.fnOf x q (defArgs st) (defBody st) (defScope st) .none kV doc pm an cdv ct) ⟨us, []⟩ = pure (ps.zip us)
theorem own_mk (d : ∃ fd, FnP K x q st (He.ga K x) fd) (g : mg x = some (.ref (He.ga K x))) (b : PB x q st ps) (h : ∀ fd, FnP K x q st (He.ga K x) fd → FnOk P w K mg base CX k (He.ga K x) fd ps sp) : Own P w K mg base CX k x ps sp := by
  obtain ⟨fd, F⟩ := d
  exact ⟨⟨fd, h fd F, F.bindsN b⟩, g, F.kp⟩
theorem ownM_mk (d : ∃ fd, FnP K m q st (He.ma K (He.ga K c) m) fd) (cl : Cls K (He.ga K c)) (me : Meth K (He.ga K c) m (He.ma K (He.ga K c) m)) (b : PB m q st ps) (h : ∀ fd, FnP K m q st (He.ma K (He.ga K c) m) fd → FnOk P w K mg base CX k (He.ma K (He.ga K c) m) fd ps sp) :
    OwnM P w K mg base CX k c m ps sp := by
  obtain ⟨fd, F⟩ := d
  exact ⟨⟨fd, h fd F, F.bindsN b⟩, cl, me⟩
theorem ownC_mk (d : ∃ fd, FnP K "__init__" q st (He.ma K (He.ga K c) "__init__") fd) (g : mg c = some (.ref (He.ga K c))) (mk : Mk K (He.ga K c) (He.ma K (He.ga K c) "__init__")) (b : PB "__init__" q st ps)
    (h : ∀ fd, FnP K "__init__" q st (He.ma K (He.ga K c) "__init__") fd → FnOk P w K mg base CX0 k (He.ma K (He.ga K c) "__init__") fd ps sp) : OwnC P w K mg base k c ps sp := by
  obtain ⟨fd, F⟩ := d
  exact ⟨⟨fd, h fd F, F.bindsN b⟩, g, mk⟩
end
/-! lists -/
theorem map_at {α : Type} {g : α → V} {l : List α} {i : Nat} {y : V} (h : (l.map g)[i]? = some y) : ∃ z, l[i]? = some z ∧ y = g z := by
  rw [List.getElem?_map] at h
  cases e : l[i]? with
  | none =>
    rw [e] at h
    cases h
  | some z =>
    rw [e] at h
    exact ⟨z, rfl, (Option.some.inj h).symm⟩
theorem take_one {α : Type} {l : List α} {i : Nat} {x : α} (h : l[i]? = some x) : l.take (i + 1) = l.take i ++ [x] := by
  rw [List.take_add_one, h]
  rfl
end FB
-- FB2
set_option Elab.async false
set_option linter.all false
set_option maxRecDepth 100000
set_option maxHeartbeats 3900000
namespace FB
open PySem PySem.Spec PyProof.Rows L2 Evl
/-! ### further words over Evl: what is walked, comprehensions whose items are told by a property, all and any -/
section
variable {K : PySem.W.Frag} {σ : L2.St} {H H' : Hp} {ta tb te tl tx : TE} {t u : TT} {x y z v : V} {wi : TI}
/-- evaluates to something of which Pr holds -/
def EvP (te : TE) (σ : L2.St) (H : Hp) (Pr : V → Hp → Prop) : Prop := ∀ H1, Ex H H1 → ∀ Q : VK, (∀ v H2, Ex H1 H2 → Pr v H2 → Q v H2) → te σ H1 Q
theorem EvP.mono {Pr : V → Hp → Prop} (e : Ex H H') (h : EvP te σ H Pr) : EvP te σ H' Pr := fun H1 a Q q => h H1 (e.trans a) Q q
theorem ep_of (h : Ev te σ H v) : EvP te σ H (fun x _ => x = v) := fun H1 e Q q => h H1 e Q fun H2 e2 => q v H2 e2 rfl
theorem ep_L {xs : List V} (h : EvL te σ H xs) : EvP te σ H (fun x H' => ∃ p, x = .ref p ∧ H' p = some (.lst xs)) := fun H1 e Q q => h H1 e Q fun p H2 _ e2 h2 => q _ H2 e2 ⟨p, rfl, h2⟩
/-- n turns; the i-th item is one of it i; nothing is made on the way -/
def EvI (wi : TI) (σ : L2.St) (H : Hp) (n : Nat) (it : Nat → V → Prop) : Prop :=
  ∀ H1, Ex H H1 → ∀ R : It → Hp → Prop, (∀ J H2 G, Ex H1 H2 → Walk J n G (fun i H x H' => H' = H ∧ it i x) → (∀ H3, Ex H2 H3 → G H3) → R J H2) → wi σ H1 R
theorem ei_list {a : Addr} {xs : List V} (h : Ev tl σ H (.ref a)) (hx : SqL K H a xs) : EvI (iList K tl) σ H xs.length (fun i x => xs[i]? = some x) := fun H1 e R q =>
  h H1 e _ fun H2 e2 => ⟨a, rfl, ⟨xs, ex_l (e.trans e2) hx⟩, q _ H2 _ e2 walk_list fun H3 e3 => ex_l ((e.trans e2).trans e3) hx⟩
theorem ei_tup {a : Addr} {xs : List V} (h : Ev tl σ H (.ref a)) (hx : SqT K H a xs) : EvI (iTup K tl) σ H xs.length (fun i x => xs[i]? = some x) := fun H1 e R q =>
  h H1 e _ fun H2 e2 => ⟨a, rfl, ⟨xs, ex_t (e.trans e2) hx⟩, q _ H2 _ e2 walk_tup fun H3 e3 => ex_t ((e.trans e2).trans e3) hx⟩
theorem ei_str {s : Str} (h : Ev tl σ H (.str s)) : EvI (iStr tl) σ H s.cps.size (fun i x => ∃ c, s.cps[i]? = some c ∧ x = .str ⟨#[c]⟩) := fun H1 e R q =>
  h H1 e _ fun H2 e2 => ⟨s, rfl, q _ H2 (fun _ => True) e2 walk_str fun _ _ => trivial⟩
/-- a comprehension over it, each item's value known -/
theorem el_it {j n : Nat} {vs : List Nat} {it : Nat → V → Prop} (f : Nat → Bool) (v : Nat → V) (hi : EvI wi σ H n it) (hz : n ≤ 40000) (hw : ∀ x, wipe ((wipe σ vs).set j (some x)) vs = wipe σ vs)
    (ht : ∀ (i : Nat) (x : V) H1, Ex H H1 → i < n → it i x → EvT t ((wipe σ vs).set j (some x)) H1 (f i)) (he : ∀ (i : Nat) (x : V) H1, Ex H H1 → i < n → it i x → f i = true → Ev te ((wipe σ vs).set j (some x)) H1 (v i)) :
    EvL (tLc wi (gName j) t te vs) σ H (given n f v) := fun H0 e Q q => hi H0 e _ fun J H1 G e1 w hG Dl hD =>
  lc_it w (Cw H1 f v Dl) ⟨hD, Ex.new hD, upd_same⟩ (fun i H' _ p => hG H' p.2.1) (fun i x H' H'' hi p y => by
    obtain ⟨rfl, y⟩ := y
    exact ⟨hw x, cw_turn p (by omega) (ht i x H1 (e.trans e1) hi y) (fun hf => he i x H1 (e.trans e1) hi y hf)⟩) (fun H' p => q Dl H' (fresh_back e1 p.1) (e1.trans p.2.1) p.2.2)
theorem given_all (n : Nat) (v : Nat → V) : given n (fun _ => true) v = (List.range n).map v := by
  unfold given
  congr 1
  exact List.filter_eq_self.mpr fun _ _ => rfl
theorem et_yes : EvT tYes σ H true := fun H1 _ _ q => q H1 (Ex.refl H1)
/-- the same over a list of things that V's stand for -/
theorem el_map {α : Type} {j : Nat} {vs : List Nat} {it : Nat → V → Prop} {l : List α} (g h : α → V) (hi : EvI wi σ H l.length it) (hg : ∀ i x, it i x → (l.map g)[i]? = some x) (hz : l.length ≤ 40000) (hw : ∀ x, wipe ((wipe σ vs).set j (some x)) vs = wipe σ vs)
    (he : ∀ (a : α) H1, Ex H H1 → a ∈ l → Ev te ((wipe σ vs).set j (some (g a))) H1 (h a)) : EvL (tLc wi (gName j) tYes te vs) σ H (l.map h) := by
  have key := el_it (t := tYes) (te := te) (j := j) (vs := vs) (fun _ => true) (fun i => ((l.map h)[i]?).getD .non) hi hz hw (fun _ _ _ _ _ _ => et_yes) (fun i x H1 e hi y _ => by
    obtain ⟨a, ha, rfl⟩ := map_at (hg i x y)
    have e1 : (l.map h)[i]? = some (h a) := by
      rw [List.getElem?_map, ha]
      rfl
    rw [e1]
    exact he a H1 e (List.mem_of_getElem? ha))
  rw [given_all] at key
  have e2 : (List.range l.length).map (fun i => ((l.map h)[i]?).getD .non) = l.map h := by
    apply List.ext_getElem?
    intro i
    rw [List.getElem?_map]
    by_cases c : i < l.length
    · rw [List.getElem?_range c, Option.map_some]
      have : i < (l.map h).length := by rw [List.length_map]; exact c
      rw [List.getElem?_eq_getElem this]
      rfl
    · rw [List.getElem?_eq_none (by rw [List.length_range]; omega), List.getElem?_eq_none (by rw [List.length_map]; omega)]
      rfl
  rw [e2] at key
  exact key
/-- evaluates to something of which Pr holds, told by the heap ahead and the heap behind -/
def EvQ (te : TE) (σ : L2.St) (H : Hp) (Pr : V → Hp → Hp → Prop) : Prop := ∀ H1, Ex H H1 → ∀ Q : VK, (∀ v H2, Ex H1 H2 → Pr v H1 H2 → Q v H2) → te σ H1 Q
theorem eq_L {xs : List V} (h : EvL te σ H xs) : EvQ te σ H (fun x H1 H2 => ∃ p, x = .ref p ∧ H1 p = none ∧ H2 p = some (.lst xs)) := fun H1 e Q q => h H1 e Q fun p H2 hp e2 h2 => q _ H2 e2 ⟨p, rfl, hp, h2⟩
theorem eq_U {xs : List V} (h : EvU te σ H xs) : EvQ te σ H (fun x H1 H2 => ∃ p, x = .ref p ∧ H1 p = none ∧ H2 p = some (.tup xs)) := fun H1 e Q q => h H1 e Q fun p H2 hp e2 h2 => q _ H2 e2 ⟨p, rfl, hp, h2⟩
theorem eq_V (h : Ev te σ H v) : EvQ te σ H (fun x _ _ => x = v) := fun H1 e Q q => h H1 e Q fun H2 e2 => q _ H2 e2 rfl
/-- all but D stands -/
def ExB (D : Addr) (H H' : Hp) : Prop := ∀ b o, b ≠ D → H b = some o → H' b = some o
/-- a comprehension whose items are told by a relation that leans on nothing at the new list's own place -/
def EvR {α : Type} (te : TE) (σ : L2.St) (H : Hp) (Pr : α → V → Addr → Hp → Prop) (l : List α) : Prop :=
  ∀ H1, Ex H H1 → ∀ Q : VK, (∀ p xs H2, H1 p = none → Ex H1 H2 → H2 p = some (.lst xs) → Paired (fun a v => Pr a v p H2) l xs → Q (.ref p) H2) → te σ H1 Q
theorem er_map {α : Type} {j : Nat} {vs : List Nat} {it : Nat → V → Prop} {l : List α} {P0 : α → V → Hp → Hp → Prop} {Pr : α → V → Addr → Hp → Prop} (g : α → V) (h0 : ∀ a v H1 H2 D, H1 D ≠ none → Ex H H1 → H D = none → P0 a v H1 H2 → Pr a v D H2)
    (hm : ∀ a v D H H', ExB D H H' → Pr a v D H → Pr a v D H') (hi : EvI wi σ H l.length it) (hg : ∀ i x, it i x → (l.map g)[i]? = some x)
    (hz : l.length ≤ 40000) (hw : ∀ x, wipe ((wipe σ vs).set j (some x)) vs = wipe σ vs) (he : ∀ (a : α) H1, Ex H H1 → a ∈ l → EvQ te ((wipe σ vs).set j (some (g a))) H1 (P0 a)) : EvR (tLc wi (gName j) tYes te vs) σ H Pr l := fun H0 e Q q =>
  hi H0 e _ fun J H1 G e1 w hG Dl hD => by
    refine lc_it w (fun i H' => Ex H1 H' ∧ ∃ acc, H' Dl = some (.lst acc) ∧ acc.length = i ∧ Paired (fun a v => Pr a v Dl H') (l.take i) acc) ⟨Ex.new hD, [], upd_same, rfl, .nil⟩ (fun i H' _ p => hG H' p.1) (fun i x H' H'' hi p y => ?_) (fun H' p => ?_)
    · obtain ⟨rfl, y⟩ := y
      obtain ⟨p1, acc, p2, p3, p4⟩ := p
      obtain ⟨a, ha, rfl⟩ := map_at (hg i x y)
      refine ⟨hw _, ?_⟩
      show te _ H'' _
      refine he a H'' ((e.trans e1).trans p1) (List.mem_of_getElem? ha) H'' (Ex.refl _) _ fun v H4 e4 hv => ⟨acc, e4 _ _ p2, sz_lt (by omega), ?_⟩
      have e5 : Ex H1 (upd H4 Dl (.lst (acc ++ [v]))) := Ex.mut (p1.trans e4) hD
      have e6 : ExB Dl H4 (upd H4 Dl (.lst (acc ++ [v]))) := fun b o hb h => by
        rw [upd_ne hb]
        exact h
      refine ⟨e5, _, upd_same, by rw [List.length_append, p3]; rfl, ?_⟩
      rw [take_one ha]
      refine Paired.snoc (Paired.mono (fun a v h => hm a v Dl _ _ (fun b o hb h => e6 b o hb (e4 b o h)) h) p4) (hm a v Dl _ _ e6 (h0 a v H'' H4 Dl (by rw [p2]; exact fun z => nomatch z) ((e.trans e1).trans p1) (fresh_back (e.trans e1) hD) hv))
    · obtain ⟨p1, acc, p2, p3, p4⟩ := p
      rw [List.take_length] at p4
      exact q Dl acc H' (fresh_back e1 hD) (e1.trans p1) p2 p4
/-- all, any of a new list of truths; sum -/
theorem ev_allN {bs : List Bool} (h : EvL te σ H (bs.map V.bl)) : Ev (tCB (rAll K) (tCons te tNil)) σ H (.bl (bs.all id)) := fun H1 e Q q => h H1 e _ fun p H2 _ e2 h2 => ⟨p, bs, rfl, sq_of h2, q H2 e2⟩
theorem ev_anyN {bs : List Bool} (h : EvL te σ H (bs.map V.bl)) : Ev (tCB (rAny K) (tCons te tNil)) σ H (.bl (bs.any id)) := fun H1 e Q q => h H1 e _ fun p H2 _ e2 h2 => ⟨p, bs, rfl, sq_of h2, q H2 e2⟩
theorem ev_sumL {a : Addr} {ns : List Int} (h : Ev te σ H (.ref a)) (hs : SqL K H a (ns.map V.int)) : Ev (tCB (rSum K) (tCons te tNil)) σ H (.int ns.sum) := fun H1 e Q q => h H1 e _ fun H2 e2 => ⟨a, ns, rfl, ex_l (e.trans e2) hs, q H2 e2⟩
/-- len(xs) by the hand layer's own word -/
theorem ev_lenL {a : Addr} {xs : List V} (h : Ev te σ H (.ref a)) (hs : SqL K H a xs) : Ev (tCB (fun vs H Q => ∃ p ys, vs = [.ref p] ∧ (SqL K H p ys ∨ SqT K H p ys) ∧ Q (.int ys.length) H) (tCons te tNil)) σ H (.int xs.length) := fun H1 e Q q =>
  h H1 e _ fun H2 e2 => ⟨a, xs, rfl, .inl (ex_l (e.trans e2) hs), q H2 e2⟩
theorem ev_lenT {a : Addr} {xs : List V} (h : Ev te σ H (.ref a)) (hs : SqT K H a xs) : Ev (tCB (fun vs H Q => ∃ p ys, vs = [.ref p] ∧ (SqL K H p ys ∨ SqT K H p ys) ∧ Q (.int ys.length) H) (tCons te tNil)) σ H (.int xs.length) := fun H1 e Q q =>
  h H1 e _ fun H2 e2 => ⟨a, xs, rfl, .inr (ex_t (e.trans e2) hs), q H2 e2⟩
/-- a <= b <= c of whole numbers -/
theorem ev_chain {p q : Int → Int → Bool} {i j l : Int} {tc : TE} (ha : Ev ta σ H (.int i)) (hb : Ev tb σ H (.int j)) (hc : Ev tc σ H (.int l)) :
    Ev (tChain (rI0 fun i j => .bl (p i j)) (rI0 fun i j => .bl (q i j)) ta tb tc) σ H (.bl (p i j && q j l)) := fun H1 e Q k =>
  ha H1 e _ fun H2 e2 => hb H2 (e.trans e2) _ fun H3 e3 => ⟨i, j, rfl, rfl, p i j, rfl, by
    cases hp : p i j with
    | true =>
      rw [hp, Bool.true_and] at k
      show tc σ H3 _
      exact hc H3 ((e.trans e2).trans e3) _ fun H4 e4 => ⟨j, l, rfl, rfl, k H4 ((e2.trans e3).trans e4)⟩
    | false =>
      rw [hp, Bool.false_and] at k
      show Q (.bl false) H3
      exact k H3 (e2.trans e3)⟩
/-! lists of whole numbers as data -/
def dInts (ns : List Int) : PyData := .list (ns.map PyData.int)
theorem dpAll_ints : ∀ ns : List Int, DpAll K H (ns.map V.int) (ns.map PyData.int)
  | [] => .nil
  | n :: r => .cons (.int n) (dpAll_ints r)
theorem dp_ints {a : Addr} {ns : List Int} (h : SqL K H a (ns.map V.int)) : Dp K H (.ref a) (dInts ns) := .lst h (dpAll_ints ns)
theorem ints_can : ∀ ns : List Int, PyData.canLayAll0 (ns.map PyData.int) = true
  | [] => rfl
  | n :: r => by
    show (PyData.canLay0 (.int n) && PyData.canLayAll0 (r.map PyData.int)) = true
    rw [ints_can r]
    rfl
theorem ints_depth : ∀ ns : List Int, PyData.depthAll (ns.map PyData.int) = 0
  | [] => rfl
  | n :: r => by
    show max (PyData.depth (.int n)) (PyData.depthAll (r.map PyData.int)) = 0
    rw [ints_depth r]
    rfl
theorem ints_shaped (ns : List Int) : SeqAt.shaped (dInts ns) = true := by
  have h1 : PyData.canLay0 (dInts ns) = true := ints_can ns
  have h2 : PyData.depth (dInts ns) = 1 := by
    show PyData.depthAll (ns.map PyData.int) + 1 = 1
    rw [ints_depth]
  show (PyData.canLay0 (dInts ns) && decide (PyData.depth (dInts ns) ≤ 64)) = true
  rw [h1, h2]
  rfl
theorem ints_eqvAll : ∀ ns ms : List Int, PyData.eqvAll (ns.map PyData.int) (ms.map PyData.int) = decide (ns = ms)
  | [], [] => rfl
  | [], m :: s => rfl
  | n :: r, [] => rfl
  | n :: r, m :: s => by
    show (PyData.eqv (.int n) (.int m) && PyData.eqvAll (r.map PyData.int) (s.map PyData.int)) = _
    rw [ints_eqvAll r s]
    show ((n == m) && decide (r = s)) = decide (n :: r = m :: s)
    by_cases h1 : n = m <;> by_cases h2 : r = s <;> simp [h1, h2]
theorem ints_eqv (ns ms : List Int) : PyData.eqv (dInts ns) (dInts ms) = decide (ns = ms) := ints_eqvAll ns ms
theorem rv_neInts {a b : Addr} {ns ms : List Int} (ha : SqL K H a (ns.map V.int)) (hb : SqL K H b (ms.map V.int)) : RV (rNeD K) (.ref a) (.ref b) H (.bl (!decide (ns = ms))) := fun H1 e Q q =>
  ⟨dInts ns, dInts ms, dp_ints (ex_l e ha), dp_ints (ex_l e hb), ints_shaped ns, ints_shaped ms, by
    rw [ints_eqv]
    exact q H1 (Ex.refl H1)⟩
theorem rv_eqInts {a b : Addr} {ns ms : List Int} (ha : SqL K H a (ns.map V.int)) (hb : SqL K H b (ms.map V.int)) : RV (rEqD K) (.ref a) (.ref b) H (.bl (decide (ns = ms))) := fun H1 e Q q =>
  ⟨dInts ns, dInts ms, dp_ints (ex_l e ha), dp_ints (ex_l e hb), ints_shaped ns, ints_shaped ms, by
    rw [ints_eqv]
    exact q H1 (Ex.refl H1)⟩
theorem dec_int (i j : Int) : decide (V.int i = V.int j) = decide (i = j) := by
  by_cases h : i = j
  · rw [h, decide_eq_true rfl, decide_eq_true rfl]
  · rw [decide_eq_false h, decide_eq_false (fun q => h (V.int.inj q))]
theorem rv_eqI {i j : Int} : RV rEq (.int i) (.int j) H (.bl (decide (i = j))) := by
  rw [← dec_int]
  exact rv_eq rfl
theorem rv_neI {i j : Int} : RV rNe (.int i) (.int j) H (.bl (!decide (i = j))) := by
  rw [← dec_int]
  exact rv_ne rfl
theorem ev_opR {α : Type} {r : R2} {Pr : α → V → Addr → Hp → Prop} {l : List α} (ha : Ev ta σ H x) (hb : EvR tb σ H Pr l) (hr : ∀ p xs H1, Ex H H1 → H1 p = some (.lst xs) → Paired (fun a v => Pr a v p H1) l xs → RV r x (.ref p) H1 z) : Ev (tOp r ta tb) σ H z := fun H1 e Q q =>
  ha H1 e _ fun H2 e2 => hb H2 (e.trans e2) _ fun p xs H3 _ e3 hp hs => hr p xs H3 ((e.trans e2).trans e3) hp hs H3 (Ex.refl H3) Q fun H4 e4 => q H4 ((e2.trans e3).trans e4)
/-- a list of lists of whole numbers as data -/
def dLists (ls : List (List Int)) : PyData := .list (ls.map dInts)
theorem lists_shaped (ls : List (List Int)) : SeqAt.shaped (dLists ls) = true := by
  have h1 : ∀ l : List (List Int), PyData.canLayAll0 (l.map dInts) = true := fun l => by
    induction l with
    | nil => rfl
    | cons a r ih =>
      show (PyData.canLay0 (dInts a) && PyData.canLayAll0 (r.map dInts)) = true
      rw [ih, show PyData.canLay0 (dInts a) = true from ints_can a]
      rfl
  have h2 : ∀ l : List (List Int), PyData.depthAll (l.map dInts) ≤ 1 := fun l => by
    induction l with
    | nil => exact Nat.zero_le _
    | cons a r ih =>
      show max (PyData.depthAll (a.map PyData.int) + 1) (PyData.depthAll (r.map dInts)) ≤ 1
      rw [ints_depth]
      omega
  show (PyData.canLayAll0 (ls.map dInts) && decide (PyData.depthAll (ls.map dInts) + 1 ≤ 64)) = true
  rw [h1, decide_eq_true (by have := h2 ls; omega)]
  rfl
theorem dpAll_lists : ∀ {ls : List (List Int)} {xs : List V}, Paired (fun l v => ∃ p, v = V.ref p ∧ SqL K H p (l.map V.int)) ls xs → DpAll K H xs (ls.map dInts)
  | _, _, .nil => .nil
  | _, _, .cons h t => by
    obtain ⟨p, rfl, hp⟩ := h
    exact .cons (dp_ints hp) (dpAll_lists t)
theorem lists_any (ls : List (List Int)) (l : List Int) : ((ls.map dInts).any fun z => PyData.eqv z (dInts l)) = ls.any fun z => decide (z = l) := by
  rw [List.any_map]
  congr 1
  funext z
  exact ints_eqv z l
/-- (x, [..]): a new pair of a value and a new list -/
theorem eq_pairL {xs : List V} (ha : Ev ta σ H x) (hb : EvL tb σ H xs) : EvQ (tTup (tCons ta (tCons tb tNil))) σ H (fun v H1 H2 => ∃ t l, v = .ref t ∧ H1 t = none ∧ H1 l = none ∧ H2 t = some (.tup [x, .ref l]) ∧ H2 l = some (.lst xs)) := fun H1 e Q q =>
  ha H1 e _ fun H2 e2 => hb H2 (e.trans e2) _ fun l H3 hl e3 h3 => ⟨by show 2 ≤ sizeLine; decide, fun t ht => q _ _ ((e2.trans e3).trans (Ex.new ht)) ⟨t, l, rfl, fresh_back (e2.trans e3) ht, fresh_back e2 hl, upd_same, (Ex.new ht) l _ h3⟩⟩
/-- l.append(e), e told by what is ahead and behind -/
theorem s_appQ {l : Addr} {acc : List V} {Pr : V → Hp → Hp → Prop} {D : Ends} (hl : H l = some (.lst acc)) (ha : Ev ta σ H (.ref l)) (h : EvQ te σ H Pr) (hz : acc.length < sizeLine) (k : ∀ v H1 H2, Ex H H1 → Ex H1 H2 → Pr v H1 H2 → D.nx σ (upd H2 l (.lst (acc ++ [v])))) :
    tDrop (tBM K "list" rAppend ta (tCons te tNil)) D σ H := by
  refine ha H (Ex.refl H) _ fun H1 e1 => ?_
  exact ⟨Or.inl ⟨rfl, acc, sq_of (e1 l _ hl)⟩, h H1 e1 _ fun v H2 e2 hv => ⟨l, acc, v, rfl, rfl, e2 l _ (e1 l _ hl), hz, k v H1 H2 e1 e2 hv⟩⟩
theorem q_appQ {l : Addr} {acc : List V} {Pr : V → Hp → Hp → Prop} {D : Ends} {tz : TS} (hl : H l = some (.lst acc)) (ha : Ev ta σ H (.ref l)) (h : EvQ te σ H Pr) (hz : acc.length < sizeLine) (k : ∀ v H1 H2, Ex H H1 → Ex H1 H2 → Pr v H1 H2 → tz D σ (upd H2 l (.lst (acc ++ [v])))) :
    tSeq (tDrop (tBM K "list" rAppend ta (tCons te tNil))) tz D σ H := s_appQ (D := { D with nx := tz D }) hl ha h hz k
theorem cut_map {α : Type} (g : α → V) (l : List α) (i j : Nat) (h1 : i ≤ j) (h2 : j ≤ l.length) : cutV (l.map g) (some (i : Int)) (some (j : Int)) = ((l.drop i).take (j - i)).map g := by
  unfold cutV
  rw [HT.sIx_nat, HT.sIx_nat, List.length_map, Nat.min_eq_left (Nat.le_trans h1 h2), Nat.min_eq_left h2, List.map_take, List.map_drop]
theorem cut_mapE {α : Type} (g : α → V) (l : List α) (i : Nat) (h1 : i ≤ l.length) : cutV (l.map g) (some (i : Int)) none = (l.drop i).map g := by
  unfold cutV
  rw [HT.sIx_nat, HT.sIx_none, List.length_map, Nat.min_eq_left h1, List.map_drop, List.take_of_length_le]
  rw [List.length_drop, List.length_map]
  exact Nat.le_refl _
/-- o.f -/
theorem ev_fld {a C dx : Addr} {fs : List (Str × V)} {f : Str} (h : Ev ta σ H (.ref a)) (ho : H a = some (.ins C dx fs)) (hc : Cls K C) (hn : NoAttr K C f) (hl : fs.lookup f = some v) : Ev (tFld K ta f) σ H v := fun H1 e Q q =>
  h H1 e _ fun H2 e2 => ⟨a, C, dx, fs, v, rfl, e2 _ _ (e _ _ ho), hc, hn, hl, q H2 e2⟩
/-- o.m(..) that gives v and leaves all as it was -/
theorem ev_meth {a C dx : Addr} {fs : List (Str × V)} {m : Str} {sp : Sp} {E : XK} {t : TA} {vs : List V} (h : Ev ta σ H (.ref a)) (ho : H a = some (.ins C dx fs)) (hl : fs.lookup m = none) (ht : EvA t σ H vs) (hs : SpV sp (.ref a :: vs) H v) : Ev (tMeth C m sp [] E ta t) σ H v := fun H1 e Q q =>
  h H1 e _ fun H2 e2 => ⟨a, dx, fs, rfl, e2 _ _ (e _ _ ho), hl, ht H2 (e.trans e2) _ fun H3 e3 => by
    show sp (.ref a :: vs ++ []) H3 Q E
    rw [List.append_nil]
    exact hs H3 ((e.trans e2).trans e3) Q (fun H4 e4 => q H4 ((e2.trans e3).trans e4)) E⟩
/-- xs[i] of a list, its place known -/
theorem ev_item {p : Addr} {xs : List V} {i : Nat} (ha : Ev ta σ H (.ref p)) (hb : Ev tb σ H (.int (i : Nat))) (h : SqL K H p xs) (hi : xs[i]? = some v) : Ev (tOp (rIxL K) ta tb) σ H v := ev_op ha hb (rv_ixL h (atI_nat hi))
theorem ev_itemT {p : Addr} {xs : List V} {i : Nat} (ha : Ev ta σ H (.ref p)) (hb : Ev tb σ H (.int (i : Nat))) (h : SqT K H p xs) (hi : xs[i]? = some v) : Ev (tOp (rIxT K) ta tb) σ H v := ev_op ha hb (rv_ixT h (atI_nat hi))
theorem rv_cmp {p : Int → Int → Bool} {i j : Int} : RV (rI0 fun i j => .bl (p i j)) (.int i) (.int j) H (.bl (p i j)) := rv_I0
theorem atI_cons0 {x : V} {xs : List V} : atI (x :: xs) 0 = some x := atI_nat (xs := x :: xs) (j := 0) rfl
end
end FB
-- FBX
set_option Elab.async false
set_option linter.all false
set_option maxRecDepth 100000
set_option maxHeartbeats 3900000
namespace FB
open PySem PySem.Spec PyProof.Rows L2 Evl
/-! ### an own error class straight over Exception whose __init__ says Exception.__init__(self, v); self.f = v -/
section
variable {X : Cx} {pins : List (Addr × Obj)} {σ : L2.St} {H : Hp} {s : Shared} {a C : Addr} {f : Str} {y : V} {u : Value} {Q : Unit → Shared → Prop} {E : Value → Shared → Prop} {A : Around}
theorem st_first (T : OexE X.K C) (J : Inv X pins σ H s) (ea : H a = some (exo a C none)) (na : PySem.W.findIn X.K (.ref C) f = some none) (ry : RelV y u)
    (k : ∀ dx s', H dx = none → dx ≠ a → Inv X pins σ (upd (upd H dx (exd dx [(f, y)])) a (exo a C (some dx))) s' → Q () s') : wpAny (model X.prog X.w) A (setAttr (.ref a) f u) Q E s := by
  obtain ⟨nm, qn, N, bs, sn, sub, ab, col, dd, k0, k1, k2, k3, k5, hC⟩ := T.cls
  have hcd : PySem.W.clsIn X.K C = some { name := nm, bases := bs, mro := .ref C :: PySem.ESX.exTail, ns := N, qualname := qn, hasDict := true, slotNames := sn, subclasses := sub, abstract := ab, collection := col, hasDel := false } := by
    unfold PySem.W.clsIn
    rw [hC] <;> rfl
  obtain ⟨t1, hx0⟩ := exo_at J.hok ea
  obtain ⟨hp0, g0, d0, t0, os0⟩ := s
  refine PySem.W.set_plain J.kIn (ox := { cls := .ref C, dict := none, data := .fields #[.ref t1, .none, .none, .none, .bool false, .none] }) (od := none) ⟨hx0, rfl, rfl, trivial⟩ T.sa ?_
  refine PySem.ESX.osa_new J.kIn hx0 hcd rfl rfl na (fun h' tk' dx kp dn dne hx hn => ?_)
  have hfr : H dx = none := J.hok.fresh dn
  have ndx : ∀ {b : Addr} {o : Obj}, hp0.get? b = some o → b ≠ dx := fun {b o} z => Nat.ne_of_lt (Nat.lt_of_lt_of_le (Heap.lt_size z) dn)
  have nea : ∀ {b : Addr}, H b = none → b ≠ a := fun {b} n z => by
    rw [z, ea] at n
    cases n
  have un : Un X.fs [] H (upd (upd H dx (exd dx [(f, y)])) a (exo a C (some dx))) hp0 h' := by
    refine ⟨fun b o z n _ _ => kp b o (nea n) z, fun b o z n _ _ => ⟨o.slots, kp b o (nea n) z⟩, fun b o z n _ => ?_, fun b o z _ => ?_, fun b xs z => ?_, fun b o v z => ?_, fun b ps z => ⟨#[], ?_⟩⟩
    · rw [upd_ne (nea n), upd_ne (ndx z), n]
    · by_cases hb : b = a
      · rw [hb]
        exact ⟨_, hx⟩
      · exact ⟨o, kp b o hb z⟩
    · rw [upd_ne (at_ne ea z exo_tup), upd_ne (ne_of_none z hfr), z]
    · rw [upd_ne (at_ne ea z exo_frz), upd_ne (ne_of_none z hfr), z]
    · rw [upd_ne (at_ne ea z exo_tbl), upd_ne (ne_of_none z hfr), z]
      simp
  refine k dx _ hfr dne (J.un (t' := tk') un fun b o z => ?_)
  by_cases hb : b = a
  · subst hb
    rw [upd_same] at z
    cases z
    exact exo_ok hx
  · rw [upd_ne hb] at z
    by_cases hd : b = dx
    · subst hd
      rw [upd_same] at z
      cases z
      refine exd_ok hn (relO_put (fs := []) ry fun _ => ?_)
      trivial
    · rw [upd_ne hd] at z
      refine (J.hok b o z).stay (fun c v hc q => kp c v ?_ q) (fun c hc => ?_) (fun c xs hc => ?_)
      · rcases hc with hc | hc
        · rw [hc]
          exact hb
        · exact at_ne ea hc exo_own
      · rw [upd_ne (at_ne ea hc exo_own), upd_ne (ne_of_none hc hfr), hc]
      · rw [upd_ne (at_ne ea hc exo_tup), upd_ne (ne_of_none hc hfr), hc]
/-- Exception.__init__(self, ..): nothing of it is told -/
theorem exinit_ok {us : List Value} {R : Value → Shared → Prop} (T : OexE X.K C) (J : Inv X pins σ H s) (ea : H a = some (exo a C none)) (hl : us.length ≤ sizeLine) (k : ∀ s', Inv X pins σ H s' → R .none s') :
    wpAny (model X.prog X.w) A (call (.builtin "Exception.__init__") (.ref a :: us)) R E s := by
  obtain ⟨nm, qn, N, bs, sn, sub, ab, col, dd, k0, k1, k2, k3, k5, hC⟩ := T.cls
  obtain ⟨t1, hx0⟩ := exo_at J.hok ea
  obtain ⟨hp0, g0, d0, t0, os0⟩ := s
  refine wpAny_call (PySem.HandSPX.init_base PySem.F.excBase_Exception (fun _ => rfl) (J.kIn _ _ hC) hx0 hl fun h' t2 kp hx => ?_)
  have J2 := J.write (t' := t0) (x := a) (e := a) (o := exo a C none) (by rw [ea]; trivial) (.inl rfl) kp ⟨_, hx⟩ (exo_ok hx)
  have eu : upd H a (exo a C none) = H := funext fun b => by
    by_cases hb : b = a
    · rw [hb, upd_same, ea]
    · rw [upd_ne hb]
  rw [eu] at J2
  exact k _ J2
end
/-- Exception.__init__(self, ..) -/
def tExI (K : PySem.W.Frag) (ta : TA) : TE := fun σ H Q => ta σ H fun vs H1 => ∃ (a C : Addr) (ws : List V), vs = .ref a :: ws ∧ ws.length ≤ 1000 ∧ OexE K C ∧ H1 a = some (exo a C none) ∧ Q .non H1
/-- self.f = e, the first field -/
def tExF (K : PySem.W.Frag) (f : Str) (to te : TE) : TS := fun D σ H => te σ H fun y H1 => to σ H1 fun x H2 => ∃ a C : Addr, x = .ref a ∧ OexE K C ∧ PySem.W.findIn K (.ref C) f = some none ∧
  H2 a = some (exo a C none) ∧ ∀ dx, H2 dx = none → dx ≠ a → D.nx σ (upd (upd H2 dx (exd dx [(f, y)])) a (exo a C (some dx)))
theorem typ_Ex : typeOf (.type "Exception") = pure (.type "type") := by kernel_rfl
section
variable {X : Cx} {f : Str} {es : List Expr} {e o : Expr} {pos p p' p1 p2 : Pos} {ta : TA} {te to : TE}
theorem pe_exinit {pl : Sem Bool} (hm : X.mg "Exception" = none) (vV : PySem.W.findCls X.K (.type "Exception") (.type "type") "__init__" = some (.val (.builtin "Exception.__init__"))) (ha : PA X (e :: es) ta) (hg : Gl X "Exception" := by rfl)
    (hc : MTree X (.Name "Exception" p1) "__init__" (e :: es) p2 pos pl := by rfl) (hpl : (backTo pos (starEach es X.env)).any (fun q => q.1) = false := by rfl)
    (he : starEach (e :: es) X.env = (false, eval e X.env) :: starEach es X.env := by rfl) :
    PE X (.Call (.Attribute (.Name "Exception" p1) "__init__" p2) (e :: es) [] pos) (tExI X.K ta) := by
  refine ⟨fun pins s σ H Q J h => ?_⟩
  refine PySem.W.methodCall_KW (ld_blt J hg hm (by decide +kernel : bootBuiltins "Exception" = some (.type "Exception")) ?_ (by decide) (by decide)) hc
  obtain ⟨m, fr⟩ := J.fr
  refine PySem.W.method_type fr J.ok.mod.kin typ_Ex (by decide +kernel) vV (by decide +kernel) ?_
  show wpAny _ _ (callWith pos (Value.builtin "Exception.__init__") [] (backTo pos (starEach (e :: es) X.env)) []) _ _ _
  refine PyProof.Rows.callWith_method1 (thn (ha.run pos pins _ σ H _ (J.tok _) h) fun us s1 ⟨vs, H1, J1, r1, a, C, ws, ev, hl, T, ea, q⟩ => ?_) he hpl
  subst ev
  cases r1 with
  | @cons _ u0 _ ur ra rt =>
    have eu : u0 = Value.ref a := ra
    subst eu
    refine exinit_ok T J1 ea (Nat.le_trans ?_ (by decide : 1000 ≤ sizeLine)) fun s' J2 => ⟨.non, H1, J2, rfl, q⟩
    rw [← Paired.length rt]
    exact hl
theorem ps_exf (ho : PE X o to) (he : PE X e te) (hs : swapsWith e (some (.Attribute o f p')) pos.line X.env = pure false := by rfl) : PS X (.Assign [.Attribute o f p'] e pos) (tExF X.K f to te) := by
  refine ⟨fun pins s σ H D J h => ?_⟩
  refine plainObj_wpAny_Assign_Attribute (thn (he.run pins s σ H _ J h) fun v s1 ⟨y, H1, J1, r1, q1⟩ => thn (ho.run pins s1 σ H1 _ J1 q1) fun u s2 ⟨x, H2, J2, r2, a, C, ex, T, hno, ea, q⟩ => ?_) hs
  subst ex
  have eu : u = Value.ref a := r2
  subst eu
  exact st_first T J2 ea hno r1 fun dx s' n ne J3 => ⟨σ, _, J3, q dx n ne⟩
/-- C(e, ..) that makes the error -/
theorem pmk_ex {CX : CXT} {x : Str} {C fI : Addr} {k : Nat} {fd : FuncData} {ps : List Str} {sp : Sp} {ds : List Value} {dvs : List V} (T : OexE X.K C) (iC : PySem.W.findIn X.K (.ref C) "__init__" = some (some (.ref fI))) (tI : PySem.W.typeIn X.K (.ref fI) = some (.type "function"))
    (F1 : FnOk X.prog X.w X.K X.mg X.base CX k fI fd ps sp) (hr : Room (k + 1) X.A) (hb : Binds X.K fd ps ds) (hd : Vals dvs ds) (hx : Passes CX X (fun _ _ _ => False)) (hm : X.mg x = some (.ref C)) (ha : PA X (e :: es) ta) (hg : Gl X x := by rfl)
    (he : starEach (e :: es) X.env = (false, eval e X.env) :: starEach es X.env := by rfl) (hpl : (backTo pos (starEach es X.env)).any (fun q => q.1) = false := by rfl) (hdb : (x == ("__debug__" : Str)) = false := by decide) : PMk X (.Call (.Name x p) (e :: es) [] pos) (tMkO C sp dvs ta) := by
  intro pins s σ H Q J h
  obtain ⟨nm, qn, N, bs, sn, sub, ab, col, dd, k0, k1, k2, k3, k5, hC⟩ := T.cls
  refine wpAny_Call_Name_kw (ld_glob J hg hm ?_ hdb)
  refine PySem.W.callWith_K (h₀ := X.base) J.ok.mod.kin T.kC (thn (ha.run pos pins s σ H _ J h) fun us s1 ⟨vs, H1, J1, r1, hz, q1⟩ => ⟨J1.kIn, ?_⟩) he hpl
  change wpAny _ _ (call (.ref C) us) _ _ _
  obtain ⟨hp0, g0, dr0, tk0, os0⟩ := s1
  have hsz : hp0.objs.size ≤ hp0.objs.size + 1 := Nat.le_succ _
  have hn : H1 (hp0.objs.size + 1) = none := J1.hok.fresh hsz
  have hq := q1 (hp0.objs.size + 1) hn
  have kk : ∀ b o, hp0.get? b = some o → ((hp0.push (PySem.W.kdv_tup us)).push (PySem.HandSPX.excO C hp0.objs.size)).get? b = some o := fun b o z => Heap.get?_push_of_some _ (Heap.get?_push_of_some _ z)
  have hget : ((hp0.push (PySem.W.kdv_tup us)).push (PySem.HandSPX.excO C hp0.objs.size)).get? (hp0.objs.size + 1) = some (PySem.HandSPX.excO C hp0.objs.size) := by
    heap_get
  have J2 : Inv X pins σ (upd H1 (hp0.objs.size + 1) (exo (hp0.objs.size + 1) C none)) ⟨((hp0.push (PySem.W.kdv_tup us)).push (PySem.HandSPX.excO C hp0.objs.size)), g0, dr0, tk0, os0⟩ := J1.laid (t' := tk0) (a := hp0.objs.size + 1) (o := exo (hp0.objs.size + 1) C none) (h' := ((hp0.push (PySem.W.kdv_tup us)).push (PySem.HandSPX.excO C hp0.objs.size))) kk hsz (exo_ok hget)
  have r2 : Vals (V.ref (hp0.objs.size + 1) :: (vs ++ dvs)) (Value.ref (hp0.objs.size + 1) :: (us ++ ds)) := .cons rfl (r1.append hd)
  have hl : (Value.ref (hp0.objs.size + 1) :: us ++ ds).length = ps.length := by
    have z := r2.length
    rw [F1.len _ _ _ _ hq] at z
    exact z.symm
  have hus : us.length ≤ sizeLine := Nat.le_trans (by rw [← Paired.length r1]; exact hz) (by decide : 1000 ≤ sizeLine)
  refine wpAny_call (PySem.HandSPX.call_own PySem.F.excBase_Exception (fun _ => rfl) (J1.kIn _ _ hC) (PySem.W.looks_findIn J1.kIn iC) (fun self => PySem.W.bind_fn J1.kIn self tI) hus
    (codeAny_mono (F1.run _ X.stack _ _ ⟨Value.ref (hp0.objs.size + 1) :: us, []⟩ (Value.ref (hp0.objs.size + 1) :: (us ++ ds)) _ _ (fun _ _ _ => False) (hr.make C us []) (J2.env0.make C us []) (hb _ (Value.ref (hp0.objs.size + 1) :: us) J2.kIn hl) r2 hq) fun r s' z => ?_))
  cases r with
  | error er => exact hx pins σ _ _ er s' J2 z
  | ok fl =>
    cases fl with
    | ret u =>
      obtain ⟨v, H2, os2, bare2, un2, hok2, rv, ev, d, fs, ea, ed, hd1, q2⟩ := z
      subst ev
      obtain ⟨heap2, gens2, drawn2, toks2, osAfter⟩ := s'
      exact ⟨rv, mk_end (raises_own T.exC T.tyC) J1 hsz kk un2 hok2 os2 bare2 ea ed hd1 q2⟩
    | next => exact False.elim z
    | brk => exact False.elim z
    | cont => exact False.elim z
end
end FB
-- W1
set_option Elab.async false
set_option linter.all false
set_option maxRecDepth 100000
set_option maxHeartbeats 3900000
namespace FB
open PySem PySem.Spec PyProof.Rows L2 Evl
section
variable {K : PySem.W.Frag} {mg : Str → Option Value} {P : Program} {base : Heap} {w : World}
abbrev s_number_of : Stmt := topS 63
abbrev N_number_of : List Str := ["word", "number", "byte"]
theorem sc_number_of : FnScope N_number_of ["word"] (defScope s_number_of) := ⟨rfl, rfl, rfl, by decide +kernel, rfl, by decide +kernel, by decide +kernel⟩
def numOf (l : List Int) : Int := l.foldl (fun n b => n * 10 + b - 48) 0
theorem numOf_more {l : List Int} {i : Nat} {z : Int} (h : l[i]? = some z) : numOf (l.take (i + 1)) = numOf (l.take i) * 10 + z - 48 := by
  unfold numOf
  rw [take_one h, List.foldl_append]
  rfl
def sp_number_of (K : PySem.W.Frag) : Sp := fun vs H Q _ => ∃ (a : Addr) (ns : List Int), vs = [.ref a] ∧ SqL K H a (ns.map V.int) ∧ RetV (.int (numOf ns)) H Q
theorem ok_number_of (T : Tx K mg) : Own P w K mg base CX0 1 "number_of" ["word"] (sp_number_of K) := by
  refine own_mk T.d_number_of T.g_number_of (fun _ _ _ _ _ _ us hl => match us, hl with | [_], _ => rfl) fun fd F => ?_
  refine F.ok sc_number_of (fun vs H Q E h => by obtain ⟨a, ns, rfl, _⟩ := h; rfl) (fun cdv A outer s H vs Q E hr h => ⟨_, PSs.nox
    (pss_cons (ps_set (i := 1) sc_number_of.nd rfl (Or.inl rfl) pe_int)
    (pss_cons (ps_for PassesOwn.never rfl (pi_list (pv 0)) (pg_name (i := 2) sc_number_of.nd rfl (Or.inl rfl))
      (pss_one (ps_set (i := 1) sc_number_of.nd rfl (Or.inl rfl) (pe_op op_sub (pe_op op_add (pe_op op_mul (pv 1) pe_int) (pv 2)) (pe_cint T.c_ZERO)))))
    (pss_one (ps_ret (pv 1))))), ?_⟩)
  obtain ⟨a, ns, rfl, hS, k⟩ : ∃ (a : Addr) (ns : List Int), _ := h
  refine q_asg ev_c fun H1 e1 => ?_
  refine q_forLn (K := K) (xs := ns.map V.int) (ev_var rfl) (ex_l e1 hS) (fun i σ H' => ∃ v : Option V, Ex H H' ∧ σ = [some (.ref a), some (.int (numOf (ns.take i))), v]) (fun H2 e2 => ⟨_, e1.trans e2, rfl⟩) (fun i σ H' _ ⟨_, e, _⟩ => ex_l e hS) ?_ ?_
  · rintro i x σ H' hi ⟨v, e, rfl⟩
    obtain ⟨z, hz, rfl⟩ := map_at hi
    refine s_asg (ev_op (ev_op (ev_op (ev_var rfl) ev_c (rv_I (.inr ⟨by decide, by decide⟩))) (ev_var rfl) rv_I0) ev_c rv_I0) fun H2 e2 => ⟨some (.int z), e.trans e2, ?_⟩
    rw [numOf_more hz]
    rfl
  · rintro σ H' ⟨v, e, rfl⟩
    simp only [List.length_map, List.take_length]
    exact s_ret (ev_var rfl) fun H2 e2 => k _ (e.trans e2)
end
end FB
-- W2
set_option Elab.async false
set_option linter.all false
set_option maxRecDepth 100000
set_option maxHeartbeats 3900000
namespace FB
open PySem PySem.Spec PyProof.Rows L2 Evl
section
variable {K : PySem.W.Frag} {mg : Str → Option Value} {P : Program} {base : Heap} {w : World}
abbrev s_is_number : Stmt := topS 62
abbrev N_is_number : List Str := ["word", "byte"]
theorem sc_is_number : FnScope N_is_number ["word"] (defScope s_is_number) := ⟨rfl, rfl, rfl, by decide +kernel, rfl, by decide +kernel, by decide +kernel⟩
def isNum (l : List Int) : Bool := if (!(decide (1 ≤ (l.length : Int)) && decide ((l.length : Int) ≤ 9))) = true then false else
  if (!(l.map fun b => decide (48 ≤ b) && decide (b ≤ 57)).all id) = true then false else decide ((l.length : Int) = 1) || !decide (l.headD 0 = 48)
def sp_is_number (K : PySem.W.Frag) : Sp := fun vs H Q _ => ∃ (a : Addr) (ns : List Int), vs = [.ref a] ∧ SqL K H a (ns.map V.int) ∧ ns.length ≤ 40000 ∧ RetV (.bl (isNum ns)) H Q
theorem ok_is_number (T : Tx K mg) : Own P w K mg base CX0 1 "is_number" ["word"] (sp_is_number K) := by
  refine own_mk T.d_is_number T.g_is_number (fun _ _ _ _ _ _ us hl => match us, hl with | [_], _ => rfl) fun fd F => ?_
  refine F.ok sc_is_number (fun vs H Q E h => by obtain ⟨a, ns, rfl, _⟩ := h; rfl) (fun cdv A outer s H vs Q E hr h => ⟨_, PSs.nox
    (pss_cons (ps_if (pt_not (pt_chain op_le op_le pe_int (pe_callB call_len_seq (by rfl) T.b_len PySem.boot_len (pa_cons (pv 0) pa_nil)) (pe_cint T.c_MOST_DIGITS)))
      (pss_one (ps_ret pe_bl))
      pss_nil)
    (pss_cons (ps_if (pt_not (pt_val (pe_callB (cr_all rfl) (by rfl) T.b_all (by decide +kernel) (pa_cons (pe_lc (own := [("byte", 1)]) (g := gName 1) (tt := tYes) rfl sc_is_number.nd (pi_list (pv 0)) (blkOk_by (N := N_is_number) (sc := defScope s_is_number) (by decide +kernel)) (fun _ _ _ _ _ => by exact (pg_name (i := 1) sc_is_number.nd rfl (Or.inl rfl))) (fun _ _ _ _ _ => by exact pts_nil) (fun _ _ _ _ _ => by exact (pe_chain op_le op_le (pe_cint T.c_ZERO) (pv 1) (pe_cint T.c_NINE)))) pa_nil))))
      (pss_one (ps_ret pe_bl))
      pss_nil)
    (pss_one (ps_ret (pe_or (pe_cmpR op_eq (pe_callB call_len_seq (by rfl) T.b_len PySem.boot_len (pa_cons (pv 0) pa_nil)) pe_int (nomark _)) (pe_one (pe_cmpR op_ne (pe_ix ix_list (pv 0) pe_int (fun _ _ => rfl)) (pe_cint T.c_ZERO) (nomark _)))))))), ?_⟩)
  obtain ⟨a, ns, rfl, hS, hz, k⟩ := h
  have hl : ((ns.map V.int).length : Int) = (ns.length : Int) := by rw [List.length_map]
  unfold isNum at k
  refine q_when (et_not (et_test (ev_chain ev_c (ev_is (ev_lenL (ev_var rfl) hS) (congrArg V.int hl)) ev_c))) (fun hb H1 e1 => s_ret ev_c fun H2 e2 => ?_) (fun hb H1 e1 => ?_)
  · rw [if_pos hb] at k
    exact k _ (e1.trans e2)
  rw [if_neg (by rw [hb]; decide)] at k
  refine q_when (et_not (et_B (ev_allN (bs := ns.map fun b => decide (48 ≤ b) && decide (b ≤ 57)) (by
      rw [List.map_map]
      exact el_map V.int _ (by rw [← List.length_map V.int]; exact ei_list (ev_var rfl) (ex_l e1 hS)) (fun _ _ h => h) hz (fun _ => rfl) fun b H2 e2 _ => ev_chain ev_c (ev_var rfl) ev_c)))) (fun hb2 H2 e2 => s_ret ev_c fun H3 e3 => ?_) (fun hb2 H2 e2 => ?_)
  · rw [if_pos hb2] at k
    exact k _ ((e1.trans e2).trans e3)
  rw [if_neg (by rw [hb2]; decide)] at k
  have hS2 := ex_l (e1.trans e2) hS
  refine s_ret (ev_orV (ev_op (ev_is (ev_lenL (ev_var rfl) hS2) (congrArg V.int hl)) ev_c rv_eqI) fun _ => ev_op (ev_op (ev_var rfl) ev_c (rv_ixL hS2 (v := .int (ns.headD 0)) ?_)) ev_c rv_neI) fun H3 e3 => k _ ((e1.trans e2).trans e3)
  cases ns with
  | nil => cases hb
  | cons n r => exact atI_cons0
end
end FB
-- W3
set_option Elab.async false
set_option linter.all false
set_option maxRecDepth 100000
set_option maxHeartbeats 3900000
namespace FB
open PySem PySem.Spec PyProof.Rows L2 Evl
section
variable {K : PySem.W.Frag} {mg : Str → Option Value} {P : Program} {base : Heap} {w : World}
abbrev s_spelled : Stmt := topS 59
abbrev N_spelled : List Str := ["word", "sign"]
theorem sc_spelled : FnScope N_spelled ["word"] (defScope s_spelled) := ⟨rfl, rfl, rfl, by decide +kernel, rfl, by decide +kernel, by decide +kernel⟩
def codesOf (z : Str) : List Int := z.cps.toList.map fun c => ((c : Nat) : Int)
def sp_spelled : Sp := fun vs H Q _ => ∃ (z : Str), vs = [.str z] ∧ z.cps.toList.length ≤ 40000 ∧ RetL ((codesOf z).map V.int) H Q
theorem ok_spelled (T : Tx K mg) : Own P w K mg base CX0 1 "spelled" ["word"] sp_spelled := by
  refine own_mk T.d_spelled T.g_spelled (fun _ _ _ _ _ _ us hl => match us, hl with | [_], _ => rfl) fun fd F => ?_
  refine F.ok sc_spelled (fun vs H Q E h => by obtain ⟨z, rfl, _⟩ := h; rfl) (fun cdv A outer s H vs Q E hr h => ⟨_, PSs.nox
    (pss_one (ps_ret (pe_lc (own := [("sign", 1)]) (g := gName 1) (tt := tYes) rfl sc_spelled.nd (pi_str (pv 0)) (blkOk_by (N := N_spelled) (sc := defScope s_spelled) (by decide +kernel)) (fun _ _ _ _ _ => by exact (pg_name (i := 1) sc_spelled.nd rfl (Or.inl rfl))) (fun _ _ _ _ _ => by exact pts_nil) (fun _ _ _ _ _ => by exact (pe_callB call_ord (by rfl) T.b_ord (by decide +kernel) (pa_cons (pv 1) pa_nil)))))), ?_⟩)
  obtain ⟨z, rfl, hz, k⟩ := h
  refine s_retL ?_ k
  unfold codesOf
  rw [List.map_map]
  refine el_map (fun c => V.str ⟨#[c]⟩) _ (by
    have e := ei_str (σ := L2.start N_spelled [V.str z]) (H := H) (tl := tVar 0) (s := z) (ev_var rfl)
    rw [← Array.length_toList] at e
    exact e) (fun i x h => ?_) hz (fun _ => rfl) fun c H1 e1 _ => ev_cb (ea_cons (ev_var rfl) ea_nil) fun H2 e2 Q q => ⟨_, rfl, rfl, q H2 (Ex.refl H2)⟩
  obtain ⟨c, h1, rfl⟩ := h
  rw [List.getElem?_map, Array.getElem?_toList, h1]
  rfl
/-- the promise in Evl's words -/
theorem spL_spelled {z : Str} {H : Hp} (hz : z.cps.toList.length ≤ 40000) : SpL sp_spelled [.str z] H ((codesOf z).map V.int) := fun H1 _ Q q E => ⟨z, rfl, hz, fun p H2 hp e2 h2 => q p H2 hp e2 h2⟩
abbrev s_is_name : Stmt := topS 61
abbrev N_is_name : List Str := ["word", "kept", "byte"]
theorem sc_is_name : FnScope N_is_name ["word"] (defScope s_is_name) := ⟨rfl, rfl, rfl, by decide +kernel, rfl, by decide +kernel, by decide +kernel⟩
theorem paired_map {α β γ : Type} {f : α → β} {R : β → γ → Prop} : ∀ {l : List α} {xs : List γ}, Paired (fun a v => R (f a) v) l xs → Paired R (l.map f) xs
  | _, _, .nil => .nil
  | _, _, .cons h t => .cons h (paired_map t)
def kept : List Str := ["fee", "above", "late", "small", "shared"]
theorem kept_len : ∀ z ∈ kept, z.cps.toList.length ≤ 40000 := by decide
def isNam (l : List Int) : Bool := if (!(decide (1 ≤ (l.length : Int)) && decide ((l.length : Int) ≤ 12))) = true then false else
  if (!(l.map fun b => decide (97 ≤ b) && decide (b ≤ 122)).all id) = true then false else !(kept.map codesOf).any fun z => decide (z = l)
def sp_is_name (K : PySem.W.Frag) : Sp := fun vs H Q _ => ∃ (a : Addr) (ns : List Int), vs = [.ref a] ∧ SqL K H a (ns.map V.int) ∧ ns.length ≤ 40000 ∧ RetV (.bl (isNam ns)) H Q
theorem ok_is_name (T : Tx K mg) : Own P w K mg base CX0 2 "is_name" ["word"] (sp_is_name K) := by
  refine own_mk T.d_is_name T.g_is_name (fun _ _ _ _ _ _ us hl => match us, hl with | [_], _ => rfl) fun fd F => ?_
  refine F.ok sc_is_name (fun vs H Q E h => by obtain ⟨a, ns, rfl, _⟩ := h; rfl) (fun cdv A outer s H vs Q E hr h => ⟨_, PSs.nox
    (pss_cons (ps_if (pt_not (pt_chain op_le op_le pe_int (pe_callB call_len_seq (by rfl) T.b_len PySem.boot_len (pa_cons (pv 0) pa_nil)) (pe_cint T.c_MOST_LETTERS)))
      (pss_one (ps_ret pe_bl))
      pss_nil)
    (pss_cons (ps_if (pt_not (pt_val (pe_callB (cr_all rfl) (by rfl) T.b_all (by decide +kernel) (pa_cons (pe_lc (own := [("byte", 2)]) (g := gName 2) (tt := tYes) rfl sc_is_name.nd (pi_list (pv 0)) (blkOk_by (N := N_is_name) (sc := defScope s_is_name) (by decide +kernel)) (fun _ _ _ _ _ => by exact (pg_name (i := 2) sc_is_name.nd rfl (Or.inl rfl))) (fun _ _ _ _ _ => by exact pts_nil) (fun _ _ _ _ _ => by exact (pe_chain op_le op_le (pe_cint T.c_FIRST_LETTER) (pv 2) (pe_cint T.c_LAST_LETTER)))) pa_nil))))
      (pss_one (ps_ret pe_bl))
      pss_nil)
    (pss_one (ps_ret (pe_cmpR (op_notInDp hr) (pv 0) (pe_lc (own := [("kept", 1)]) (g := gName 1) (tt := tYes) rfl sc_is_name.nd (pi_tup (pe_cref T.g_KEPT_WORDS)) (blkOk_by (N := N_is_name) (sc := defScope s_is_name) (by decide +kernel)) (fun _ _ _ _ _ => by exact (pg_name (i := 1) sc_is_name.nd rfl (Or.inl rfl))) (fun _ _ _ _ _ => by exact pts_nil) (fun _ _ _ _ _ => by exact (pe_own (ok_spelled T) hr (by decide) pass0 (pa_cons (pv 1) pa_nil)))) (by with_unfolding_all rfl)))))), ?_⟩)
  obtain ⟨a, ns, rfl, hS, hz, k⟩ := h
  have hl : ((ns.map V.int).length : Int) = (ns.length : Int) := by rw [List.length_map]
  unfold isNam at k
  refine q_when (et_not (et_test (ev_chain ev_c (ev_is (ev_lenL (ev_var rfl) hS) (congrArg V.int hl)) ev_c))) (fun hb H1 e1 => s_ret ev_c fun H2 e2 => ?_) (fun hb H1 e1 => ?_)
  · rw [if_pos hb] at k
    exact k _ (e1.trans e2)
  rw [if_neg (by rw [hb]; decide)] at k
  refine q_when (et_not (et_B (ev_allN (bs := ns.map fun b => decide (97 ≤ b) && decide (b ≤ 122)) (by
      rw [List.map_map]
      exact el_map V.int _ (by rw [← List.length_map V.int]; exact ei_list (ev_var rfl) (ex_l e1 hS)) (fun _ _ h => h) hz (fun _ => rfl) fun b H2 e2 _ => ev_chain ev_c (ev_var rfl) ev_c)))) (fun hb2 H2 e2 => s_ret ev_c fun H3 e3 => ?_) (fun hb2 H2 e2 => ?_)
  · rw [if_pos hb2] at k
    exact k _ ((e1.trans e2).trans e3)
  rw [if_neg (by rw [hb2]; decide)] at k
  have hS2 := ex_l (e1.trans e2) hS
  refine s_ret (ev_opR (Pr := fun z v D H => ∃ p, v = V.ref p ∧ p ≠ D ∧ H p = some (.lst ((codesOf z).map V.int))) (l := kept) (ev_var rfl) (er_map (P0 := fun z v H1 H2 => ∃ p, v = V.ref p ∧ H1 p = none ∧ H2 p = some (.lst ((codesOf z).map V.int))) V.str (fun z v H1 H2 D hD _ _ h => ?_) (fun z v D H H' eb h => ?_)
    (ei_tup ev_c (T.t_KEPT_WORDS _)) (fun i x h => h) (by decide) (fun _ => rfl) (fun z H3 e3 hz => eq_L (el_call (ea_cons (ev_var rfl) ea_nil) (spL_spelled (kept_len z hz))))) (fun p xs H3 e3 hp hs => ?_)) fun H3 e3 => k _ ((e1.trans e2).trans e3)
  · obtain ⟨p, rfl, h1, h2⟩ := h
    exact ⟨p, rfl, fun q => hD (by rw [← q]; exact h1), h2⟩
  · obtain ⟨p, rfl, h1, h2⟩ := h
    exact ⟨p, rfl, h1, eb p _ h1 h2⟩
  · refine rv_val fun H4 e4 Q' q => ⟨dInts ns, (kept.map codesOf).map dInts, dp_ints (ex_l ((e3.trans e4)) hS2), .lst (sq_of (e4 _ _ hp)) (dpAll_lists ?_), ints_shaped ns, lists_shaped _, ?_⟩
    · exact paired_map (Paired.mono (fun z v h => by obtain ⟨p, rfl, _, h2⟩ := h; exact ⟨p, rfl, sq_of (e4 _ _ h2)⟩) hs)
    · rw [lists_any]
      exact q
end
end FB
-- W4
set_option Elab.async false
set_option linter.all false
set_option maxRecDepth 100000
set_option maxHeartbeats 3900000
namespace FB
open PySem PySem.Spec PyProof.Rows L2 Evl
section
variable {K : PySem.W.Frag} {mg : Str → Option Value} {P : Program} {base : Heap} {w : World}
abbrev s_split_words : Stmt := topS 60
abbrev N_split_words : List Str := ["text", "words", "begin", "place", "byte"]
theorem sc_split_words : FnScope N_split_words ["text"] (defScope s_split_words) := ⟨rfl, rfl, rfl, by decide +kernel, rfl, by decide +kernel, by decide +kernel⟩
/-- a word: its place, its bytes -/
abbrev Wd := Nat × List Int
def swStep (text : List Int) (s : Nat × List Wd) (i : Nat) (b : Int) : Nat × List Wd :=
  let s1 : Nat × List Wd := if (decide (b = 32) || decide (b = 10)) = true then (i + 1, s.2 ++ [(s.1, (text.drop s.1).take (i - s.1))]) else s
  if decide (b = 10) = true then (s1.1, s1.2 ++ [(i, [10])]) else s1
def swRun (text : List Int) : Nat → Nat × List Wd
  | 0 => (0, [])
  | n + 1 => swStep text (swRun text n) n (text.getD n 0)
def wordsOf (text : List Int) : List Wd := (swRun text text.length).2 ++ [((swRun text text.length).1, text.drop (swRun text text.length).1)]
theorem swRun_le (text : List Int) : ∀ n, (swRun text n).1 ≤ n
  | 0 => Nat.le_refl _
  | n + 1 => by
    have ih := swRun_le text n
    show (swStep text (swRun text n) n (text.getD n 0)).1 ≤ n + 1
    unfold swStep
    dsimp only
    split <;> split <;> (try dsimp only) <;> omega
theorem swRun_len (text : List Int) : ∀ n, (swRun text n).2.length ≤ 2 * n
  | 0 => Nat.le_refl _
  | n + 1 => by
    have ih := swRun_len text n
    show (swStep text (swRun text n) n (text.getD n 0)).2.length ≤ 2 * (n + 1)
    unfold swStep
    dsimp only
    split <;> split <;> (try simp only [List.length_append, List.length_singleton]) <;> omega
/-- how a word lies in the heap: nothing of it at D -/
def WordAt (D : Addr) (H : Hp) (wd : Wd) (v : V) : Prop := ∃ t l, v = .ref t ∧ t ≠ D ∧ l ≠ D ∧ H t = some (.tup [.int (wd.1 : Nat), .ref l]) ∧ H l = some (.lst (wd.2.map V.int))
theorem WordAt.stay {D : Addr} {H H' : Hp} {wd : Wd} {v : V} (e : ExB D H H') (h : WordAt D H wd v) : WordAt D H' wd v := by
  obtain ⟨t, l, rfl, h1, h2, h3, h4⟩ := h
  exact ⟨t, l, rfl, h1, h2, e t _ h1 h3, e l _ h2 h4⟩
/-- the loop's word: behind i turns -/
def SwI (H : Hp) (a p : Addr) (ns : List Int) (i : Nat) (σ : L2.St) (H' : Hp) : Prop := ∃ acc, (∃ x3 x4 : Option V, σ = [some (.ref a), some (.ref p), some (.int ((swRun ns i).1 : Nat)), x3, x4]) ∧ Ex H H' ∧ H' p = some (.lst acc) ∧ Paired (WordAt p H') (swRun ns i).2 acc
/-- a word is appended: all else stands -/
theorem word_app {p : Addr} {H H0 H1 H2 : Hp} {ws : List Wd} {acc : List V} {wd : Wd} {v : V} (hp : H p = none) (e0 : Ex H H0) (h0 : H0 p = some (.lst acc)) (e1 : Ex H0 H1) (e2 : Ex H1 H2) (hw : Paired (WordAt p H0) ws acc)
    (hv : ∃ t l, v = .ref t ∧ H1 t = none ∧ H1 l = none ∧ H2 t = some (.tup [.int (wd.1 : Nat), .ref l]) ∧ H2 l = some (.lst (wd.2.map V.int))) :
    Ex H (upd H2 p (.lst (acc ++ [v]))) ∧ Paired (WordAt p (upd H2 p (.lst (acc ++ [v])))) (ws ++ [wd]) (acc ++ [v]) := by
  obtain ⟨t, l, rfl, t1, l1, t2, l2⟩ := hv
  have hb : ExB p H2 (upd H2 p (.lst (acc ++ [.ref t]))) := fun b o hb h => by
    rw [upd_ne hb]
    exact h
  have h1 := e1 _ _ h0
  have nt : t ≠ p := fun z => by
    rw [← z, t1] at h1
    cases h1
  have nl : l ≠ p := fun z => by
    rw [← z, l1] at h1
    cases h1
  refine ⟨Ex.mut ((e0.trans e1).trans e2) hp, Paired.snoc (Paired.mono (fun wd v h => h.stay fun b o hb' h => hb b o hb' (e2 b o (e1 b o h))) hw) ⟨t, l, rfl, nt, nl, hb t _ nt t2, hb l _ nl l2⟩⟩
def sp_split_words (K : PySem.W.Frag) : Sp := fun vs H Q _ => ∃ (a : Addr) (ns : List Int), vs = [.ref a] ∧ SqL K H a (ns.map V.int) ∧ ns.length ≤ 40000 ∧
  ∀ p xs H2, H p = none → Ex H H2 → H2 p = some (.lst xs) → Paired (WordAt p H2) (wordsOf ns) xs → Q (.ref p) H2
theorem ok_split_words (T : Tx K mg) : Own P w K mg base CX0 1 "split_words" ["text"] (sp_split_words K) := by
  refine own_mk T.d_split_words T.g_split_words (fun _ _ _ _ _ _ us hl => match us, hl with | [_], _ => rfl) fun fd F => ?_
  refine F.ok sc_split_words (fun vs H Q E h => by obtain ⟨a, ns, rfl, _⟩ := h; rfl) (fun cdv A outer s H vs Q E hr h => ⟨_, PSs.nox
    (pss_cons (ps_set (i := 1) sc_split_words.nd rfl (Or.inl rfl) (pe_lst pa_nil))
    (pss_cons (ps_set (i := 2) sc_split_words.nd rfl (Or.inl rfl) pe_int)
    (pss_cons (ps_for PassesOwn.never rfl (pi_enum (by rfl) T.b_enumerate (pa_cons (pv 0) pa_nil)) (pg_tup rfl (pgs_cons (pg_name (i := 3) sc_split_words.nd rfl (Or.inl rfl)) (pgs_cons (pg_name (i := 4) sc_split_words.nd rfl (Or.inl rfl)) pgs_nil)))
      (pss_cons (ps_if (PW.pt (pw_or (pt_cmpR op_eq (pv 4) (pe_cint T.c_BLANK) (nomark _)) (pw_or1 (pt_cmpR op_eq (pv 4) (pe_cint T.c_LINE_END) (nomark _)))))
        (pss_cons (ps_expr (pe_bm PySem.F.plainAttrs_list PySem.F.slot_list_append PySem.F.type_list_append mt_append (pv 1) (pa_cons (pe_tup (pa_cons (pv 2) (pa_cons (pe_slice sl_list (pv 0) (po_some (pv 2)) (po_some (pv 3))) pa_nil))) pa_nil)))
        (pss_one (ps_set (i := 2) sc_split_words.nd rfl (Or.inl rfl) (pe_op op_add (pv 3) pe_int))))
        pss_nil)
      (pss_one (ps_if (pt_cmpR op_eq (pv 4) (pe_cint T.c_LINE_END) (nomark _))
        (pss_one (ps_expr (pe_bm PySem.F.plainAttrs_list PySem.F.slot_list_append PySem.F.type_list_append mt_append (pv 1) (pa_cons (pe_tup (pa_cons (pv 3) (pa_cons (pe_lst (pa_cons (pe_cint T.c_LINE_END) pa_nil)) pa_nil))) pa_nil))))
        pss_nil))))
    (pss_cons (ps_expr (pe_bm PySem.F.plainAttrs_list PySem.F.slot_list_append PySem.F.type_list_append mt_append (pv 1) (pa_cons (pe_tup (pa_cons (pv 2) (pa_cons (pe_slice sl_list (pv 0) (po_some (pv 2)) po_none) pa_nil))) pa_nil)))
    (pss_one (ps_ret (pv 1))))))), ?_⟩)
  obtain ⟨a, ns, rfl, hS, hz, k⟩ := h
  refine q_asgL (el_lst ea_nil (by decide)) fun p H1 hp e1 h1 => ?_
  refine q_asg ev_c fun H2 e2 => ?_
  have e12 := e1.trans e2
  refine ⟨_, rfl, a, ns.map V.int, rfl, ex_l e12 hS, for_it walk_enum (SwI H a p ns)
    ⟨[], ⟨_, _, rfl⟩, e12, e2 _ _ h1, .nil⟩ (fun i σ H' _ ⟨acc, _, e, _⟩ => ex_l e hS) ?_ ?_⟩
  · rintro i x σ H' H'' hi ⟨acc, ⟨x3, x4, rfl⟩, e, hp', hw⟩ ⟨Tt, y, z, rfl, hT, rfl, hy, hz'⟩
    cases hy
    obtain ⟨b, hb, rfl⟩ := map_at hz'
    have hgd : ns.getD i 0 = b := by rw [List.getD_eq_getElem?_getD, hb]; rfl
    have hin : i < ns.length := (List.getElem?_eq_some_iff.mp hb).1
    have hpT : p ≠ Tt := fun z => by rw [z, hT] at hp'; cases hp'
    have eT : Ex H' (upd H' Tt (.tup [.int (i : Nat), .int b])) := Ex.new hT
    refine ⟨Tt, _, rfl, SqT.of upd_same, rfl, _, _, rfl, _, _, rfl, rfl, ?_⟩
    have le := swRun_le ns i
    have ll := swRun_len ns i
    have la : acc.length = (swRun ns i).2.length := hw.length.symm
    have sz : ∀ n, n ≤ 90000 → n < sizeLine := fun n h => Nat.lt_of_le_of_lt h (by decide)
    have hw1 : Paired (WordAt p (upd H' Tt (.tup [.int (i : Nat), .int b]))) (swRun ns i).2 acc := Paired.mono (fun wd v h => h.stay fun b o _ h => eT b o h) hw
    have hS1 := ex_l (e.trans eT) hS
    have step : swRun ns (i + 1) = swStep ns (swRun ns i) i b := by rw [← hgd]; rfl
    by_cases b10 : b = 10
    · subst b10
      refine q_when (et_is (et_or (et_test (ev_op (ev_var rfl) ev_c rv_eqI)) fun _ => et_test (ev_op (ev_var rfl) ev_c rv_eqI)) (b := true) (by decide)) (fun _ H3 e3 => ?_) (fun h => Bool.noConfusion h)
      have hS3 := ex_l e3 hS1
      refine q_appQ (e3 _ _ (eT _ _ hp')) (ev_var rfl) (eq_pairL (ev_var rfl) (el_sl (ev_var rfl) (eo_some (ev_var rfl)) (eo_some (ev_var rfl)) hS3)) (sz _ (by omega)) fun v H4 H5 e4 e5 hv => ?_
      rw [cut_map _ _ _ _ le (Nat.le_of_lt hin)] at hv
      obtain ⟨q1, q2⟩ := word_app (wd := ((swRun ns i).1, (ns.drop (swRun ns i).1).take (i - (swRun ns i).1))) hp ((e.trans eT).trans e3) (e3 _ _ (eT _ _ hp')) e4 e5 (Paired.mono (fun wd v h => h.stay fun b o _ h => e3 b o h) hw1) hv
      refine s_asg (ev_op (ev_var rfl) ev_c rv_I0) fun H6 e6 => ?_
      refine s_when (et_is (et_test (ev_op (ev_var rfl) ev_c rv_eqI)) (b := true) (by decide)) (fun _ H7 e7 => ?_) (fun h => Bool.noConfusion h)
      have e67 := e6.trans e7
      refine s_appQ (e67 _ _ upd_same) (ev_var rfl) (eq_pairL (ev_var rfl) (el_lst (ea_cons ev_c ea_nil) (by decide))) (sz _ (by rw [List.length_append, List.length_singleton]; omega)) fun v2 H8 H9 e8 e9 hv2 => ?_
      obtain ⟨r1, r2⟩ := word_app (wd := (i, [10])) hp (q1.trans e67) (e67 _ _ upd_same) e8 e9 (Paired.mono (fun wd v h => h.stay fun b o _ h => e67 b o h) q2) hv2
      have st : swRun ns (i + 1) = (i + 1, ((swRun ns i).2 ++ [((swRun ns i).1, (ns.drop (swRun ns i).1).take (i - (swRun ns i).1))]) ++ [(i, [10])]) := step
      refine ⟨_, ⟨some (.int (i : Nat)), some (.int 10), ?_⟩, r1, upd_same, ?_⟩
      · rw [st]
        rfl
      · rw [st]
        exact r2
    · by_cases b32 : b = 32
      · subst b32
        refine q_when (et_is (et_or (et_test (ev_op (ev_var rfl) ev_c rv_eqI)) fun _ => et_test (ev_op (ev_var rfl) ev_c rv_eqI)) (b := true) (by decide)) (fun _ H3 e3 => ?_) (fun h => Bool.noConfusion h)
        have hS3 := ex_l e3 hS1
        refine q_appQ (e3 _ _ (eT _ _ hp')) (ev_var rfl) (eq_pairL (ev_var rfl) (el_sl (ev_var rfl) (eo_some (ev_var rfl)) (eo_some (ev_var rfl)) hS3)) (sz _ (by omega)) fun v H4 H5 e4 e5 hv => ?_
        rw [cut_map _ _ _ _ le (Nat.le_of_lt hin)] at hv
        obtain ⟨q1, q2⟩ := word_app (wd := ((swRun ns i).1, (ns.drop (swRun ns i).1).take (i - (swRun ns i).1))) hp ((e.trans eT).trans e3) (e3 _ _ (eT _ _ hp')) e4 e5 (Paired.mono (fun wd v h => h.stay fun b o _ h => e3 b o h) hw1) hv
        refine s_asg (ev_op (ev_var rfl) ev_c rv_I0) fun H6 e6 => ?_
        refine s_when (et_is (et_test (ev_op (ev_var rfl) ev_c rv_eqI)) (b := false) (by decide)) (fun h => Bool.noConfusion h) (fun _ H7 e7 => ?_)
        have e67 := e6.trans e7
        have st : swRun ns (i + 1) = (i + 1, (swRun ns i).2 ++ [((swRun ns i).1, (ns.drop (swRun ns i).1).take (i - (swRun ns i).1))]) := step
        refine ⟨_, ⟨some (.int (i : Nat)), some (.int 32), ?_⟩, q1.trans e67, e67 _ _ upd_same, ?_⟩
        · rw [st]
          rfl
        · rw [st]
          exact Paired.mono (fun wd v h => h.stay fun b o _ h => e67 b o h) q2
      · refine q_when (et_is (et_or (et_test (ev_op (ev_var rfl) ev_c rv_eqI)) fun _ => et_test (ev_op (ev_var rfl) ev_c rv_eqI)) (b := false) (by rw [decide_eq_false b10, decide_eq_false b32]; rfl)) (fun h => Bool.noConfusion h) (fun _ H3 e3 => ?_)
        refine s_when (et_is (et_test (ev_op (ev_var rfl) ev_c rv_eqI)) (b := false) (decide_eq_false b10)) (fun h => Bool.noConfusion h) (fun _ H7 e7 => ?_)
        have e67 := (eT.trans e3).trans e7
        have st : swRun ns (i + 1) = swRun ns i := by
          rw [step]
          unfold swStep
          dsimp only
          rw [decide_eq_false b10, decide_eq_false b32]
          rfl
        refine ⟨acc, ⟨some (.int (i : Nat)), some (.int b), ?_⟩, e.trans e67, e67 _ _ hp', ?_⟩
        · rw [st]
          rfl
        · rw [st]
          exact Paired.mono (fun wd v h => h.stay fun b o _ h => e67 b o h) hw
  · rintro σ H' ⟨acc, ⟨x3, x4, rfl⟩, e, hp', hw⟩
    rw [List.length_map] at hw ⊢
    have le := swRun_le ns ns.length
    have ll := swRun_len ns ns.length
    have la : acc.length = (swRun ns ns.length).2.length := hw.length.symm
    refine q_appQ hp' (ev_var rfl) (eq_pairL (ev_var rfl) (el_sl (ev_var rfl) (eo_some (ev_var rfl)) eo_none (ex_l e hS))) (Nat.lt_of_le_of_lt (show _ ≤ 90000 by omega) (by decide)) fun v H1 H2 e1 e2 hv => ?_
    rw [cut_mapE _ _ _ le] at hv
    obtain ⟨q1, q2⟩ := word_app (wd := ((swRun ns ns.length).1, ns.drop (swRun ns ns.length).1)) hp e hp' e1 e2 hw hv
    exact s_ret (ev_var rfl) fun H3 e3 => k p _ H3 hp (q1.trans e3) (e3 _ _ upd_same) (Paired.mono (fun wd v h => h.stay fun b o _ h => e3 b o h) q2)
end
end FB
-- R1
set_option Elab.async false
set_option linter.all false
set_option maxRecDepth 100000
set_option maxHeartbeats 3900000
namespace FB
open PySem PySem.Spec PyProof.Rows L2 Evl
section
variable {K : PySem.W.Frag} {mg : Str → Option Value} {P : Program} {base : Heap} {w : World}
abbrev cSF (K : PySem.W.Frag) : Addr := He.ga K "ScheduleFault"
abbrev cRd (K : PySem.W.Frag) : Addr := He.ga K "Reader"
abbrev s_ScheduleFault___init__ : Stmt := inClass (topS 93) 0
abbrev N_ScheduleFault___init__ : List Str := ["self", "place"]
theorem sc_ScheduleFault___init__ : FnScope N_ScheduleFault___init__ ["self", "place"] (defScope s_ScheduleFault___init__) := ⟨rfl, rfl, rfl, by decide +kernel, rfl, by decide +kernel, by decide +kernel⟩
def sp_SF (K : PySem.W.Frag) : Sp := fun vs H Q _ => ∃ (a : Addr) (n : Int), vs = [.ref a, .int n] ∧ H a = some (exo a (cSF K) none) ∧ ∀ dx, H dx = none → dx ≠ a → Q .non (upd (upd H dx (exd dx [("place", .int n)])) a (exo a (cSF K) (some dx)))
theorem ok_SF (T : Tx K mg) : ∃ fd, FnOk P w K mg base CX0 1 (He.ma K (cSF K) "__init__") fd ["self", "place"] (sp_SF K) ∧ Binds K fd ["self", "place"] [] := by
  obtain ⟨fd, F⟩ := T.d_ScheduleFault___init__
  refine ⟨fd, ?_, F.bindsN fun _ _ _ _ _ _ us hl => match us, hl with | [_, _], _ => rfl⟩
  refine F.ok sc_ScheduleFault___init__ (fun vs H Q E h => by obtain ⟨a, n, rfl, _⟩ := h; rfl) (fun cdv A outer s H vs Q E hr h => ⟨_, PSs.nox
    (pss_cons (ps_expr (pe_exinit T.b_Exception (by kernel_rfl) (pa_cons (pv 0) (pa_cons (pv 1) pa_nil))))
    (pss_one (ps_exf (pv 0) (pv 1)))), ?_⟩)
  obtain ⟨a, n, rfl, ha, k⟩ := h
  exact ⟨_, rfl, _, rfl, a, cSF K, _, rfl, (by show 1 ≤ 1000; decide), T.x_ScheduleFault, ha, _, rfl, _, rfl, a, cSF K, rfl, T.x_ScheduleFault, T.n_ScheduleFault_place, ha, fun dx n1 n2 => k dx n1 n2⟩
/-- raise ScheduleFault(e) -/
theorem pmk_own_ScheduleFault {X : Cx} {j : Nat} {e : Expr} {es : List Expr} {ta : TA} {p pos : Pos} (T : Tx X.K X.mg) (hr : Room j X.A) (hj : 2 ≤ j) (ha : PA X (e :: es) ta) (hg : Gl X "ScheduleFault" := by rfl)
    (he : starEach (e :: es) X.env = (false, eval e X.env) :: starEach es X.env := by rfl) (hpl : (backTo pos (starEach es X.env)).any (·.1) = false := by rfl) : PMk X (.Call (.Name "ScheduleFault" p) (e :: es) [] pos) (tMkO (cSF X.K) (sp_SF X.K) [] ta) := by
  obtain ⟨fd, F, b⟩ := ok_SF (P := X.prog) (w := X.w) (base := X.base) T
  exact pmk_ex T.x_ScheduleFault T.xi_ScheduleFault T.xt_ScheduleFault F (hr.mono hj) b .nil pass0 T.g_ScheduleFault ha hg he hpl (by decide)
/-- its reading -/
theorem mk_SF {σ : L2.St} {H : Hp} {te : TE} {n : Int} {Q : XK} (h : Ev te σ H (.int n)) (k : ∀ d H', Ex H H' → H' d = some (.xd [("place", .int n)]) → Q (.ref (cSF K)) (some d) H') : tMkO (cSF K) (sp_SF K) [] (tCons te tNil) σ H Q :=
  h H (Ex.refl H) _ fun H1 e1 => ⟨by show 1 ≤ 1000; decide, fun a ha => ⟨a, n, rfl, upd_same, fun dx h1 h2 => by
    have hd1 : H1 dx = none := by
      rw [upd_ne h2] at h1
      exact h1
    refine ⟨rfl, dx, _, upd_same, by rw [upd_ne h2, upd_same], hd1, k dx _ (fun b o hb => ?_) upd_same⟩
    have hb1 := e1 b o hb
    have nb : b ≠ dx := ne_of_none hb1 hd1
    have na : b ≠ a := ne_of_none hb1 ha
    rw [upd_ne nb, del_ne na, upd_ne na, upd_ne nb, upd_ne na]
    exact hb1⟩⟩
/-! ### the reader -/
def rdF (p : Addr) (n at_ : Nat) : List (Str × V) := [("words", .ref p), ("length", .int (n : Nat)), ("at", .int (at_ : Nat))]
/-- a word of the reader's list -/
def WordIn (H : Hp) (wd : Wd) (v : V) : Prop := ∃ t l, v = .ref t ∧ H t = some (.tup [.int (wd.1 : Nat), .ref l]) ∧ H l = some (.lst (wd.2.map V.int))
structure RdAt (K : PySem.W.Frag) (H : Hp) (r : Addr) (W : List Wd) (n at_ : Nat) : Prop where
  le : at_ ≤ W.length
  ex : ∃ dx p xs, H r = some (.ins (cRd K) dx (rdF p n at_)) ∧ H p = some (.lst xs) ∧ Paired (WordIn H) W xs
theorem WordIn.stay {r C dx : Addr} {fs : List (Str × V)} {H H' : Hp} {wd : Wd} {v : V} (hr : H r = some (.ins C dx fs)) (e : ExB r H H') (h : WordIn H wd v) : WordIn H' wd v := by
  obtain ⟨t, l, rfl, h1, h2⟩ := h
  have n1 : t ≠ r := fun z => by
    rw [z, hr] at h1
    cases h1
  have n2 : l ≠ r := fun z => by
    rw [z, hr] at h2
    cases h2
  exact ⟨t, l, rfl, e t _ n1 h1, e l _ n2 h2⟩
theorem WordIn.ex {H H' : Hp} {wd : Wd} {v : V} (e : Ex H H') (h : WordIn H wd v) : WordIn H' wd v := by
  obtain ⟨t, l, rfl, h1, h2⟩ := h
  exact ⟨t, l, rfl, e t _ h1, e l _ h2⟩
theorem RdAt.stay {H H' : Hp} {r : Addr} {W : List Wd} {n at_ : Nat} (e : Ex H H') (h : RdAt K H r W n at_) : RdAt K H' r W n at_ := by
  obtain ⟨le, dx, p, xs, h1, h2, h3⟩ := h
  exact ⟨le, dx, p, xs, e _ _ h1, e _ _ h2, Paired.mono (fun wd v h => h.ex e) h3⟩
theorem lk_here {r : List (Str × V)} {v : V} {k : Str} : ((k, v) :: r).lookup k = some v := by
  simp [List.lookup]
theorem lk_past {r : List (Str × V)} {v : V} {g k : Str} (h : (k == g) = false) : ((g, v) :: r).lookup k = r.lookup k := by
  simp only [List.lookup, h]
theorem rdF_words {p : Addr} {n i : Nat} : (rdF p n i).lookup ("words" : Str) = some (.ref p) := lk_here
theorem rdF_length {p : Addr} {n i : Nat} : (rdF p n i).lookup ("length" : Str) = some (.int (n : Nat)) := (lk_past (by decide +kernel)).trans lk_here
theorem rdF_at {p : Addr} {n i : Nat} : (rdF p n i).lookup ("at" : Str) = some (.int (i : Nat)) := (lk_past (by decide +kernel)).trans ((lk_past (by decide +kernel)).trans lk_here)
theorem rdF_no {p : Addr} {n i : Nat} {m : Str} (h : (m == ("words" : Str)) = false ∧ (m == ("length" : Str)) = false ∧ (m == ("at" : Str)) = false) : (rdF p n i).lookup m = none := (lk_past h.1).trans ((lk_past h.2.1).trans ((lk_past h.2.2).trans rfl))
theorem rdF_put {p : Addr} {n i : Nat} {v : Nat} : putF "at" (.int (v : Nat)) (rdF p n i) = rdF p n v := by
  unfold rdF
  show (if _ then _ else _) = _
  refine (if_neg (by decide +kernel)).trans ?_
  congr 1
def peekW : List Wd → List Int
  | [] => []
  | wd :: _ => wd.2
def hereW (e : Nat) : List Wd → Nat
  | [] => e
  | wd :: _ => wd.1
theorem paired_at {α β : Type} {R : α → β → Prop} {l : List α} {xs : List β} (h : Paired R l xs) : ∀ {i : Nat} {a : α}, l[i]? = some a → ∃ v, xs[i]? = some v ∧ R a v := by
  induction h with
  | nil =>
    intro i a h
    simp at h
  | cons r t ih =>
    intro i a h
    cases i with
    | zero =>
      have e := Option.some.inj h
      subst e
      exact ⟨_, rfl, r⟩
    | succ i => exact ih h
theorem drop_at {α : Type} {l : List α} {i : Nat} {x : α} {r : List α} (h : l.drop i = x :: r) : l[i]? = some x ∧ l.drop (i + 1) = r := by
  have h1 : (l.drop i)[0]? = some x := by rw [h]; rfl
  rw [List.getElem?_drop] at h1
  refine ⟨h1, ?_⟩
  rw [← List.drop_drop, h]
  rfl
abbrev s_Reader_ended : Stmt := inClass (topS 96) 1
abbrev N_Reader_ended : List Str := ["self"]
theorem sc_Reader_ended : FnScope N_Reader_ended ["self"] (defScope s_Reader_ended) := ⟨rfl, rfl, rfl, by decide +kernel, rfl, by decide +kernel, by decide +kernel⟩
def sp_ended (K : PySem.W.Frag) : Sp := fun vs H Q _ => ∃ (r : Addr) (W : List Wd) (n i : Nat), vs = [.ref r] ∧ RdAt K H r W n i ∧ RetV (.bl (decide (i = W.length))) H Q
theorem ok_Reader_ended (T : Tx K mg) : OwnM P w K mg base CX0 1 "Reader" "ended" ["self"] (sp_ended K) := by
  refine ownM_mk T.d_Reader_ended T.k_Reader T.m_Reader_ended (fun _ _ _ _ _ _ us hl => match us, hl with | [_], _ => rfl) fun fd F => ?_
  refine F.ok sc_Reader_ended (fun vs H Q E h => by obtain ⟨r, W, n, i, rfl, _⟩ := h; rfl) (fun cdv A outer s H vs Q E hr h => ⟨_, PSs.nox
    (pss_one (ps_ret (pe_cmpR op_eq (pe_fld (pv 0) rfl) (pe_callB call_len_seq (by rfl) T.b_len PySem.boot_len (pa_cons (pe_fld (pv 0) rfl) pa_nil)) (nomark _)))), ?_⟩)
  obtain ⟨r, W, n, i, rfl, ⟨le, dx, p, xs, h1, h2, h3⟩, k⟩ := h
  refine s_ret (ev_is (ev_op (ev_fld (ev_var rfl) h1 T.k_Reader T.n_Reader_at rdF_at) (ev_lenL (ev_fld (ev_var rfl) h1 T.k_Reader T.n_Reader_words rdF_words) (sq_of h2)) rv_eqI) ?_) k
  rw [← h3.length]
  congr 1
  by_cases c : i = W.length
  · rw [decide_eq_true c, decide_eq_true (by rw [c])]
  · rw [decide_eq_false c, decide_eq_false (by omega)]
theorem spV_ended {r : Addr} {W : List Wd} {n i : Nat} {H : Hp} (h : RdAt K H r W n i) : SpV (sp_ended K) [.ref r] H (.bl (decide (i = W.length))) := fun H1 e Q q E => ⟨r, W, n, i, rfl, h.stay e, q⟩
abbrev s_Reader_peek : Stmt := inClass (topS 96) 2
abbrev N_Reader_peek : List Str := ["self"]
theorem sc_Reader_peek : FnScope N_Reader_peek ["self"] (defScope s_Reader_peek) := ⟨rfl, rfl, rfl, by decide +kernel, rfl, by decide +kernel, by decide +kernel⟩
def sp_peek (K : PySem.W.Frag) : Sp := fun vs H Q _ => ∃ (r : Addr) (W : List Wd) (n i : Nat), vs = [.ref r] ∧ RdAt K H r W n i ∧ ∀ l H2, Ex H H2 → H2 l = some (.lst ((peekW (W.drop i)).map V.int)) → Q (.ref l) H2
theorem ok_Reader_peek (T : Tx K mg) : OwnM P w K mg base CX0 2 "Reader" "peek" ["self"] (sp_peek K) := by
  refine ownM_mk T.d_Reader_peek T.k_Reader T.m_Reader_peek (fun _ _ _ _ _ _ us hl => match us, hl with | [_], _ => rfl) fun fd F => ?_
  refine F.ok sc_Reader_peek (fun vs H Q E h => by obtain ⟨r, W, n, i, rfl, _⟩ := h; rfl) (fun cdv A outer s H vs Q E hr h => ⟨_, PSs.nox
    (pss_cons (ps_if (pt_val (pe_ownM0 (ok_Reader_ended T) (pv 0) hr (by decide) pass0))
      (pss_one (ps_ret (pe_lst pa_nil)))
      pss_nil)
    (pss_one (ps_ret (pe_ix ix_tup (pe_ix ix_list (pe_fld (pv 0) rfl) (pe_fld (pv 0) rfl) (fun _ _ => rfl)) pe_int (fun _ _ => rfl))))), ?_⟩)
  obtain ⟨r, W, n, i, rfl, R, k⟩ := h
  obtain ⟨le, dx, p, xs, h1, h2, h3⟩ := R
  refine q_when (et_B (ev_meth (ev_var rfl) h1 (rdF_no (by decide +kernel)) ea_nil (spV_ended ⟨le, dx, p, xs, h1, h2, h3⟩))) (fun hb H1 e1 => ?_) (fun hb H1 e1 => ?_)
  · have hi : i = W.length := of_decide_eq_true hb
    rw [hi, List.drop_length] at k
    exact s_retL (el_lst ea_nil (by decide)) fun l H2 _ e2 hl => k l H2 (e1.trans e2) hl
  · have hi : i < W.length := by
      have := of_decide_eq_false hb
      omega
    obtain ⟨v, hv, t, l, rfl, ht, hl⟩ := paired_at h3 (List.getElem?_eq_getElem hi)
    rw [List.drop_eq_getElem_cons hi] at k
    exact s_ret (ev_itemT (ev_item (ev_fld (ev_var rfl) (e1 _ _ h1) T.k_Reader T.n_Reader_words rdF_words) (ev_fld (ev_var rfl) (e1 _ _ h1) T.k_Reader T.n_Reader_at rdF_at) (sq_of (e1 _ _ h2)) hv) (i := 1) ev_c (st_of (e1 _ _ ht)) rfl) fun H2 e2 => k l H2 (e1.trans e2) (e2 _ _ (e1 _ _ hl))
abbrev s_Reader_here : Stmt := inClass (topS 96) 3
abbrev N_Reader_here : List Str := ["self"]
theorem sc_Reader_here : FnScope N_Reader_here ["self"] (defScope s_Reader_here) := ⟨rfl, rfl, rfl, by decide +kernel, rfl, by decide +kernel, by decide +kernel⟩
def sp_here (K : PySem.W.Frag) : Sp := fun vs H Q _ => ∃ (r : Addr) (W : List Wd) (n i : Nat), vs = [.ref r] ∧ RdAt K H r W n i ∧ RetV (.int (hereW n (W.drop i) : Nat)) H Q
theorem ok_Reader_here (T : Tx K mg) : OwnM P w K mg base CX0 2 "Reader" "here" ["self"] (sp_here K) := by
  refine ownM_mk T.d_Reader_here T.k_Reader T.m_Reader_here (fun _ _ _ _ _ _ us hl => match us, hl with | [_], _ => rfl) fun fd F => ?_
  refine F.ok sc_Reader_here (fun vs H Q E h => by obtain ⟨r, W, n, i, rfl, _⟩ := h; rfl) (fun cdv A outer s H vs Q E hr h => ⟨_, PSs.nox
    (pss_cons (ps_if (pt_val (pe_ownM0 (ok_Reader_ended T) (pv 0) hr (by decide) pass0))
      (pss_one (ps_ret (pe_fld (pv 0) rfl)))
      pss_nil)
    (pss_one (ps_ret (pe_ix ix_tup (pe_ix ix_list (pe_fld (pv 0) rfl) (pe_fld (pv 0) rfl) (fun _ _ => rfl)) pe_int (fun _ _ => rfl))))), ?_⟩)
  obtain ⟨r, W, n, i, rfl, R, k⟩ := h
  obtain ⟨le, dx, p, xs, h1, h2, h3⟩ := R
  refine q_when (et_B (ev_meth (ev_var rfl) h1 (rdF_no (by decide +kernel)) ea_nil (spV_ended ⟨le, dx, p, xs, h1, h2, h3⟩))) (fun hb H1 e1 => ?_) (fun hb H1 e1 => ?_)
  · have hi : i = W.length := of_decide_eq_true hb
    rw [hi, List.drop_length] at k
    exact s_ret (ev_fld (ev_var rfl) (e1 _ _ h1) T.k_Reader T.n_Reader_length rdF_length) fun H2 e2 => k H2 (e1.trans e2)
  · have hi : i < W.length := by
      have := of_decide_eq_false hb
      omega
    obtain ⟨v, hv, t, l, rfl, ht, hl⟩ := paired_at h3 (List.getElem?_eq_getElem hi)
    rw [List.drop_eq_getElem_cons hi] at k
    exact s_ret (ev_itemT (ev_item (ev_fld (ev_var rfl) (e1 _ _ h1) T.k_Reader T.n_Reader_words rdF_words) (ev_fld (ev_var rfl) (e1 _ _ h1) T.k_Reader T.n_Reader_at rdF_at) (sq_of (e1 _ _ h2)) hv) (i := 0) ev_c (st_of (e1 _ _ ht)) rfl) fun H2 e2 => k H2 (e1.trans e2)
theorem spV_here {r : Addr} {W : List Wd} {n i : Nat} {H : Hp} (h : RdAt K H r W n i) : SpV (sp_here K) [.ref r] H (.int (hereW n (W.drop i) : Nat)) := fun H1 e Q q E => ⟨r, W, n, i, rfl, h.stay e, q⟩
abbrev s_Reader_leave : Stmt := inClass (topS 96) 4
abbrev N_Reader_leave : List Str := ["self"]
theorem sc_Reader_leave : FnScope N_Reader_leave ["self"] (defScope s_Reader_leave) := ⟨rfl, rfl, rfl, by decide +kernel, rfl, by decide +kernel, by decide +kernel⟩
def sp_leave (K : PySem.W.Frag) : Sp := fun vs H Q _ => ∃ (r : Addr) (W : List Wd) (n i : Nat), vs = [.ref r] ∧ RdAt K H r W n i ∧ i < W.length ∧ ∀ H2, ExB r H H2 → RdAt K H2 r W n (i + 1) → Q .non H2
theorem ok_Reader_leave (T : Tx K mg) : OwnM P w K mg base CX0 1 "Reader" "leave" ["self"] (sp_leave K) := by
  refine ownM_mk T.d_Reader_leave T.k_Reader T.m_Reader_leave (fun _ _ _ _ _ _ us hl => match us, hl with | [_], _ => rfl) fun fd F => ?_
  refine F.ok sc_Reader_leave (fun vs H Q E h => by obtain ⟨r, W, n, i, rfl, _⟩ := h; rfl) (fun cdv A outer s H vs Q E hr h => ⟨_, PSs.nox
    (pss_one (ps_fld (pv 0) (pe_op op_add (pe_fld (pv 0) rfl) pe_int) rfl)), ?_⟩)
  obtain ⟨r, W, n, i, rfl, ⟨le, dx, p, xs, h1, h2, h3⟩, hi, k⟩ := h
  refine ⟨_, rfl, r, cRd K, dx, _, _, rfl, h1, T.k_Reader, T.n_Reader_at, rdF_at, _, _, rfl, rfl, _, rfl, r, cRd K, dx, _, rfl, h1, T.k_Reader, T.n_Reader_at, (by show 3 < 1000; decide), ?_⟩
  have eb : ExB r H (upd H r (.ins (cRd K) dx (rdF p n (i + 1)))) := fun b o hb h => by
    rw [upd_ne hb]
    exact h
  have e2 : upd H r (.ins (cRd K) dx (putF "at" (.int ((i : Nat) + 1)) (rdF p n i))) = upd H r (.ins (cRd K) dx (rdF p n (i + 1))) := congrArg (fun q => upd H r (.ins (cRd K) dx q)) (rdF_put (v := i + 1))
  have np : p ≠ r := fun z => by
    rw [z, h1] at h2
    cases h2
  show Q .non (upd H r (.ins (cRd K) dx (putF "at" (.int ((i : Nat) + 1)) (rdF p n i))))
  rw [e2]
  exact k _ eb ⟨hi, dx, p, xs, upd_same, eb p _ np h2, Paired.mono (fun wd v h => h.stay h1 eb) h3⟩
end
end FB
-- R2
set_option Elab.async false
set_option linter.all false
set_option maxRecDepth 100000
set_option maxHeartbeats 3900000
namespace FB
open PySem PySem.Spec PyProof.Rows L2 Evl
section
variable {K : PySem.W.Frag} {mg : Str → Option Value} {P : Program} {base : Heap} {w : World}
variable {σ : L2.St} {H H' : Hp} {ta tb te : TE} {r : Addr} {W : List Wd} {n i : Nat} {E : XK} {D : Ends} {tz : TS}
/-- a list of these whole numbers -/
def IsL (K : PySem.W.Frag) (ns : List Int) (v : V) (H : Hp) : Prop := ∃ l, v = .ref l ∧ H l = some (.lst (ns.map V.int))
theorem IsL.stay {ns : List Int} {v : V} (e : Ex H H') (h : IsL K ns v H) : IsL K ns v H' := by
  obtain ⟨l, rfl, h⟩ := h
  exact ⟨l, rfl, e _ _ h⟩
/-- the same, tracked or not -/
def IsS (K : PySem.W.Frag) (ns : List Int) (v : V) (H : Hp) : Prop := ∃ l, v = .ref l ∧ SqL K H l (ns.map V.int)
theorem ep_isL {l : Addr} {ns : List Int} (h : Ev te σ H (.ref l)) (hs : SqL K H l (ns.map V.int)) : EvP te σ H (IsS K ns) := fun H1 e Q q => h H1 e Q fun H2 e2 => q _ H2 e2 ⟨l, rfl, ex_l (e.trans e2) hs⟩
theorem ep_s {ns : List Int} (h : EvP te σ H (IsL K ns)) : EvP te σ H (IsS K ns) := fun H1 e Q q => h H1 e Q fun v H2 e2 hv => q v H2 e2 (by obtain ⟨l, rfl, hl⟩ := hv; exact ⟨l, rfl, sq_of hl⟩)
theorem ep_isLN {ns : List Int} (h : EvL te σ H (ns.map V.int)) : EvP te σ H (IsL K ns) := fun H1 e Q q => h H1 e Q fun p H2 _ e2 h2 => q _ H2 e2 ⟨p, rfl, h2⟩
theorem et_neL {ns ms : List Int} (ha : EvP ta σ H (IsL K ns)) (hb : EvP tb σ H (IsS K ms)) : EvT (tTest (tOp (rNeD K) ta tb)) σ H (!decide (ns = ms)) := fun H1 e Q q =>
  ha H1 e _ fun v H2 e2 hv => hb H2 (e.trans e2) _ fun u H3 e3 hu => by
    obtain ⟨l, rfl, h1⟩ := hv
    obtain ⟨m, rfl, h2⟩ := hu
    exact rv_neInts (sq_of (e3 _ _ h1)) h2 H3 (Ex.refl _) _ fun H4 e4 => ⟨_, rfl, q H4 ((e2.trans e3).trans e4)⟩
theorem ep_peek (h : Ev ta σ H (.ref r)) (R : RdAt K H r W n i) : EvP (tMeth (cRd K) "peek" (sp_peek K) [] E ta tNil) σ H (IsL K (peekW (W.drop i))) := fun H1 e Q q =>
  h H1 e _ fun H2 e2 => by
    have R2 := R.stay (e.trans e2)
    obtain ⟨le, dx, p, xs, h1, h2, h3⟩ := R2
    exact ⟨r, dx, _, rfl, h1, rdF_no (by decide +kernel), r, W, n, i, rfl, R.stay (e.trans e2), fun l H3 e3 hl => q _ H3 (e2.trans e3) ⟨l, rfl, hl⟩⟩
theorem ev_here (h : Ev ta σ H (.ref r)) (R : RdAt K H r W n i) : Ev (tMeth (cRd K) "here" (sp_here K) [] E ta tNil) σ H (.int (hereW n (W.drop i) : Nat)) := by
  obtain ⟨le, dx, p, xs, h1, h2, h3⟩ := R
  exact ev_meth h h1 (rdF_no (by decide +kernel)) ea_nil (spV_here ⟨le, dx, p, xs, h1, h2, h3⟩)
theorem ExB.of {D : Addr} (e : Ex H H') : ExB D H H' := fun b o _ h => e b o h
theorem ExB.trans {D : Addr} {H1 H2 : Hp} (a : ExB D H H1) (b : ExB D H1 H2) : ExB D H H2 := fun x o hx h => b x o hx (a x o hx h)
theorem s_leave (h : Ev ta σ H (.ref r)) (R : RdAt K H r W n i) (hi : i < W.length) (k : ∀ H2, ExB r H H2 → RdAt K H2 r W n (i + 1) → D.nx σ H2) : tDrop (tMeth (cRd K) "leave" (sp_leave K) [] E ta tNil) D σ H := h H (Ex.refl H) _ fun H1 e1 => by
  have R2 := R.stay e1
  obtain ⟨le, dx, p, xs, h1, h2, h3⟩ := R2
  exact ⟨r, dx, _, rfl, h1, rdF_no (by decide +kernel), r, W, n, i, rfl, R.stay e1, hi, fun H2 e2 R3 => k H2 ((ExB.of e1).trans e2) R3⟩
theorem q_leave (h : Ev ta σ H (.ref r)) (R : RdAt K H r W n i) (hi : i < W.length) (k : ∀ H2, ExB r H H2 → RdAt K H2 r W n (i + 1) → tz D σ H2) : tSeq (tDrop (tMeth (cRd K) "leave" (sp_leave K) [] E ta tNil)) tz D σ H := s_leave (D := { D with nx := tz D }) h R hi k
theorem q_asgP {j : Nat} {Pr : V → Hp → Prop} (h : EvP te σ H Pr) (k : ∀ v H1, Ex H H1 → Pr v H1 → tz D (σ.set j (some v)) H1) : tSeq (tAsg te (gName j)) tz D σ H := h H (Ex.refl H) _ fun v H1 e hv => k v H1 e hv
theorem s_retP {Pr : V → Hp → Prop} (h : EvP te σ H Pr) (k : ∀ v H1, Ex H H1 → Pr v H1 → D.rt v H1) : tRet te D σ H := h H (Ex.refl H) _ fun v H1 e hv => k v H1 e hv
theorem peek_lt (h : peekW (W.drop i) ≠ []) : i < W.length := by
  by_cases c : i < W.length
  · exact c
  · rw [List.drop_of_length_le (by omega)] at h
    exact absurd rfl h
/-- what a def that goes along the reader comes to: so many words are taken, or a fault's place -/
def RdRes {α : Type} (K : PySem.W.Frag) (H : Hp) (r : Addr) (W : List Wd) (n i : Nat) (res : Except Nat (α × Nat)) (val : α → V → Hp → Prop) (Q : VK) (E : XK) : Prop :=
  (∀ a c, res = .ok (a, c) → ∀ v H2, ExB r H H2 → RdAt K H2 r W n (i + c) → val a v H2 → Q v H2) ∧ (∀ e, res = .error e → ∀ d H2, ExB r H H2 → H2 d = some (.xd [("place", .int (e : Nat))]) → E (.ref (cSF K)) (some d) H2)
theorem spV_is_name {l : Addr} {ns : List Int} (h : SqL K H l (ns.map V.int)) (hz : ns.length ≤ 40000) : SpV (sp_is_name K) [.ref l] H (.bl (isNam ns)) := fun H1 e Q q E => ⟨l, ns, rfl, ex_l e h, hz, q⟩
theorem spV_is_number {l : Addr} {ns : List Int} (h : SqL K H l (ns.map V.int)) (hz : ns.length ≤ 40000) : SpV (sp_is_number K) [.ref l] H (.bl (isNum ns)) := fun H1 e Q q E => ⟨l, ns, rfl, ex_l e h, hz, q⟩
theorem spV_number_of {l : Addr} {ns : List Int} (h : SqL K H l (ns.map V.int)) : SpV (sp_number_of K) [.ref l] H (.int (numOf ns)) := fun H1 e Q q E => ⟨l, ns, rfl, ex_l e h, q⟩
abbrev s_take_word : Stmt := topS 97
abbrev N_take_word : List Str := ["reader", "word"]
theorem sc_take_word : FnScope N_take_word ["reader", "word"] (defScope s_take_word) := ⟨rfl, rfl, rfl, by decide +kernel, rfl, by decide +kernel, by decide +kernel⟩
def wordW (n : Nat) (b : List Int) (ws : List Wd) : Except Nat (Unit × Nat) := if (!decide (peekW ws = b)) = true then .error (hereW n ws) else .ok ((), 1)
def sp_take_word (K : PySem.W.Frag) : Sp := fun vs H Q E => ∃ (r : Addr) (W : List Wd) (n i : Nat) (b : Addr) (bs : List Int), vs = [.ref r, .ref b] ∧ RdAt K H r W n i ∧ SqL K H b (bs.map V.int) ∧ bs ≠ [] ∧ RdRes K H r W n i (wordW n bs (W.drop i)) (fun _ v _ => v = .non) Q E
theorem ok_take_word (T : Tx K mg) : Own P w K mg base (L2.CX P w) 3 "take_word" ["reader", "word"] (sp_take_word K) := by
  refine own_mk T.d_take_word T.g_take_word (fun _ _ _ _ _ _ us hl => match us, hl with | [_, _], _ => rfl) fun fd F => ?_
  refine F.ok sc_take_word (fun vs H Q E h => by obtain ⟨r, W, n, i, b, bs, rfl, _⟩ := h; rfl) (fun cdv A outer s H vs Q E hr h => ⟨_,
    (pss_cons (ps_if (pt_cmpR (op_neD hr.units) (pe_ownM0 (ok_Reader_peek T) (pv 0) hr (by decide) pass0) (pv 1) (nomark _))
      (pss_one (ps_raise rfl (takes_of rfl rfl rfl rfl) (pmk_own_ScheduleFault T hr (by decide) (pa_cons (pe_ownM0 (ok_Reader_here T) (pv 0) hr (by decide) pass0) pa_nil))))
      pss_nil)
    (pss_one (ps_expr (pe_ownM0 (ok_Reader_leave T) (pv 0) hr (by decide) pass0)))), ?_⟩)
  obtain ⟨r, W, n, i, b, bs, rfl, R, hb, hne, kO, kE⟩ := h
  unfold wordW at kO kE
  refine q_when (et_neL (ep_peek (ev_var rfl) R) (ep_isL (ev_var rfl) hb)) (fun c H1 e1 => ?_) (fun c H1 e1 => ?_)
  · exact mk_SF (ev_here (ev_var rfl) (R.stay e1)) fun d H2 e2 hd => kE _ (if_pos c) d H2 (ExB.of (e1.trans e2)) hd
  · have e : peekW (W.drop i) = bs := by simpa using c
    exact s_leave (ev_var rfl) (R.stay e1) (peek_lt (by rw [e]; exact hne)) fun H2 e2 R2 => kO () 1 (if_neg (by rw [c]; decide)) _ H2 ((ExB.of e1).trans e2) R2 rfl
abbrev s_take_name : Stmt := topS 98
abbrev N_take_name : List Str := ["reader", "word"]
theorem sc_take_name : FnScope N_take_name ["reader"] (defScope s_take_name) := ⟨rfl, rfl, rfl, by decide +kernel, rfl, by decide +kernel, by decide +kernel⟩
def nameW (n : Nat) (ws : List Wd) : Except Nat (List Int × Nat) := if (!isNam (peekW ws)) = true then .error (hereW n ws) else .ok (peekW ws, 1)
def sp_take_name (K : PySem.W.Frag) : Sp := fun vs H Q E => ∃ (r : Addr) (W : List Wd) (n i : Nat), vs = [.ref r] ∧ RdAt K H r W n i ∧ (peekW (W.drop i)).length ≤ 40000 ∧ RdRes K H r W n i (nameW n (W.drop i)) (IsL K) Q E
theorem sq_stayB {C dx l : Addr} {fs : List (Str × V)} {xs : List V} (hr : H r = some (.ins C dx fs)) (e : ExB r H H') (h : SqL K H l xs) : SqL K H' l xs := by
  have ne : ∀ {o : HO}, H l = some o → (∀ C dx fs, o ≠ .ins C dx fs) → l ≠ r := fun {o} h1 h2 z => by
    rw [z, hr] at h1
    exact h2 _ _ _ (Option.some.inj h1).symm
  rcases h with (own | ⟨o, locked⟩) | written
  · exact .inl (.inl (e l _ (ne own fun _ _ _ z => nomatch z) own))
  · exact .inl (.inr ⟨o, e l _ (ne locked fun _ _ _ z => nomatch z) locked⟩)
  · exact .inr written
theorem IsL.stayB {ns : List Int} {v : V} (R : RdAt K H r W n i) (e : ExB r H H') (h : IsL K ns v H) : IsL K ns v H' := by
  obtain ⟨le, dx, p, xs, h1, h2, h3⟩ := R
  obtain ⟨l, rfl, h⟩ := h
  exact ⟨l, rfl, e _ _ (fun z => by rw [z, h1] at h; cases h) h⟩
theorem ok_take_name (T : Tx K mg) : Own P w K mg base (L2.CX P w) 3 "take_name" ["reader"] (sp_take_name K) := by
  refine own_mk T.d_take_name T.g_take_name (fun _ _ _ _ _ _ us hl => match us, hl with | [_], _ => rfl) fun fd F => ?_
  refine F.ok sc_take_name (fun vs H Q E h => by obtain ⟨r, W, n, i, rfl, _⟩ := h; rfl) (fun cdv A outer s H vs Q E hr h => ⟨_,
    (pss_cons (ps_set (i := 1) sc_take_name.nd rfl (Or.inl rfl) (pe_ownM0 (ok_Reader_peek T) (pv 0) hr (by decide) pass0))
    (pss_cons (ps_if (pt_not (pt_val (pe_own (ok_is_name T) hr (by decide) pass0 (pa_cons (pv 1) pa_nil))))
      (pss_one (ps_raise rfl (takes_of rfl rfl rfl rfl) (pmk_own_ScheduleFault T hr (by decide) (pa_cons (pe_ownM0 (ok_Reader_here T) (pv 0) hr (by decide) pass0) pa_nil))))
      pss_nil)
    (pss_cons (ps_expr (pe_ownM0 (ok_Reader_leave T) (pv 0) hr (by decide) pass0))
    (pss_one (ps_ret (pv 1)))))), ?_⟩)
  obtain ⟨r, W, n, i, rfl, R, hz, kO, kE⟩ := h
  unfold nameW at kO kE
  refine q_asgP (ep_peek (ev_var rfl) R) fun v H1 e1 hv => ?_
  obtain ⟨l, rfl, hl⟩ := hv
  refine q_when (et_not (et_B (ev_call (ea_cons (ev_var rfl) ea_nil) (spV_is_name (sq_of hl) hz)))) (fun c H2 e2 => ?_) (fun c H2 e2 => ?_)
  · exact mk_SF (ev_here (ev_var rfl) (R.stay (e1.trans e2))) fun d H3 e3 hd => kE _ (if_pos c) d H3 (ExB.of ((e1.trans e2).trans e3)) hd
  · have hn : peekW (W.drop i) ≠ [] := fun z => by
      rw [z] at c
      cases c
    have R2 := R.stay (e1.trans e2)
    refine q_leave (ev_var rfl) R2 (peek_lt hn) fun H3 e3 R3 => ?_
    exact s_ret (ev_var rfl) fun H4 e4 => kO _ 1 (if_neg (by rw [c]; decide)) _ H4 (((ExB.of (e1.trans e2)).trans e3).trans (ExB.of e4)) (R3.stay e4) (IsL.stay e4 (IsL.stayB R2 e3 ⟨l, rfl, e2 _ _ hl⟩))
abbrev s_take_number : Stmt := topS 99
abbrev N_take_number : List Str := ["reader", "word"]
theorem sc_take_number : FnScope N_take_number ["reader"] (defScope s_take_number) := ⟨rfl, rfl, rfl, by decide +kernel, rfl, by decide +kernel, by decide +kernel⟩
def numW (n : Nat) (ws : List Wd) : Except Nat (Int × Nat) := if (!isNum (peekW ws)) = true then .error (hereW n ws) else .ok (numOf (peekW ws), 1)
def sp_take_number (K : PySem.W.Frag) : Sp := fun vs H Q E => ∃ (r : Addr) (W : List Wd) (n i : Nat), vs = [.ref r] ∧ RdAt K H r W n i ∧ (peekW (W.drop i)).length ≤ 40000 ∧ RdRes K H r W n i (numW n (W.drop i)) (fun z v _ => v = .int z) Q E
theorem ok_take_number (T : Tx K mg) : Own P w K mg base (L2.CX P w) 3 "take_number" ["reader"] (sp_take_number K) := by
  refine own_mk T.d_take_number T.g_take_number (fun _ _ _ _ _ _ us hl => match us, hl with | [_], _ => rfl) fun fd F => ?_
  refine F.ok sc_take_number (fun vs H Q E h => by obtain ⟨r, W, n, i, rfl, _⟩ := h; rfl) (fun cdv A outer s H vs Q E hr h => ⟨_,
    (pss_cons (ps_set (i := 1) sc_take_number.nd rfl (Or.inl rfl) (pe_ownM0 (ok_Reader_peek T) (pv 0) hr (by decide) pass0))
    (pss_cons (ps_if (pt_not (pt_val (pe_own (ok_is_number T) hr (by decide) pass0 (pa_cons (pv 1) pa_nil))))
      (pss_one (ps_raise rfl (takes_of rfl rfl rfl rfl) (pmk_own_ScheduleFault T hr (by decide) (pa_cons (pe_ownM0 (ok_Reader_here T) (pv 0) hr (by decide) pass0) pa_nil))))
      pss_nil)
    (pss_cons (ps_expr (pe_ownM0 (ok_Reader_leave T) (pv 0) hr (by decide) pass0))
    (pss_one (ps_ret (pe_own (ok_number_of T) hr (by decide) pass0 (pa_cons (pv 1) pa_nil))))))), ?_⟩)
  obtain ⟨r, W, n, i, rfl, R, hz, kO, kE⟩ := h
  unfold numW at kO kE
  refine q_asgP (ep_peek (ev_var rfl) R) fun v H1 e1 hv => ?_
  obtain ⟨l, rfl, hl⟩ := hv
  refine q_when (et_not (et_B (ev_call (ea_cons (ev_var rfl) ea_nil) (spV_is_number (sq_of hl) hz)))) (fun c H2 e2 => ?_) (fun c H2 e2 => ?_)
  · exact mk_SF (ev_here (ev_var rfl) (R.stay (e1.trans e2))) fun d H3 e3 hd => kE _ (if_pos c) d H3 (ExB.of ((e1.trans e2).trans e3)) hd
  · have hn : peekW (W.drop i) ≠ [] := fun z => by
      rw [z] at c
      cases c
    have R2 := R.stay (e1.trans e2)
    obtain ⟨le, dx, p, xs, h1, h2, h3⟩ := R.stay (e1.trans e2)
    refine q_leave (ev_var rfl) R2 (peek_lt hn) fun H3 e3 R3 => ?_
    exact s_ret (ev_call (ea_cons (ev_var rfl) ea_nil) (spV_number_of (sq_stayB h1 e3 (sq_of (e2 _ _ hl))))) fun H4 e4 => kO _ 1 (if_neg (by rw [c]; decide)) _ H4 (((ExB.of (e1.trans e2)).trans e3).trans (ExB.of e4)) (R3.stay e4) rfl
end
end FB
-- R3
set_option Elab.async false
set_option linter.all false
set_option maxRecDepth 100000
set_option maxHeartbeats 3900000
namespace FB
open PySem PySem.Spec PyProof.Rows L2 Evl
section
variable {K : PySem.W.Frag} {mg : Str → Option Value} {P : Program} {base : Heap} {w : World}
variable {σ : L2.St} {H H' : Hp} {ta tb te : TE} {r : Addr} {W : List Wd} {n i : Nat} {E : XK} {D : Ends} {tz : TS}
theorem drop_drop1 {α : Type} (l : List α) (i : Nat) : (l.drop i).drop 1 = l.drop (i + 1) := by rw [List.drop_drop]
/-- x = f(reader, ..) where f may raise -/
theorem q_asgRd {α : Type} {j : Nat} {sp : Sp} {res : Except Nat (α × Nat)} {val : α → V → Hp → Prop} {t : TA} {vs : List V} (ht : EvA t σ H vs) (hR : RdAt K H r W n i) (hsp : ∀ H1 Q, Ex H H1 → RdRes K H1 r W n i res val Q E → sp vs H1 Q E)
    (k : ∀ a c, res = .ok (a, c) → ∀ v H2, ExB r H H2 → RdAt K H2 r W n (i + c) → val a v H2 → tz D (σ.set j (some v)) H2) (kE : ∀ e, res = .error e → ∀ d H2, ExB r H H2 → H2 d = some (.xd [("place", .int (e : Nat))]) → E (.ref (cSF K)) (some d) H2) :
    tSeq (tAsg (tCall sp [] E t) (gName j)) tz D σ H := ht H (Ex.refl H) _ fun H1 e1 => by
  show sp (vs ++ []) H1 _ E
  rw [List.append_nil]
  exact hsp H1 _ e1 ⟨fun a c h v H2 eb R2 hv => k a c h v H2 ((ExB.of e1).trans eb) R2 hv, fun e h d H2 eb hd => kE e h d H2 ((ExB.of e1).trans eb) hd⟩
/-- f(reader, ..) by itself; what the arguments are is told by a property -/
def EvAP (t : TA) (σ : L2.St) (H : Hp) (Pr : List V → Hp → Prop) : Prop := ∀ H1, Ex H H1 → ∀ Q : List V → Hp → Prop, (∀ vs H2, Ex H1 H2 → Pr vs H2 → Q vs H2) → t σ H1 Q
theorem q_dropRd {α : Type} {sp : Sp} {res : Except Nat (α × Nat)} {val : α → V → Hp → Prop} {t : TA} {Pr : List V → Hp → Prop} (ht : EvAP t σ H Pr) (hsp : ∀ vs H1 Q, Ex H H1 → Pr vs H1 → RdRes K H1 r W n i res val Q E → sp vs H1 Q E)
    (k : ∀ a c, res = .ok (a, c) → ∀ v H2, ExB r H H2 → RdAt K H2 r W n (i + c) → val a v H2 → tz D σ H2) (kE : ∀ e, res = .error e → ∀ d H2, ExB r H H2 → H2 d = some (.xd [("place", .int (e : Nat))]) → E (.ref (cSF K)) (some d) H2) :
    tSeq (tDrop (tCall sp [] E t)) tz D σ H := ht H (Ex.refl H) _ fun vs H1 e1 hv => by
  rw [List.append_nil]
  exact hsp vs H1 _ e1 hv ⟨fun a c h v H2 eb R2 hv => k a c h v H2 ((ExB.of e1).trans eb) R2 hv, fun e h d H2 eb hd => kE e h d H2 ((ExB.of e1).trans eb) hd⟩
theorem eap_one {x : V} {Pr : V → Hp → Prop} (ha : Ev ta σ H x) (hb : EvP tb σ H Pr) : EvAP (tCons ta (tCons tb tNil)) σ H (fun vs H2 => ∃ v, vs = [x, v] ∧ Pr v H2) := fun H1 e Q q => ha H1 e _ fun H2 e2 => hb H2 (e.trans e2) _ fun v H3 e3 hv => q _ H3 (e2.trans e3) ⟨v, rfl, hv⟩
theorem freshB {a : Addr} (e : ExB r H H') (hr : H' r ≠ none) (h : H' a = none) : H a = none := by
  cases q : H a with
  | none => rfl
  | some o =>
    by_cases c : a = r
    · rw [c] at h
      exact absurd h hr
    · rw [e a o c q] at h
      cases h
abbrev s_take_option : Stmt := topS 100
abbrev N_take_option : List Str := ["reader", "word", "most", "place", "number"]
theorem sc_take_option : FnScope N_take_option ["reader", "word", "most"] (defScope s_take_option) := ⟨rfl, rfl, rfl, by decide +kernel, rfl, by decide +kernel, by decide +kernel⟩
def optW (n : Nat) (b : List Int) (most : Int) (ws : List Wd) : Except Nat (Int × Nat) := if (!decide (peekW ws = b)) = true then .ok (0, 0) else
  if (!isNum (peekW (ws.drop 1))) = true then .error (hereW n (ws.drop 1)) else if decide (most < numOf (peekW (ws.drop 1))) = true then .error (hereW n (ws.drop 1)) else .ok (numOf (peekW (ws.drop 1)), 2)
def sp_take_option (K : PySem.W.Frag) : Sp := fun vs H Q E => ∃ (r : Addr) (W : List Wd) (n i : Nat) (z : Str) (most : Int), vs = [.ref r, .str z, .int most] ∧ RdAt K H r W n i ∧ (∀ wd ∈ W, wd.2.length ≤ 40000) ∧ z.cps.toList.length ≤ 40000 ∧ codesOf z ≠ [] ∧
  RdRes K H r W n i (optW n (codesOf z) most (W.drop i)) (fun z v _ => v = .int z) Q E
theorem peek_len (hW : ∀ wd ∈ W, wd.2.length ≤ 40000) : (peekW (W.drop i)).length ≤ 40000 := by
  cases e : W.drop i with
  | nil => exact Nat.zero_le _
  | cons wd l =>
    have : wd ∈ W := List.mem_of_mem_drop (by rw [e]; exact List.mem_cons_self ..)
    exact hW wd this
theorem ok_take_option (T : Tx K mg) : Own P w K mg base (L2.CX P w) 4 "take_option" ["reader", "word", "most"] (sp_take_option K) := by
  refine own_mk T.d_take_option T.g_take_option (fun _ _ _ _ _ _ us hl => match us, hl with | [_, _, _], _ => rfl) fun fd F => ?_
  refine F.ok sc_take_option (fun vs H Q E h => by obtain ⟨r, W, n, i, z, m, rfl, _⟩ := h; rfl) (fun cdv A outer s H vs Q E hr h => ⟨_,
    (pss_cons (ps_if (pt_cmpR (op_neD hr.units) (pe_ownM0 (ok_Reader_peek T) (pv 0) hr (by decide) pass0) (pe_own (ok_spelled T) hr (by decide) pass0 (pa_cons (pv 1) pa_nil)) (nomark _))
      (pss_one (ps_ret pe_int))
      pss_nil)
    (pss_cons (ps_expr (pe_ownM0 (ok_Reader_leave T) (pv 0) hr (by decide) pass0))
    (pss_cons (ps_set (i := 3) sc_take_option.nd rfl (Or.inl rfl) (pe_ownM0 (ok_Reader_here T) (pv 0) hr (by decide) pass0))
    (pss_cons (ps_set (i := 4) sc_take_option.nd rfl (Or.inl rfl) (pe_own (ok_take_number T) hr (by decide) (passes_call (takes_of rfl rfl rfl rfl) (fun _ _ _ _ h => h)) (pa_cons (pv 0) pa_nil)))
    (pss_cons (ps_if (pt_cmpR op_gt (pv 4) (pv 2) (nomark _))
      (pss_one (ps_raise rfl (takes_of rfl rfl rfl rfl) (pmk_own_ScheduleFault T hr (by decide) (pa_cons (pv 3) pa_nil))))
      pss_nil)
    (pss_one (ps_ret (pv 4)))))))), ?_⟩)
  obtain ⟨r, W, n, i, z, m, rfl, R, hW, hz, hne, kO, kE⟩ := h
  unfold optW at kO kE
  refine q_when (et_neL (ep_peek (ev_var rfl) R) (ep_s (ep_isLN (el_call (ea_cons (ev_var rfl) ea_nil) (spL_spelled hz))))) (fun c H1 e1 => ?_) (fun c H1 e1 => ?_)
  · exact s_ret ev_c fun H2 e2 => kO _ 0 (if_pos c) _ H2 (ExB.of (e1.trans e2)) (R.stay (e1.trans e2)) rfl
  have c' : ¬ ((!decide (peekW (W.drop i) = codesOf z)) = true) := by rw [c]; decide
  have e : peekW (W.drop i) = codesOf z := by simpa using c
  rw [if_neg c', drop_drop1] at kO kE
  refine q_leave (ev_var rfl) (R.stay e1) (peek_lt (by rw [e]; exact hne)) fun H2 e2 R2 => ?_
  refine q_asg (ev_here (ev_var rfl) R2) fun H3 e3 => ?_
  have b3 : ExB r H H3 := ((ExB.of e1).trans e2).trans (ExB.of e3)
  refine q_asgRd (K := K) (W := W) (i := i + 1) (res := numW n (W.drop (i + 1))) (ea_cons (ev_var rfl) ea_nil) (R2.stay e3) (fun H4 Q e4 h => ⟨r, W, n, i + 1, rfl, R2.stay (e3.trans e4), peek_len hW, h⟩) (fun a cn hres v H4 e4 R4 hv => ?_) (fun er he d H4 e4 hd => ?_)
  · subst hv
    unfold numW at hres
    split at hres
    · cases hres
    · rename_i hn
      cases hres
      rw [if_neg hn] at kO kE
      refine q_when (et_test (ev_op (ev_var rfl) (ev_var rfl) rv_cmp)) (fun c2 H5 e5 => ?_) (fun c2 H5 e5 => ?_)
      · exact mk_SF (ev_var rfl) fun d H6 e6 hd => kE _ (if_pos c2) d H6 ((b3.trans e4).trans (ExB.of (e5.trans e6))) hd
      · exact s_ret (ev_var rfl) fun H6 e6 => kO _ 2 (if_neg (by rw [c2]; decide)) _ H6 ((b3.trans e4).trans (ExB.of (e5.trans e6))) (R4.stay (e5.trans e6)) rfl
  · unfold numW at he
    split at he
    · rename_i hn
      cases he
      exact kE _ (if_pos hn) d H4 (b3.trans e4) hd
    · cases he
abbrev s_take_shared : Stmt := topS 101
abbrev N_take_shared : List Str := ["reader"]
theorem sc_take_shared : FnScope N_take_shared ["reader"] (defScope s_take_shared) := ⟨rfl, rfl, rfl, by decide +kernel, rfl, by decide +kernel, by decide +kernel⟩
def sharedW (ws : List Wd) : Bool := decide (peekW ws = codesOf "shared")
def sp_take_shared (K : PySem.W.Frag) : Sp := fun vs H Q _ => ∃ (r : Addr) (W : List Wd) (n i : Nat), vs = [.ref r] ∧ RdAt K H r W n i ∧ ∀ H2, ExB r H H2 → RdAt K H2 r W n (if sharedW (W.drop i) = true then i + 1 else i) → Q (.bl (sharedW (W.drop i))) H2
theorem ok_take_shared (T : Tx K mg) : Own P w K mg base CX0 3 "take_shared" ["reader"] (sp_take_shared K) := by
  refine own_mk T.d_take_shared T.g_take_shared (fun _ _ _ _ _ _ us hl => match us, hl with | [_], _ => rfl) fun fd F => ?_
  refine F.ok sc_take_shared (fun vs H Q E h => by obtain ⟨r, W, n, i, rfl, _⟩ := h; rfl) (fun cdv A outer s H vs Q E hr h => ⟨_, PSs.nox
    (pss_cons (ps_if (pt_cmpR (op_neD hr.units) (pe_ownM0 (ok_Reader_peek T) (pv 0) hr (by decide) pass0) (pe_own (ok_spelled T) hr (by decide) pass0 (pa_cons pe_str pa_nil)) (nomark _))
      (pss_one (ps_ret pe_bl))
      pss_nil)
    (pss_cons (ps_expr (pe_ownM0 (ok_Reader_leave T) (pv 0) hr (by decide) pass0))
    (pss_one (ps_ret pe_bl)))), ?_⟩)
  obtain ⟨r, W, n, i, rfl, R, k⟩ := h
  refine q_when (et_neL (ep_peek (ev_var rfl) R) (ep_s (ep_isLN (el_call (ea_cons ev_c ea_nil) (spL_spelled (by decide)))))) (fun c H1 e1 => ?_) (fun c H1 e1 => ?_)
  · have e : sharedW (W.drop i) = false := by simpa [sharedW] using c
    rw [e] at k
    exact s_ret ev_c fun H2 e2 => k H2 (ExB.of (e1.trans e2)) (R.stay (e1.trans e2))
  · have e : sharedW (W.drop i) = true := by simpa [sharedW] using c
    have e' : peekW (W.drop i) = codesOf "shared" := by simpa using c
    rw [e] at k
    refine q_leave (ev_var rfl) (R.stay e1) (peek_lt (by rw [e']; decide)) fun H2 e2 R2 => ?_
    exact s_ret ev_c fun H3 e3 => k H3 (((ExB.of e1).trans e2).trans (ExB.of e3)) (R2.stay e3)
end
end FB
-- C1
set_option Elab.async false
set_option linter.all false
set_option maxRecDepth 100000
set_option maxHeartbeats 3900000
namespace FB
open PySem PySem.Spec PyProof.Rows L2 Evl
section
variable {K : PySem.W.Frag} {mg : Str → Option Value} {P : Program} {base : Heap} {w : World}
variable {σ : L2.St} {H H' : Hp} {ta tv te : TE} {p C dx : Addr} {fs : List (Str × V)} {f : Str} {v : V} {E : XK} {D : Ends} {tz : TS}
/-! ### own classes: fields stored one behind another, instances made -/
theorem putF_new : ∀ {fs : List (Str × V)} {f : Str} {v : V}, (fs.all fun q => !decide (q.1 = f)) = true → putF f v fs = fs ++ [(f, v)]
  | [], _, _, _ => rfl
  | (g, x) :: r, f, v, h => by
    have h2 : ((!decide (g = f)) && (r.all fun q => !decide (q.1 = f))) = true := h
    rw [Bool.and_eq_true] at h2
    show (if g = f then (g, v) :: r else (g, x) :: putF f v r) = (g, x) :: (r ++ [(f, v)])
    rw [if_neg (by simpa using h2.1), putF_new h2.2]
/-- o.f = e, a new field -/
theorem s_fldNew (hv : Ev tv σ H v) (ho : Ev ta σ H (.ref p)) (hp : H p = some (.ins C dx fs)) (cl : Cls K C) (no : NoAttr K C f) (k : ∀ H1, Ex H H1 → D.nx σ (upd H1 p (.ins C dx (fs ++ [(f, v)])))) (hn : (fs.all fun q => !decide (q.1 = f)) = true := by kernel_rfl) (hl : Nat.blt fs.length 1000 = true := by rfl) : sFld K ta tv f D σ H :=
  hv H (Ex.refl H) _ fun H1 e1 => ho H1 e1 _ fun H2 e2 => ⟨p, C, dx, fs, rfl, e2 _ _ (e1 _ _ hp), cl, no, Nat.le_of_ble_eq_true hl, by
    rw [putF_new hn]
    exact k H2 (e1.trans e2)⟩
theorem q_fldNew (hv : Ev tv σ H v) (ho : Ev ta σ H (.ref p)) (hp : H p = some (.ins C dx fs)) (cl : Cls K C) (no : NoAttr K C f) (k : ∀ H1, Ex H H1 → tz D σ (upd H1 p (.ins C dx (fs ++ [(f, v)])))) (hn : (fs.all fun q => !decide (q.1 = f)) = true := by kernel_rfl) (hl : Nat.blt fs.length 1000 = true := by rfl) : tSeq (sFld K ta tv f) tz D σ H :=
  s_fldNew (D := { D with nx := tz D }) hv ho hp cl no k hn hl
theorem exB_upd {H H1 : Hp} {p : Addr} {o : HO} (e : ExB p H H1) : ExB p H (upd H1 p o) := fun b u hb h => by
  rw [upd_ne hb]
  exact e b u hb h
theorem exB_ex {H H1 H2 : Hp} {p : Addr} (e : ExB p H H1) (e2 : Ex H1 H2) : ExB p H H2 := fun b u hb h => e2 b u (e b u hb h)
/-- an __init__ that stores its parameters, each by its name -/
def spPlain (C : Addr) (names : List Str) : Sp := fun vs H Q _ => ∃ (p dx : Addr) (args : List V), vs = .ref p :: args ∧ args.length = names.length ∧ H p = some (.ins C dx []) ∧ ∀ H2, ExB p H H2 → H2 p = some (.ins C dx (names.zip args)) → Q .non H2
/-- C(..): a new instance -/
theorem eq_make {t : TA} {vs : List V} {sp : Sp} {fs : List (Str × V)} (ht : EvA t σ H vs) (hsp : ∀ x dx H1 Q, H1 x = some (.ins C dx []) → (∀ H2, ExB x H1 H2 → H2 x = some (.ins C dx fs) → Q .non H2) → sp (.ref x :: vs) H1 Q E) :
    EvQ (tMake C sp [] E t) σ H (fun v H1 H2 => ∃ x dx, v = .ref x ∧ H1 x = none ∧ H2 x = some (.ins C dx fs)) := fun H1 e Q q => ht H1 e _ fun H2 e2 x dx nx nd ne => by
  rw [List.append_nil]
  refine hsp x dx _ _ upd_same fun H3 e3 h3 => ⟨rfl, q _ H3 (fun b o hb => ?_) ⟨x, dx, rfl, fresh_back e2 nx, h3⟩⟩
  have hb2 := e2 b o hb
  have n1 : b ≠ x := ne_of_none hb2 nx
  have n2 : b ≠ dx := ne_of_none hb2 nd
  refine e3 b o n1 ?_
  rw [upd_ne n1, upd_ne n2]
  exact hb2
theorem sp_plain_ok {names : List Str} {vs : List V} (hl : vs.length = names.length) : ∀ x dx H1 Q, H1 x = some (.ins C dx []) → (∀ H2, ExB x H1 H2 → H2 x = some (.ins C dx (names.zip vs)) → Q .non H2) → spPlain C names (.ref x :: vs) H1 Q E :=
  fun x dx H1 Q h k => ⟨x, dx, vs, rfl, hl, h, k⟩
abbrev s_Fee___init__ : Stmt := inClass (topS 94) 0
abbrev N_Fee___init__ : List Str := ["self", "name", "amount", "above", "late", "small", "shared"]
theorem sc_Fee___init__ : FnScope N_Fee___init__ ["self", "name", "amount", "above", "late", "small", "shared"] (defScope s_Fee___init__) := ⟨rfl, rfl, rfl, by decide +kernel, rfl, by decide +kernel, by decide +kernel⟩
abbrev feeNames : List Str := ["name", "amount", "above", "late", "small", "shared"]
theorem mk_Fee (T : Tx K mg) : OwnC P w K mg base 1 "Fee" ["self", "name", "amount", "above", "late", "small", "shared"] (spPlain (He.ga K "Fee") feeNames) := by
  refine ownC_mk T.d_Fee___init__ T.g_Fee T.i_Fee (fun _ _ _ _ _ _ us hl => match us, hl with | [_, _, _, _, _, _, _], _ => rfl) fun fd F => ?_
  refine F.ok sc_Fee___init__ (fun vs H Q E h => by obtain ⟨p, dx, args, rfl, hl, _⟩ := h; simpa using hl) (fun cdv A outer s H vs Q E hr h => ⟨_, PSs.nox
    (pss_cons (ps_fld (pv 0) (pv 1) rfl)
    (pss_cons (ps_fld (pv 0) (pv 2) rfl)
    (pss_cons (ps_fld (pv 0) (pv 3) rfl)
    (pss_cons (ps_fld (pv 0) (pv 4) rfl)
    (pss_cons (ps_fld (pv 0) (pv 5) rfl)
    (pss_one (ps_fld (pv 0) (pv 6) rfl))))))), ?_⟩)
  obtain ⟨p, dx, args, rfl, hl, hp, k⟩ := h
  match args, hl with
  | [a1, a2, a3, a4, a5, a6], _ =>
    refine q_fldNew (ev_var rfl) (ev_var rfl) hp T.k_Fee T.n_Fee_name fun H1 e1 => ?_
    refine q_fldNew (ev_var rfl) (ev_var rfl) upd_same T.k_Fee T.n_Fee_amount fun H2 e2 => ?_
    refine q_fldNew (ev_var rfl) (ev_var rfl) upd_same T.k_Fee T.n_Fee_above fun H3 e3 => ?_
    refine q_fldNew (ev_var rfl) (ev_var rfl) upd_same T.k_Fee T.n_Fee_late fun H4 e4 => ?_
    refine q_fldNew (ev_var rfl) (ev_var rfl) upd_same T.k_Fee T.n_Fee_small fun H5 e5 => ?_
    refine s_fldNew (ev_var rfl) (ev_var rfl) upd_same T.k_Fee T.n_Fee_shared fun H6 e6 => ?_
    exact k _ (exB_upd (exB_ex (exB_upd (exB_ex (exB_upd (exB_ex (exB_upd (exB_ex (exB_upd (exB_ex (exB_upd (fun b o _ h => e1 b o h)) e2)) e3)) e4)) e5)) e6)) upd_same
abbrev s_Schedule___init__ : Stmt := inClass (topS 95) 0
abbrev N_Schedule___init__ : List Str := ["self", "day", "text", "fees"]
theorem sc_Schedule___init__ : FnScope N_Schedule___init__ ["self", "day", "text", "fees"] (defScope s_Schedule___init__) := ⟨rfl, rfl, rfl, by decide +kernel, rfl, by decide +kernel, by decide +kernel⟩
abbrev scheduleNames : List Str := ["day", "text", "fees"]
theorem mk_Schedule (T : Tx K mg) : OwnC P w K mg base 1 "Schedule" ["self", "day", "text", "fees"] (spPlain (He.ga K "Schedule") scheduleNames) := by
  refine ownC_mk T.d_Schedule___init__ T.g_Schedule T.i_Schedule (fun _ _ _ _ _ _ us hl => match us, hl with | [_, _, _, _], _ => rfl) fun fd F => ?_
  refine F.ok sc_Schedule___init__ (fun vs H Q E h => by obtain ⟨p, dx, args, rfl, hl, _⟩ := h; simpa using hl) (fun cdv A outer s H vs Q E hr h => ⟨_, PSs.nox
    (pss_cons (ps_fld (pv 0) (pv 1) rfl)
    (pss_cons (ps_fld (pv 0) (pv 2) rfl)
    (pss_one (ps_fld (pv 0) (pv 3) rfl)))), ?_⟩)
  obtain ⟨p, dx, args, rfl, hl, hp, k⟩ := h
  match args, hl with
  | [a1, a2, a3], _ =>
    refine q_fldNew (ev_var rfl) (ev_var rfl) hp T.k_Schedule T.n_Schedule_day fun H1 e1 => ?_
    refine q_fldNew (ev_var rfl) (ev_var rfl) upd_same T.k_Schedule T.n_Schedule_text fun H2 e2 => ?_
    refine s_fldNew (ev_var rfl) (ev_var rfl) upd_same T.k_Schedule T.n_Schedule_fees fun H3 e3 => ?_
    exact k _ (exB_upd (exB_ex (exB_upd (exB_ex (exB_upd (fun b o _ h => e1 b o h)) e2)) e3)) upd_same
abbrev s_Call___init__ : Stmt := inClass (topS 85) 0
abbrev N_Call___init__ : List Str := ["self", "number", "told", "row"]
theorem sc_Call___init__ : FnScope N_Call___init__ ["self", "number", "told", "row"] (defScope s_Call___init__) := ⟨rfl, rfl, rfl, by decide +kernel, rfl, by decide +kernel, by decide +kernel⟩
abbrev callNames : List Str := ["number", "told", "row"]
theorem mk_Call (T : Tx K mg) : OwnC P w K mg base 1 "Call" ["self", "number", "told", "row"] (spPlain (He.ga K "Call") callNames) := by
  refine ownC_mk T.d_Call___init__ T.g_Call T.i_Call (fun _ _ _ _ _ _ us hl => match us, hl with | [_, _, _, _], _ => rfl) fun fd F => ?_
  refine F.ok sc_Call___init__ (fun vs H Q E h => by obtain ⟨p, dx, args, rfl, hl, _⟩ := h; simpa using hl) (fun cdv A outer s H vs Q E hr h => ⟨_, PSs.nox
    (pss_cons (ps_fld (pv 0) (pv 1) rfl)
    (pss_cons (ps_fld (pv 0) (pv 2) rfl)
    (pss_one (ps_fld (pv 0) (pv 3) rfl)))), ?_⟩)
  obtain ⟨p, dx, args, rfl, hl, hp, k⟩ := h
  match args, hl with
  | [a1, a2, a3], _ =>
    refine q_fldNew (ev_var rfl) (ev_var rfl) hp T.k_Call T.n_Call_number fun H1 e1 => ?_
    refine q_fldNew (ev_var rfl) (ev_var rfl) upd_same T.k_Call T.n_Call_told fun H2 e2 => ?_
    refine s_fldNew (ev_var rfl) (ev_var rfl) upd_same T.k_Call T.n_Call_row fun H3 e3 => ?_
    exact k _ (exB_upd (exB_ex (exB_upd (exB_ex (exB_upd (fun b o _ h => e1 b o h)) e2)) e3)) upd_same
/-- the value of a new field, told by a property -/
theorem q_fldP {Pr : V → Hp → Prop} (hv : EvP tv σ H Pr) (ho : Ev ta σ H (.ref p)) (hp : H p = some (.ins C dx fs)) (cl : Cls K C) (no : NoAttr K C f) (k : ∀ v H1 H2, Ex H H1 → Ex H1 H2 → Pr v H1 → tz D σ (upd H2 p (.ins C dx (fs ++ [(f, v)]))))
    (hn : (fs.all fun q => !decide (q.1 = f)) = true := by kernel_rfl) (hl : Nat.blt fs.length 1000 = true := by rfl) : tSeq (sFld K ta tv f) tz D σ H :=
  hv H (Ex.refl H) _ fun v H1 e1 h1 => ho H1 e1 _ fun H2 e2 => ⟨p, C, dx, fs, rfl, e2 _ _ (e1 _ _ hp), cl, no, Nat.le_of_ble_eq_true hl, by
    rw [putF_new hn]
    exact k v H1 H2 e1 e2 h1⟩
theorem s_retQ {Pr : V → Hp → Hp → Prop} (h : EvQ te σ H Pr) (k : ∀ v H1, Ex H H1 → Pr v H H1 → D.rt v H1) : tRet te D σ H := h H (Ex.refl H) _ fun v H1 e hv => k v H1 e hv
theorem q_asgQ {j : Nat} {Pr : V → Hp → Hp → Prop} (h : EvQ te σ H Pr) (k : ∀ v H1, Ex H H1 → Pr v H H1 → tz D (σ.set j (some v)) H1) : tSeq (tAsg te (gName j)) tz D σ H := h H (Ex.refl H) _ fun v H1 e hv => k v H1 e hv
end
end FB
-- R4
set_option Elab.async false
set_option linter.all false
set_option maxRecDepth 100000
set_option maxHeartbeats 3900000
namespace FB
open PySem PySem.Spec PyProof.Rows L2 Evl
section
variable {K : PySem.W.Frag} {mg : Str → Option Value} {P : Program} {base : Heap} {w : World}
variable {σ : L2.St} {H H' : Hp} {ta tb te : TE} {r : Addr} {W : List Wd} {n i : Nat} {E : XK} {D : Ends} {tz : TS}
/-- a fee as the program keeps it -/
structure FeeM where
  name : List Int
  amount : Int
  above : Int
  late : Int
  small : Int
  shared : Bool
def feeV (l : Addr) (m : FeeM) : List V := [.ref l, .int m.amount, .int m.above, .int m.late, .int m.small, .bl m.shared]
def FeeAt (K : PySem.W.Frag) (H : Hp) (m : FeeM) (a : Addr) : Prop := ∃ dx l, H a = some (.ins (He.ga K "Fee") dx (feeNames.zip (feeV l m))) ∧ H l = some (.lst (m.name.map V.int))
theorem FeeAt.stay {m : FeeM} {a : Addr} (e : Ex H H') (h : FeeAt K H m a) : FeeAt K H' m a := by
  obtain ⟨dx, l, h1, h2⟩ := h
  exact ⟨dx, l, e _ _ h1, e _ _ h2⟩
theorem FeeAt.stayB {m : FeeM} {a : Addr} (R : RdAt K H r W n i) (hne : a ≠ r) (e : ExB r H H') (h : FeeAt K H m a) : FeeAt K H' m a := by
  obtain ⟨le, dx', p, xs, h1, h2, h3⟩ := R
  obtain ⟨dx, l, h4, h5⟩ := h
  exact ⟨dx, l, e _ _ hne h4, e _ _ (fun z => by rw [z, h1] at h5; cases h5) h5⟩
def feeW (n : Nat) (ws : List Wd) : Except Nat (FeeM × Nat) := match wordW n (codesOf "fee") ws with
  | .error e => .error e
  | .ok _ => match nameW n (ws.drop 1) with
    | .error e => .error e
    | .ok (nm, _) => match numW n (ws.drop 2) with
      | .error e => .error e
      | .ok (am, _) => match optW n (codesOf "above") 10000 (ws.drop 3) with
        | .error e => .error e
        | .ok (ab, c1) => match optW n (codesOf "late") 100 (ws.drop (3 + c1)) with
          | .error e => .error e
          | .ok (la, c2) => match optW n (codesOf "small") 100 (ws.drop (3 + c1 + c2)) with
            | .error e => .error e
            | .ok (sm, c3) => .ok (⟨nm, am, ab, la, sm, sharedW (ws.drop (3 + c1 + c2 + c3))⟩, 3 + c1 + c2 + c3 + if sharedW (ws.drop (3 + c1 + c2 + c3)) = true then 1 else 0)
abbrev s_take_fee : Stmt := topS 102
abbrev N_take_fee : List Str := ["reader", "name", "amount", "above", "late", "small", "shared"]
theorem sc_take_fee : FnScope N_take_fee ["reader"] (defScope s_take_fee) := ⟨rfl, rfl, rfl, by decide +kernel, rfl, by decide +kernel, by decide +kernel⟩
def sp_take_fee (K : PySem.W.Frag) : Sp := fun vs H Q E => ∃ (r : Addr) (W : List Wd) (n i : Nat), vs = [.ref r] ∧ RdAt K H r W n i ∧ (∀ wd ∈ W, wd.2.length ≤ 40000) ∧ RdRes K H r W n i (feeW n (W.drop i)) (fun m v H2 => ∃ a, v = .ref a ∧ H a = none ∧ FeeAt K H2 m a) Q E
theorem ok_take_fee (T : Tx K mg) : Own P w K mg base (L2.CX P w) 5 "take_fee" ["reader"] (sp_take_fee K) := by
  refine own_mk T.d_take_fee T.g_take_fee (fun _ _ _ _ _ _ us hl => match us, hl with | [_], _ => rfl) fun fd F => ?_
  refine F.ok sc_take_fee (fun vs H Q E h => by obtain ⟨r, W, n, i, rfl, _⟩ := h; rfl) (fun cdv A outer s H vs Q E hr h => ⟨_,
    (pss_cons (ps_expr (pe_own (ok_take_word T) hr (by decide) (passes_call (takes_of rfl rfl rfl rfl) (fun _ _ _ _ h => h)) (pa_cons (pv 0) (pa_cons (pe_own (ok_spelled T) hr (by decide) pass0 (pa_cons pe_str pa_nil)) pa_nil))))
    (pss_cons (ps_set (i := 1) sc_take_fee.nd rfl (Or.inl rfl) (pe_own (ok_take_name T) hr (by decide) (passes_call (takes_of rfl rfl rfl rfl) (fun _ _ _ _ h => h)) (pa_cons (pv 0) pa_nil)))
    (pss_cons (ps_set (i := 2) sc_take_fee.nd rfl (Or.inl rfl) (pe_own (ok_take_number T) hr (by decide) (passes_call (takes_of rfl rfl rfl rfl) (fun _ _ _ _ h => h)) (pa_cons (pv 0) pa_nil)))
    (pss_cons (ps_set (i := 3) sc_take_fee.nd rfl (Or.inl rfl) (pe_own (ok_take_option T) hr (by decide) (passes_call (takes_of rfl rfl rfl rfl) (fun _ _ _ _ h => h)) (pa_cons (pv 0) (pa_cons pe_str (pa_cons (pe_cint T.c_MOST_ABOVE) pa_nil)))))
    (pss_cons (ps_set (i := 4) sc_take_fee.nd rfl (Or.inl rfl) (pe_own (ok_take_option T) hr (by decide) (passes_call (takes_of rfl rfl rfl rfl) (fun _ _ _ _ h => h)) (pa_cons (pv 0) (pa_cons pe_str (pa_cons (pe_cint T.c_MOST_PERCENT) pa_nil)))))
    (pss_cons (ps_set (i := 5) sc_take_fee.nd rfl (Or.inl rfl) (pe_own (ok_take_option T) hr (by decide) (passes_call (takes_of rfl rfl rfl rfl) (fun _ _ _ _ h => h)) (pa_cons (pv 0) (pa_cons pe_str (pa_cons (pe_cint T.c_MOST_PERCENT) pa_nil)))))
    (pss_cons (ps_set (i := 6) sc_take_fee.nd rfl (Or.inl rfl) (pe_own (ok_take_shared T) hr (by decide) pass0 (pa_cons (pv 0) pa_nil)))
    (pss_one (ps_ret (pe_ownMk (mk_Fee T) hr (by decide) pass0 (pa_cons (pv 1) (pa_cons (pv 2) (pa_cons (pv 3) (pa_cons (pv 4) (pa_cons (pv 5) (pa_cons (pv 6) pa_nil)))))))))))))))), ?_⟩)
  obtain ⟨r, W, n, i, rfl, R, hW, kO, kE⟩ := h
  have R0 := R
  unfold feeW at kO kE
  refine q_dropRd (K := K) (W := W) (n := n) (i := i) (res := wordW n (codesOf "fee") (W.drop i)) (val := fun _ v _ => v = .non) (eap_one (ev_var rfl) (ep_isLN (K := K) (el_call (ea_cons ev_c ea_nil) (spL_spelled (by decide))))) (fun vs H1 Q e1 hv h => ?_) (fun a c hres v H1 b1 R1 _ => ?_) (fun e he d H2 eb hd => kE e (by rw [he]) d H2 eb hd)
  · obtain ⟨v, rfl, l, rfl, hl⟩ := hv
    exact ⟨r, W, n, i, l, codesOf "fee", rfl, R.stay e1, sq_of hl, by decide, h⟩
  obtain ⟨⟨⟩, rfl⟩ : a = () ∧ c = 1 := by
    unfold wordW at hres
    split at hres
    · cases hres
    · cases hres
      exact ⟨rfl, rfl⟩
  rw [hres] at kO kE
  dsimp only at kO kE
  rw [List.drop_drop, List.drop_drop, List.drop_drop] at kO kE
  refine q_asgRd (K := K) (W := W) (i := i + 1) (res := nameW n (W.drop (i + 1))) (val := IsL K) (ea_cons (ev_var rfl) ea_nil) R1 (fun H4 Q e4 h => ⟨r, W, n, i + 1, rfl, R1.stay e4, peek_len hW, h⟩) (fun nm c hres2 v2 H2 b2 R2 hv2 => ?_) (fun e he d H2 eb hd => kE e (by rw [he]) d H2 (b1.trans eb) hd)
  obtain rfl : c = 1 := by
    unfold nameW at hres2
    split at hres2
    · cases hres2
    · cases hres2
      rfl
  rw [hres2] at kO kE
  dsimp only at kO kE
  refine q_asgRd (K := K) (W := W) (i := i + 1 + 1) (res := numW n (W.drop (i + 1 + 1))) (val := fun z v _ => v = .int z) (ea_cons (ev_var rfl) ea_nil) R2 (fun H4 Q e4 h => ⟨r, W, n, i + 1 + 1, rfl, R2.stay e4, peek_len hW, h⟩) (fun am c hres3 v3 H3 b3 R3 hv3 => ?_) (fun e he d H2 eb hd => kE e (by rw [he]) d H2 ((b1.trans b2).trans eb) hd)
  obtain rfl : c = 1 := by
    unfold numW at hres3
    split at hres3
    · cases hres3
    · cases hres3
      rfl
  subst hv3
  rw [show i + 2 = i + 1 + 1 from rfl, hres3] at kO kE
  dsimp only at kO kE
  have i2 := IsL.stayB R2 b3 hv2
  have b123 := (b1.trans b2).trans b3
  refine q_asgRd (K := K) (W := W) (i := i + 1 + 1 + 1) (res := optW n (codesOf "above") 10000 (W.drop (i + 1 + 1 + 1))) (val := fun z v _ => v = .int z) (ea_cons (ev_var rfl) (ea_cons ev_c (ea_cons ev_c ea_nil))) R3 (fun H4 Q e4 h => ⟨r, W, n, i + 1 + 1 + 1, "above", 10000, rfl, R3.stay e4, hW, by decide, by decide, h⟩)
    (fun ab c1 hres4 v4 H4 b4 R4 hv4 => ?_) (fun e he d H2 eb hd => kE e (by rw [show i + 3 = i + 1 + 1 + 1 from rfl, he]) d H2 (b123.trans eb) hd)
  subst hv4
  rw [show i + 3 = i + 1 + 1 + 1 from rfl, hres4] at kO kE
  dsimp only at kO kE
  rw [List.drop_drop, show i + (3 + c1) = i + 1 + 1 + 1 + c1 by omega] at kO kE
  have i3 := IsL.stayB R3 b4 i2
  refine q_asgRd (K := K) (W := W) (i := i + 1 + 1 + 1 + c1) (res := optW n (codesOf "late") 100 (W.drop (i + 1 + 1 + 1 + c1))) (val := fun z v _ => v = .int z) (ea_cons (ev_var rfl) (ea_cons ev_c (ea_cons ev_c ea_nil))) R4 (fun H4 Q e4 h => ⟨r, W, n, _, "late", 100, rfl, R4.stay e4, hW, by decide, by decide, h⟩)
    (fun la c2 hres5 v5 H5 b5 R5 hv5 => ?_) (fun e he d H2 eb hd => kE e (by rw [he]) d H2 ((b123.trans b4).trans eb) hd)
  subst hv5
  rw [hres5] at kO kE
  dsimp only at kO kE
  rw [List.drop_drop, show i + (3 + c1 + c2) = i + 1 + 1 + 1 + c1 + c2 by omega] at kO kE
  have i4 := IsL.stayB R4 b5 i3
  have b12345 := (b123.trans b4).trans b5
  refine q_asgRd (K := K) (W := W) (i := i + 1 + 1 + 1 + c1 + c2) (res := optW n (codesOf "small") 100 (W.drop (i + 1 + 1 + 1 + c1 + c2))) (val := fun z v _ => v = .int z) (ea_cons (ev_var rfl) (ea_cons ev_c (ea_cons ev_c ea_nil))) R5 (fun H4 Q e4 h => ⟨r, W, n, _, "small", 100, rfl, R5.stay e4, hW, by decide, by decide, h⟩)
    (fun sm c3 hres6 v6 H6 b6 R6 hv6 => ?_) (fun e he d H2 eb hd => kE e (by rw [he]) d H2 (b12345.trans eb) hd)
  subst hv6
  rw [hres6] at kO
  dsimp only at kO
  rw [List.drop_drop, show i + (3 + c1 + c2 + c3) = i + 1 + 1 + 1 + c1 + c2 + c3 by omega] at kO
  have i5 := IsL.stayB R5 b6 i4
  refine ⟨_, rfl, r, W, n, _, rfl, R6, fun H7 b7 R7 => ?_⟩
  have i6 := IsL.stayB R6 b7 i5
  obtain ⟨l, rfl, hl⟩ := i6
  have bb := (b12345.trans b6).trans b7
  refine s_retQ (eq_make (ea_cons (ev_var rfl) (ea_cons (ev_var rfl) (ea_cons (ev_var rfl) (ea_cons (ev_var rfl) (ea_cons (ev_var rfl) (ea_cons (ev_var rfl) ea_nil)))))) (sp_plain_ok rfl)) fun v H8 e8 hv => ?_
  obtain ⟨x, dx, rfl, hx, hx8⟩ := hv
  have hr7 : H7 r ≠ none := by
    obtain ⟨le, dx', p, xs, h1, h2, h3⟩ := R7
    rw [h1]
    exact fun z => nomatch z
  refine kO _ _ rfl _ H8 (bb.trans (ExB.of e8)) ?_ ⟨x, rfl, freshB bb hr7 hx, dx, l, hx8, e8 _ _ hl⟩
  have e9 : i + (3 + c1 + c2 + c3 + if sharedW (W.drop (i + 1 + 1 + 1 + c1 + c2 + c3)) = true then 1 else 0) = if sharedW (W.drop (i + 1 + 1 + 1 + c1 + c2 + c3)) = true then i + 1 + 1 + 1 + c1 + c2 + c3 + 1 else i + 1 + 1 + 1 + c1 + c2 + c3 := by
    split <;> omega
  rw [e9]
  exact R7.stay e8
end
end FB
-- R5
set_option Elab.async false
set_option linter.all false
set_option maxRecDepth 100000
set_option maxHeartbeats 3900000
namespace FB
open PySem PySem.Spec PyProof.Rows L2 Evl
section
variable {K : PySem.W.Frag} {mg : Str → Option Value} {P : Program} {base : Heap} {w : World}
variable {σ : L2.St} {H H' : Hp} {ta tb te : TE} {r : Addr} {W : List Wd} {n i : Nat} {E : XK} {D : Ends} {tz : TS}
abbrev s_Reader___init__ : Stmt := inClass (topS 96) 0
abbrev N_Reader___init__ : List Str := ["self", "text"]
theorem sc_Reader___init__ : FnScope N_Reader___init__ ["self", "text"] (defScope s_Reader___init__) := ⟨rfl, rfl, rfl, by decide +kernel, rfl, by decide +kernel, by decide +kernel⟩
def sp_RdInit (K : PySem.W.Frag) : Sp := fun vs H Q _ => ∃ (p dx a : Addr) (ns : List Int), vs = [.ref p, .ref a] ∧ H p = some (.ins (cRd K) dx []) ∧ SqL K H a (ns.map V.int) ∧ ns.length ≤ 40000 ∧ ∀ H2, ExB p H H2 → RdAt K H2 p (wordsOf ns) ns.length 0 → Q .non H2
theorem mk_Reader (T : Tx K mg) : OwnC P w K mg base 2 "Reader" ["self", "text"] (sp_RdInit K) := by
  refine ownC_mk T.d_Reader___init__ T.g_Reader T.i_Reader (fun _ _ _ _ _ _ us hl => match us, hl with | [_, _], _ => rfl) fun fd F => ?_
  refine F.ok sc_Reader___init__ (fun vs H Q E h => by obtain ⟨p, dx, a, ns, rfl, _⟩ := h; rfl) (fun cdv A outer s H vs Q E hr h => ⟨_, PSs.nox
    (pss_cons (ps_fld (pv 0) (pe_own (ok_split_words T) hr (by decide) pass0 (pa_cons (pv 1) pa_nil)) rfl)
    (pss_cons (ps_fld (pv 0) (pe_callB call_len_seq (by rfl) T.b_len PySem.boot_len (pa_cons (pv 1) pa_nil)) rfl)
    (pss_one (ps_fld (pv 0) pe_int rfl)))), ?_⟩)
  obtain ⟨p, dx, a, ns, rfl, hp, hS, hz, k⟩ := h
  refine q_fldP (Pr := fun v H' => ∃ q xs, v = .ref q ∧ H' q = some (.lst xs) ∧ Paired (WordAt q H') (wordsOf ns) xs) (fun H1 e1 Q q => ⟨_, rfl, a, ns, rfl, ex_l e1 hS, hz, fun q' xs H2 _ e2 h2 hw => q _ H2 e2 ⟨q', xs, rfl, h2, hw⟩⟩) (ev_var rfl) hp T.k_Reader T.n_Reader_words fun v H1 H2 e1 e2 hv => ?_
  obtain ⟨q, xs, rfl, hq, hw⟩ := hv
  have nq : q ≠ p := fun z => by
    have h1 := e1 _ _ hp
    rw [← z, hq] at h1
    cases h1
  have hp2 := e2 _ _ (e1 _ _ hp)
  have hq2 := e2 _ _ hq
  have hw2 : Paired (WordIn H2) (wordsOf ns) xs := Paired.mono (fun wd v h => by obtain ⟨t, l, rfl, _, _, h1, h2⟩ := h; exact ⟨t, l, rfl, e2 _ _ h1, e2 _ _ h2⟩) hw
  have b2 : ExB p H2 (upd H2 p (HO.ins (cRd K) dx (([] : List (Str × V)) ++ [(("words" : Str), V.ref q)]))) := exB_upd (fun b o _ h => h)
  refine q_fldNew (ev_lenL (ev_var rfl) (sq_stayB hp2 b2 (ex_l (e1.trans e2) hS))) (ev_var rfl) upd_same T.k_Reader T.n_Reader_length fun H3 e3 => ?_
  refine s_fldNew ev_c (ev_var rfl) upd_same T.k_Reader T.n_Reader_at fun H4 e4 => ?_
  have b4 : ExB p H2 (upd H4 p (HO.ins (cRd K) dx ((([] : List (Str × V)) ++ [(("words" : Str), V.ref q)]) ++ [(("length" : Str), V.int ((ns.map V.int).length : Nat))] ++ [(("at" : Str), V.int 0)]))) := exB_upd (exB_ex (exB_upd (exB_ex b2 e3)) e4)
  refine k _ (fun b o hb h => b4 b o hb (e2 b o (e1 b o h))) ⟨Nat.zero_le _, dx, q, xs, ?_, b4 q _ nq hq2, Paired.mono (fun wd v h => h.stay hp2 b4) hw2⟩
  have e5 : ((ns.map V.int).length : Int) = (ns.length : Int) := by rw [List.length_map]
  rw [e5] at b4
  rw [upd_same, e5]
  rfl
theorem swRun_words {text : List Int} (hz : text.length ≤ 40000) : ∀ n, ∀ wd ∈ (swRun text n).2, wd.2.length ≤ 40000
  | 0 => fun wd h => by cases h
  | n + 1 => by
    have ih := swRun_words hz n
    have hc : ((text.drop (swRun text n).1).take (n - (swRun text n).1)).length ≤ 40000 := by
      simp only [List.length_take, List.length_drop]
      omega
    show ∀ wd ∈ (swStep text (swRun text n) n (text.getD n 0)).2, wd.2.length ≤ 40000
    unfold swStep
    dsimp only
    intro wd hwd
    have one : ∀ (l : List Wd) (x : Wd), (∀ wd ∈ l, wd.2.length ≤ 40000) → x.2.length ≤ 40000 → ∀ wd ∈ l ++ [x], wd.2.length ≤ 40000 := fun l x h1 h2 wd h => by
      rcases List.mem_append.mp h with old | new
      · exact h1 wd old
      · rw [List.mem_singleton.mp new]
        exact h2
    have s1 : ∀ wd ∈ (if (decide (text.getD n 0 = 32) || decide (text.getD n 0 = 10)) = true then (n + 1, (swRun text n).2 ++ [((swRun text n).1, (text.drop (swRun text n).1).take (n - (swRun text n).1))]) else swRun text n).2, wd.2.length ≤ 40000 := by
      split
      · exact one _ _ ih hc
      · exact ih
    split at hwd
    · exact one _ _ s1 (by show 1 ≤ 40000; decide) wd hwd
    · exact s1 wd hwd
theorem wordsOf_len {text : List Int} (hz : text.length ≤ 40000) : ∀ wd ∈ wordsOf text, wd.2.length ≤ 40000 := by
  intro wd h
  unfold wordsOf at h
  rcases List.mem_append.mp h with old | new
  · exact swRun_words hz _ wd old
  · rw [List.mem_singleton.mp new]
    show (text.drop _).length ≤ 40000
    rw [List.length_drop]
    omega
abbrev s_read_fees : Stmt := topS 103
abbrev N_read_fees : List Str := ["text", "reader", "fees"]
theorem sc_read_fees : FnScope N_read_fees ["text"] (defScope s_read_fees) := ⟨rfl, rfl, rfl, by decide +kernel, rfl, by decide +kernel, by decide +kernel⟩
def readLoop (n : Nat) (ws : List Wd) (acc : List FeeM) : Except Nat (List FeeM) :=
  if _h : ws = [] then .ok acc else match wordW n [10] ws with
    | .error e => .error e
    | .ok _ => match feeW n (ws.drop 1) with
      | .error e => .error e
      | .ok (m, c) => readLoop n ((ws.drop 1).drop c) (acc ++ [m])
termination_by ws.length
decreasing_by
  rw [List.length_drop, List.length_drop]
  have : 0 < ws.length := by
    cases ws with
    | nil => exact absurd rfl ‹_›
    | cons a l => exact Nat.succ_pos _
  omega
def readM (ns : List Int) : Except Nat (List FeeM) := match feeW ns.length (wordsOf ns) with
  | .error e => .error e
  | .ok (m, c) => readLoop ns.length ((wordsOf ns).drop c) [m]
/-- the fees that a list at p holds -/
def FeesAt (K : PySem.W.Frag) (H : Hp) (p : Addr) (ms : List FeeM) (xs : List V) : Prop := Paired (fun m v => ∃ b, v = V.ref b ∧ b ≠ p ∧ FeeAt K H m b) ms xs
def sp_read_fees (K : PySem.W.Frag) : Sp := fun vs H Q E => ∃ (a : Addr) (ns : List Int), vs = [.ref a] ∧ SqL K H a (ns.map V.int) ∧ ns.length ≤ 40000 ∧
  (∀ ms, readM ns = .ok ms → ∀ p xs H2, H p = none → Ex H H2 → H2 p = some (.lst xs) → FeesAt K H2 p ms xs → Q (.ref p) H2) ∧ (∀ e, readM ns = .error e → ∀ d H2, Ex H H2 → H2 d = some (.xd [("place", .int (e : Nat))]) → E (.ref (cSF K)) (some d) H2)
theorem exB_fresh {H1 H2 : Hp} (hr : H r = none) (e : Ex H H1) (b : ExB r H1 H2) : Ex H H2 := fun x o h => b x o (ne_of_none h hr) (e x o h)
/-- a fee stands while a list of things that are no numbers changes -/
theorem FeeAt.stayP {m : FeeM} {a p b : Addr} {xs : List V} (hp : H p = some (.lst (.ref b :: xs))) (hne : a ≠ p) (e : ExB p H H') (h : FeeAt K H m a) : FeeAt K H' m a := by
  obtain ⟨dx, l, h4, h5⟩ := h
  refine ⟨dx, l, e _ _ hne h4, e _ _ (fun z => ?_) h5⟩
  rw [z, hp] at h5
  have h6 : V.ref b :: xs = m.name.map V.int := by injection (Option.some.inj h5)
  cases hm : m.name with
  | nil =>
    rw [hm] at h6
    cases h6
  | cons z l =>
    rw [hm] at h6
    have h7 : V.ref b = V.int z := (List.cons.inj h6).1
    cases h7
def FeeR (K : PySem.W.Frag) (r p : Addr) (H : Hp) (m : FeeM) (v : V) : Prop := ∃ b, v = .ref b ∧ b ≠ p ∧ b ≠ r ∧ FeeAt K H m b
theorem feeW_c {ws : List Wd} {m : FeeM} {c : Nat} (h : feeW n ws = .ok (m, c)) : 3 ≤ c := by
  unfold feeW at h
  split at h
  · cases h
  · split at h
    · cases h
    · split at h
      · cases h
      · split at h
        · cases h
        · split at h
          · cases h
          · split at h
            · cases h
            · cases h
              omega
/-- the reader stands while a list of fees changes -/
theorem RdAt.stayP {m : FeeM} {b p : Addr} {xs : List V} (hp : H p = some (.lst (.ref b :: xs))) (hF : FeeAt K H m b) (hne : p ≠ r) (e : ExB p H H') (R : RdAt K H r W n i) : RdAt K H' r W n i := by
  obtain ⟨le, dx, q, ys, h1, h2, h3⟩ := R
  obtain ⟨dxf, lf, f1, _⟩ := hF
  have nq : q ≠ p := fun z => by
    rw [z, hp] at h2
    have h4 := Option.some.inj h2
    have h5 : V.ref b :: xs = ys := by injection h4
    rw [← h5] at h3
    cases h3 with
    | cons h _ =>
      obtain ⟨t, l, h6, h7, _⟩ := h
      have h8 : b = t := by injection h6
      rw [← h8, f1] at h7
      cases h7
  refine ⟨le, dx, q, ys, e _ _ (Ne.symm hne) h1, e _ _ nq h2, Paired.mono (fun wd v h => ?_) h3⟩
  obtain ⟨t, l, rfl, h4, h5⟩ := h
  have nt : t ≠ p := fun z => by
    rw [z, hp] at h4
    cases h4
  have nl : l ≠ p := fun z => by
    rw [z, hp] at h5
    have h6 : V.ref b :: xs = wd.2.map V.int := by injection (Option.some.inj h5)
    cases hm : wd.2 with
    | nil =>
      rw [hm] at h6
      cases h6
    | cons z l =>
      rw [hm] at h6
      have h7 : V.ref b = V.int z := (List.cons.inj h6).1
      cases h7
  exact ⟨t, l, rfl, e _ _ nt h4, e _ _ nl h5⟩
/-- the while's word -/
def RfI (K : PySem.W.Frag) (H : Hp) (a r p : Addr) (ns : List Int) (m : Nat) (σ : L2.St) (H' : Hp) : Prop := ∃ i ms xs, m = (wordsOf ns).length - i ∧ σ = [some (.ref a), some (.ref r), some (.ref p)] ∧ Ex H H' ∧ RdAt K H' r (wordsOf ns) ns.length i ∧ H' p = some (.lst xs) ∧
  xs ≠ [] ∧ xs.length ≤ i ∧ Paired (FeeR K r p H') ms xs ∧ readLoop ns.length ((wordsOf ns).drop i) ms = readM ns
theorem ok_read_fees (T : Tx K mg) : Own P w K mg base (L2.CX P w) 6 "read_fees" ["text"] (sp_read_fees K) := by
  refine own_mk T.d_read_fees T.g_read_fees (fun _ _ _ _ _ _ us hl => match us, hl with | [_], _ => rfl) fun fd F => ?_
  refine F.ok sc_read_fees (fun vs H Q E h => by obtain ⟨a, ns, rfl, _⟩ := h; rfl) (fun cdv A outer s H vs Q E hr h => ⟨_,
    (pss_cons (ps_set (i := 1) sc_read_fees.nd rfl (Or.inl rfl) (pe_ownMk (mk_Reader T) hr (by decide) pass0 (pa_cons (pv 0) pa_nil)))
    (pss_cons (ps_set (i := 2) sc_read_fees.nd rfl (Or.inl rfl) (pe_lst (pa_cons (pe_own (ok_take_fee T) hr (by decide) (passes_call (takes_of rfl rfl rfl rfl) (fun _ _ _ _ h => h)) (pa_cons (pv 1) pa_nil)) pa_nil)))
    (pss_cons (ps_while (passes_of rfl) (pt_not (pt_val (pe_ownM0 (ok_Reader_ended T) (pv 1) hr (by decide) pass0)))
      (pss_cons (ps_expr (pe_own (ok_take_word T) hr (by decide) (passes_call (takes_of rfl rfl rfl rfl) (fun _ _ _ _ h => h)) (pa_cons (pv 1) (pa_cons (pe_lst (pa_cons (pe_cint T.c_LINE_END) pa_nil)) pa_nil))))
      (pss_one (ps_expr (pe_bm PySem.F.plainAttrs_list PySem.F.slot_list_append PySem.F.type_list_append mt_append (pv 2) (pa_cons (pe_own (ok_take_fee T) hr (by decide) (passes_call (takes_of rfl rfl rfl rfl) (fun _ _ _ _ h => h)) (pa_cons (pv 1) pa_nil)) pa_nil))))))
    (pss_one (ps_ret (pv 2)))))), ?_⟩)
  obtain ⟨a, ns, rfl, hS, hz, kO, kE⟩ := h
  refine ⟨_, rfl, fun r dx hr0 hd0 hne => ⟨r, dx, a, ns, rfl, upd_same, ?_, hz, fun H1 b1 R1 => ⟨rfl, ?_⟩⟩⟩
  · have e0 : Ex H (upd (upd H dx (.own r)) r (.ins (cRd K) dx [])) := fun b o h => by
      rw [upd_ne (ne_of_none h hr0), upd_ne (ne_of_none h hd0)]
      exact h
    exact ex_l e0 hS
  have e1 : Ex H H1 := fun b o h => b1 b o (ne_of_none h hr0) (by
    rw [upd_ne (ne_of_none h hr0), upd_ne (ne_of_none h hd0)]
    exact h)
  have hW := wordsOf_len hz
  have hr1 : H1 r ≠ none := by
    obtain ⟨_, _, _, _, h1, _⟩ := R1
    rw [h1]
    exact fun z => nomatch z
  refine ⟨_, rfl, r, wordsOf ns, ns.length, 0, rfl, R1, hW, fun m c hres v H2 b2 R2 hv => ?_, fun e he d H2 b2 hd => ?_⟩
  · obtain ⟨b, rfl, hb, hF⟩ := hv
    refine ⟨by show 1 ≤ sizeLine; decide, fun p hp => ?_⟩
    have e2 : Ex H H2 := exB_fresh hr0 e1 b2
    have e3 : Ex H2 (upd H2 p (.lst [.ref b])) := Ex.new hp
    have nbp : b ≠ p := fun z => by
      obtain ⟨dx', l, h1, _⟩ := hF
      rw [z, hp] at h1
      cases h1
    have hp0 : H p = none := by
      cases q : H p with
      | none => rfl
      | some o =>
        rw [e2 p o q] at hp
        cases hp
    have nbr : b ≠ r := fun z => by
      rw [z] at hb
      exact hr1 hb
    refine q_while (RfI K H a r p ns) _ ⟨0 + c, [m], [.ref b], rfl, rfl, e2.trans e3, R2.stay e3, upd_same, List.cons_ne_nil _ _, (by have := feeW_c hres; show 1 ≤ 0 + c; omega), Paired.cons ⟨b, rfl, nbp, nbr, hF.stay e3⟩ .nil, ?_⟩ ?_
    · rw [Nat.zero_add]
      unfold readM
      rw [show feeW ns.length (wordsOf ns) = .ok (m, c) from hres]
    · rintro mm σ' H3 ⟨i, ms, xs, rfl, rfl, e4, R4, hp4, hx4, hx5, hF4, hL⟩
      obtain ⟨le, dx4, p4, xs4, q1, q2, q3⟩ := R4
      have R4 : RdAt K H3 r (wordsOf ns) ns.length i := ⟨le, dx4, p4, xs4, q1, q2, q3⟩
      refine ⟨_, et_not (et_B (ev_meth (ev_var rfl) q1 (rdF_no (by decide +kernel)) ea_nil (spV_ended R4))), fun hb H5 e5 => ?_, fun hb H5 e5 => ?_⟩
      · have hi : i < (wordsOf ns).length := by
          have hb' : decide (i = (wordsOf ns).length) = false := by simpa using hb
          have := of_decide_eq_false hb'
          omega
        have hdr : (wordsOf ns).drop i ≠ [] := fun z => by
          have := congrArg List.length z
          rw [List.length_drop] at this
          simp at this
          omega
        rw [readLoop, dif_neg hdr] at hL
        refine ⟨fun σ2 H6 => ∃ m', m' < (wordsOf ns).length - i ∧ RfI K H a r p ns m' σ2 H6, fun σ2 H6 h => h, ?_⟩
        have R5 := R4.stay e5
        refine q_dropRd (K := K) (r := r) (W := wordsOf ns) (n := ns.length) (i := i) (res := wordW ns.length [10] ((wordsOf ns).drop i)) (val := fun _ v _ => v = .non) (eap_one (ev_var rfl) (ep_isLN (K := K) (ns := [10]) (el_lst (ea_cons ev_c ea_nil) (by decide)))) (fun vs H6 Q e6 hv h => ?_) (fun a1 c1 hres1 v1 H6 b6 R6 _ => ?_) (fun e he d H6 b6 hd => ?_)
        · obtain ⟨v, rfl, l, rfl, hl⟩ := hv
          exact ⟨r, wordsOf ns, ns.length, i, l, [10], rfl, R5.stay e6, sq_of hl, by decide, h⟩
        · obtain rfl : c1 = 1 := by
            unfold wordW at hres1
            split at hres1
            · cases hres1
            · cases hres1
              rfl
          rw [hres1] at hL
          dsimp only at hL
          rw [List.drop_drop] at hL
          have e6 : Ex H H6 := exB_fresh hr0 (e4.trans e5) b6
          have npr : p ≠ r := fun z => by
            rw [z, q1] at hp4
            cases hp4
          have hp6 : H6 p = some (.lst xs) := b6 p _ npr (e5 _ _ hp4)
          have hF6 : Paired (FeeR K r p H6) ms xs := Paired.mono (fun m v h => by
            obtain ⟨b, rfl, n1, n2, h⟩ := h
            exact ⟨b, rfl, n1, n2, FeeAt.stayB R5 n2 b6 (h.stay e5)⟩) hF4
          refine ⟨_, rfl, Or.inl ⟨rfl, xs, sq_of hp6⟩, _, rfl, r, wordsOf ns, ns.length, i + 1, rfl, R6, hW, fun m2 c2 hres2 v2 H7 b7 R7 hv2 => ?_, fun e he d H7 b7 hd => ?_⟩
          · obtain ⟨b2', rfl, hb2, hF2⟩ := hv2
            have hp7 : H7 p = some (.lst xs) := b7 p _ npr hp6
            have hlen : (wordsOf ns).length ≤ 80001 := by
              unfold wordsOf
              simp only [List.length_singleton, List.length_append]
              have := swRun_len ns ns.length
              omega
            have nbp2 : b2' ≠ p := fun z => by
              rw [z, hp6] at hb2
              cases hb2
            have nbr2 : b2' ≠ r := fun z => by
              obtain ⟨_, _, _, _, h1, _⟩ := R6
              rw [z, h1] at hb2
              cases hb2
            refine ⟨p, xs, .ref b2', rfl, rfl, hp7, Nat.lt_of_le_of_lt (show _ ≤ 90000 by omega) (by decide), ?_⟩
            obtain ⟨v0, xs0, rfl⟩ : ∃ v0 xs0, xs = v0 :: xs0 := by
              cases xs with
              | nil => exact absurd rfl hx4
              | cons v0 xs0 => exact ⟨v0, xs0, rfl⟩
            have hF7 : Paired (FeeR K r p H7) ms (v0 :: xs0) := Paired.mono (fun m v h => by
              obtain ⟨b, rfl, n1, n2, h⟩ := h
              exact ⟨b, rfl, n1, n2, FeeAt.stayB R6 n2 b7 h⟩) hF6
            obtain ⟨b0, m0, rfl, hF0⟩ : ∃ b0 m0, v0 = .ref b0 ∧ FeeAt K H7 m0 b0 := by
              cases hF7 with
              | cons h _ =>
                obtain ⟨b, rfl, _, _, h⟩ := h
                exact ⟨b, _, rfl, h⟩
            have bp : ExB p H7 (upd H7 p (.lst ((.ref b0 :: xs0) ++ [.ref b2']))) := exB_upd (fun b o _ h => h)
            have R8 : RdAt K (upd H7 p (.lst ((.ref b0 :: xs0) ++ [.ref b2']))) r (wordsOf ns) ns.length (i + 1 + c2) := RdAt.stayP hp7 hF0 npr bp R7
            refine ⟨(wordsOf ns).length - (i + 1 + c2), by omega, i + 1 + c2, ms ++ [m2], _, rfl, rfl, ?_, R8, upd_same, by simp, by rw [List.length_append, List.length_singleton]; omega, Paired.snoc (Paired.mono (fun m v h => by
              obtain ⟨b, rfl, n1, n2, h⟩ := h
              exact ⟨b, rfl, n1, n2, FeeAt.stayP hp7 n1 bp h⟩) hF7) ⟨b2', rfl, nbp2, nbr2, FeeAt.stayP hp7 nbp2 bp hF2⟩, ?_⟩
            · exact Ex.mut (exB_fresh hr0 e6 b7) hp0
            · rw [← hL, hres2]
              dsimp only
              rw [List.drop_drop]
          · refine kE e ?_ d H7 (exB_fresh hr0 e6 b7) hd
            rw [← hL, he]
        · refine kE e ?_ d H6 (exB_fresh hr0 (e4.trans e5) b6) hd
          rw [← hL, he]
      · have hi : i = (wordsOf ns).length := by
          have hb' : decide (i = (wordsOf ns).length) = true := by simpa using hb
          exact of_decide_eq_true hb'
        rw [readLoop, dif_pos (by rw [hi, List.drop_length])] at hL
        exact s_ret (ev_var rfl) fun H6 e6 => kO ms hL.symm p xs H6 hp0 ((e4.trans e5).trans e6) (e6 _ _ (e5 _ _ hp4)) (Paired.mono (fun m v h => by
          obtain ⟨b, rfl, n1, n2, h⟩ := h
          exact ⟨b, rfl, n1, h.stay (e5.trans e6)⟩) hF4)
  · refine kE e ?_ d H2 (exB_fresh hr0 e1 b2) hd
    unfold readM
    rw [show feeW ns.length (wordsOf ns) = .error e from he]
end
end FB
-- Z1
set_option Elab.async false
set_option linter.all false
set_option maxRecDepth 100000
set_option maxHeartbeats 3900000
/-! zip over two iterators of any kind while its tuple is held; dict(zip(a, b)) -/
namespace FB
open PySem PySem.Spec PyProof.Rows L2 Evl
section
variable {P : Program} {w : World} {A : Around} {E : Value → Shared → Prop} {s : Shared} {z TI TO T i1 i2 : Addr} {f1 f2 : List Addr} {n1 n2 i : Nat} {P1 P2 : Nat → Value → Prop} {S1 S2 : Nat → Heap → Prop} {f : Bool} {oT : Obj}
theorem heldItem {Q : Value → Shared → Prop} (S : ZipSep2 z TI TO i1 i2 f1 f2) (D1 : Draws P w A i1 f1 n1 P1 S1) (D2 : Draws P w A i2 f2 n2 P2 S2) (hz : IsZipHeld s.heap z TI TO T f) (hT : s.heap.get? T = some oT)
    (hTI : IsTupOf2 s.heap TI (.ref i1) (.ref i2)) (st1 : S1 i s.heap) (st2 : S2 i s.heap) (l1 : i < n1) (l2 : i < n2)
    (q : ∀ x1 x2 h' tk, P1 i x1 → P2 i x2 → IsZipHeld h' z TI TO T true → S1 (i + 1) h' → S2 (i + 1) h' → IsTupOf2 h' s.heap.objs.size x1 x2 → (∀ c o, c ≠ z → c ≠ i1 → c ≠ i2 → s.heap.get? c = some o → h'.get? c = some o) → Q (.ref s.heap.objs.size) { s with heap := h', toks := tk }) :
    wpAny (model P w) A (Builtin.«zip.__next__» ⟨[.ref z], []⟩) (fun r s' => ∃ v, r = .done (.ret v) ∧ Q v s') E s := by
  obtain ⟨hp, g, d, t0, os⟩ := s
  show wpAny _ _ (field (.ref z) 2 >>= _) _ _ _; refine wpAny_bind (wpAny_field hz rfl (x := .bool false) rfl ?_)
  show wpAny _ _ (field (.ref z) 3 >>= _) _ _ _; refine wpAny_bind (wpAny_field hz rfl (x := .ref TI) rfl ?_)
  refine wpAny_bind (wpAny_seqItems hTI rfl ?_); show wpAny _ _ (Builtin.SmallTypes.ownedTupleIsFree (.ref z) >>= _) _ _ _
  refine wpAny_bind (wpAny_tupleHeld_zip hz hT fun a1 hz1 b1 => ?_)
  replace b1 : Heap.SameBut z hp a1 := b1
  simp only [Bool.false_eq_true, if_false]; refine wpAny_bind ?_; rw [← Array.forIn_toList]
  simp only [List.forIn_cons, List.forIn_nil]; refine wpAny_bind (wpAny_bind (wpAny_holding ?_))
  show wpAny _ _ (Builtin.SmallTypes.nextOf (.ref i1) >>= _) _ _ ⟨a1, g, d, t0, os⟩
  refine wpAny_bind (D1.item i _ _ _ l1 (D1.over st1 b1 S.zf1) fun x1 a2 t1 y1 u1 b2 => wpAny_pure (wpAny_pure ?_))
  replace b2 : Heap.SameBut i1 a1 a2 := b2
  refine wpAny_bind (wpAny_bind (wpAny_holding ?_)); show wpAny _ _ (Builtin.SmallTypes.nextOf (.ref i2) >>= _) _ _ ⟨a2, g, d, t1, os⟩
  refine wpAny_bind (D2.item i _ _ _ l2 (D2.over (D2.over st2 b1 S.zf2) b2 S.sep1_2) fun x2 a3 t2 y2 u2 b3 => wpAny_pure (wpAny_pure (wpAny_pure ?_)))
  replace b3 : Heap.SameBut i2 a2 a3 := b3
  show wpAny _ _ (newTuple [x1, x2] >>= _) _ _ _; refine wpAny_bind (wpAny_newTuple ?_)
  have e : a3.objs.size = hp.objs.size := by rw [b3.1, b2.1, b1.1]
  have v1 : S1 (i + 1) a3 := D1.over u1 b3 S.sep2_1
  have hz3 : IsZipHeld a3 z TI TO T true := b3.extBut _ _ S.zi2 (b2.extBut _ _ S.zi1 hz1)
  apply wpAny_pure
  refine ⟨.ref a3.objs.size, rfl, ?_⟩
  show Q (.ref a3.objs.size) _
  have c1 : IsTupOf2 (a3.push { cls := .type "tuple", data := .seq #[x1, x2] }) a3.objs.size x1 x2 := Heap.get?_push_size _ rfl
  rw [e] at c1 ⊢
  exact q x1 x2 _ t2 y1 y2 (Heap.get?_push_of_some _ hz3) (D1.frame _ _ _ v1 fun b _ o h => Heap.get?_push_of_some _ h) (D2.frame _ _ _ u2 fun b _ o h => Heap.get?_push_of_some _ h) c1 fun c o k1 k2 k3 h =>
    Heap.get?_push_of_some _ (b3.extBut _ _ k3 (b2.extBut _ _ k2 (b1.extBut _ _ k1 h)))
theorem heldEnd {Q : Fin → Shared → Prop} (S : ZipSep2 z TI TO i1 i2 f1 f2) (D1 : Draws P w A i1 f1 n1 P1 S1) (D2 : Draws P w A i2 f2 n2 P2 S2) (hz : IsZipHeld s.heap z TI TO T f) (hT : s.heap.get? T = some oT)
    (hTI : IsTupOf2 s.heap TI (.ref i1) (.ref i2)) (st1 : S1 i s.heap) (st2 : S2 i s.heap) (l1 : i ≤ n1) (l2 : i ≤ n2) (he : i = n1 ∨ i = n2)
    (q : ∀ h' tk e, (∀ c o, c ≠ z → c ≠ i1 → c ≠ i2 → s.heap.get? c = some o → h'.get? c = some o) → (∃ o, h'.get? e = some o ∧ o.cls = .type "StopIteration") → E (.ref e) { s with heap := h', toks := tk }) :
    wpAny (model P w) A (Builtin.«zip.__next__» ⟨[.ref z], []⟩) Q E s := by
  obtain ⟨hp, g, d, t0, os⟩ := s
  show wpAny _ _ (field (.ref z) 2 >>= _) _ _ _; refine wpAny_bind (wpAny_field hz rfl (x := .bool false) rfl ?_)
  show wpAny _ _ (field (.ref z) 3 >>= _) _ _ _; refine wpAny_bind (wpAny_field hz rfl (x := .ref TI) rfl ?_)
  refine wpAny_bind (wpAny_seqItems hTI rfl ?_); show wpAny _ _ (Builtin.SmallTypes.ownedTupleIsFree (.ref z) >>= _) _ _ _
  refine wpAny_bind (wpAny_tupleHeld_zip hz hT fun a1 hz1 b1 => ?_)
  replace b1 : Heap.SameBut z hp a1 := b1
  simp only [Bool.false_eq_true, if_false]; refine wpAny_bind ?_; rw [← Array.forIn_toList]
  simp only [List.forIn_cons, List.forIn_nil]; refine wpAny_bind (wpAny_bind (wpAny_holding ?_))
  show wpAny _ _ (Builtin.SmallTypes.nextOf (.ref i1) >>= _) _ _ ⟨a1, g, d, t0, os⟩
  by_cases c : i < n1
  · refine wpAny_bind (D1.item i _ _ _ c (D1.over st1 b1 S.zf1) fun x1 a2 t1 y1 u1 b2 => wpAny_pure (wpAny_pure ?_))
    replace b2 : Heap.SameBut i1 a1 a2 := b2
    obtain rfl : i = n2 := by omega
    refine wpAny_bind (wpAny_bind (wpAny_holding ?_)); show wpAny _ _ (Builtin.SmallTypes.nextOf (.ref i2) >>= _) _ _ ⟨a2, g, d, t1, os⟩
    refine wpAny_bind (D2.done ⟨a2, g, d, t1, os⟩ _ _ (D2.over (D2.over st2 b1 S.zf2) b2 S.sep1_2) fun a3 e b3 h => ?_)
    exact q a3 t1 e (fun c o k1 k2 k3 x => b3 _ _ k3 (b2.extBut _ _ k2 (b1.extBut _ _ k1 x))) h
  · obtain rfl : i = n1 := by omega
    refine wpAny_bind (D1.done ⟨a1, g, d, t0, os⟩ _ _ (D1.over st1 b1 S.zf1) fun a3 e b3 h => ?_)
    exact q a3 t0 e (fun c o k1 k2 k3 x => b3 _ _ k2 (b1.extBut _ _ k1 x)) h
theorem nextHeld {Q : Option Value → Shared → Prop} (S : ZipSep2 z TI TO i1 i2 f1 f2) (D1 : Draws P w A.in1 i1 f1 n1 P1 S1) (D2 : Draws P w A.in1 i2 f2 n2 P2 S2) (hz : IsZipHeld s.heap z TI TO T f) (hT : s.heap.get? T = some oT)
    (hTI : IsTupOf2 s.heap TI (.ref i1) (.ref i2)) (st1 : S1 i s.heap) (st2 : S2 i s.heap) (l1 : i < n1) (l2 : i < n2)
    (q : ∀ x1 x2 h' tk, P1 i x1 → P2 i x2 → IsZipHeld h' z TI TO T true → S1 (i + 1) h' → S2 (i + 1) h' → IsTupOf2 h' s.heap.objs.size x1 x2 → (∀ c o, c ≠ z → c ≠ i1 → c ≠ i2 → s.heap.get? c = some o → h'.get? c = some o) → Q (some (.ref s.heap.objs.size)) { s with heap := h', toks := tk }) :
    wpAny (model P w) A (pyNext (.ref z)) Q E s := by
  have ty : s.TypeIs (.ref z) "zip" := ⟨_, hz, rfl⟩
  unfold pyNext
  refine wpAny_bind (wpAny_attempt (wpAny_callSpecial?_slot (name := Str.ofString "__next__") ty F.slot_zip_next (wpAny_call_entry F.slot_zip_next ty F.entry_zip_next (heldItem S D1 D2 hz hT hTI st1 st2 l1 l2 fun x1 x2 h' tk a b c d e f g => wpAny_pure (q x1 x2 h' tk a b c d e f g)) (F.args_zip_next_1 _))))
theorem nextHeldEnd {Q : Option Value → Shared → Prop} (S : ZipSep2 z TI TO i1 i2 f1 f2) (D1 : Draws P w A.in1 i1 f1 n1 P1 S1) (D2 : Draws P w A.in1 i2 f2 n2 P2 S2) (hz : IsZipHeld s.heap z TI TO T f) (hT : s.heap.get? T = some oT)
    (hTI : IsTupOf2 s.heap TI (.ref i1) (.ref i2)) (st1 : S1 i s.heap) (st2 : S2 i s.heap) (l1 : i ≤ n1) (l2 : i ≤ n2) (he : i = n1 ∨ i = n2)
    (q : ∀ h' tk, (∀ c o, c ≠ z → c ≠ i1 → c ≠ i2 → s.heap.get? c = some o → h'.get? c = some o) → Q none { s with heap := h', toks := tk }) : wpAny (model P w) A (pyNext (.ref z)) Q E s := by
  have ty : s.TypeIs (.ref z) "zip" := ⟨_, hz, rfl⟩
  unfold pyNext
  refine wpAny_bind (wpAny_attempt (wpAny_callSpecial?_slot (name := Str.ofString "__next__") ty F.slot_zip_next (wpAny_call_entry F.slot_zip_next ty F.entry_zip_next (heldEnd S D1 D2 hz hT hTI st1 st2 l1 l2 he fun h' tk e hk h => ?_) (F.args_zip_next_1 _))))
  obtain ⟨o, ho, hc⟩ := h
  exact wpAny_bind (wpAny_isInstance (T := "StopIteration") (b := true) ⟨o, ho, hc⟩ isSubtype_stop (wpAny_pure (q _ _ hk)))
end
/-- zip over two iterators of any kind as the argument of dict -/
theorem argZip {P : Program} {w : World} {z TI TO i1 i2 : Addr} {f1 f2 : List Addr} {n1 n2 : Nat} {P1 P2 : Nat → Value → Prop} {S1 S2 : Nat → Heap → Prop} (S : ZipSep2 z TI TO i1 i2 f1 f2) (D1 : ∀ A : Around, A.handled = none → Draws P w A i1 f1 n1 P1 S1) (D2 : ∀ A : Around, A.handled = none → Draws P w A i2 f2 n2 P2 S2)
    (t1 : ∀ h i, S1 i h → ∀ b ∈ f1, ∃ o, h.get? b = some o) (t2 : ∀ h i, S2 i h → ∀ b ∈ f2, ∃ o, h.get? b = some o) :
    PairArg P w "zip" z (z :: TI :: TO :: (f1 ++ f2)) [z, TO, i1, i2] (min n1 n2) (fun i k v => P1 i k ∧ P2 i v) (fun h => IsZip h z TI TO .none ∧ IsTupOf2 h TI (.ref i1) (.ref i2) ∧ (∃ a b, IsTupOf2 h TO a b) ∧ S1 0 h ∧ S2 0 h) where
  type := fun _ good => ⟨_, good.1, rfl⟩
  notDict := by decide
  keep := fun h h' ok k => by
    obtain ⟨hz, hTI, ⟨a, b, hTO⟩, h1, h2⟩ := ok
    exact ⟨k _ _ hz, k _ _ hTI, ⟨a, b, k _ _ hTO⟩, (D1 { units := 0, handled := none } rfl).frame _ _ _ h1 fun b _ o e => k b o e, (D2 { units := 0, handled := none } rfl).frame _ _ _ h2 fun b _ o e => k b o e⟩
  there := fun h ok b hb => by
    obtain ⟨hz, hTI, ⟨a, c, hTO⟩, h1, h2⟩ := ok
    have five : b = z ∨ b = TI ∨ b = TO ∨ b ∈ f1 ∨ b ∈ f2 := by simpa [List.mem_append] using hb
    rcases five with rfl | rfl | rfl | inF | inG
    · exact ⟨_, hz⟩
    · exact ⟨_, hTI⟩
    · exact ⟨_, hTO⟩
    · exact t1 _ _ h1 b inF
    · exact t2 _ _ h2 b inG
  sub := fun c hc => by
    have m1 := S.mem1
    have m2 := S.mem2
    simp only [List.mem_cons, List.mem_append, List.not_mem_nil, or_false] at hc ⊢
    rcases hc with rfl | rfl | rfl | rfl
    · exact .inl rfl
    · exact .inr (.inr (.inl rfl))
    · exact .inr (.inr (.inr (.inl m1)))
    · exact .inr (.inr (.inr (.inr m2)))
  noKeys := fun _ _ _ _ quiet good next => getAttrOr_miss_zip good.1 rfl rfl rfl zip_no_keys (by decide +kernel) quiet next
  iter := fun A s d Q E hA good hd hdf h => by
    obtain ⟨hz, hTI, ⟨a, b, hTO⟩, st1, st2⟩ := good
    have E1 := D1 A.in1 hA
    have E2 := D2 A.in1 hA
    simp only [List.mem_cons, List.mem_append, not_or] at hdf
    obtain ⟨dz, dTI, dTO, dn1, dn2⟩ := hdf
    have di1 : d ≠ i1 := fun e => dn1 (by rw [e]; exact S.mem1)
    have di2 : d ≠ i2 := fun e => dn2 (by rw [e]; exact S.mem2)
    refine wpAny_pyIter_zip hz (h z [z, TO, i1, i2] (fun i h => IsTupOf2 h TI (.ref i1) (.ref i2) ∧ S1 i h ∧ S2 i h ∧ ((IsZip h z TI TO .none ∧ ∃ a b, IsTupOf2 h TO a b) ∨ ∃ T f oT, IsZipHeld h z TI TO T f ∧ h.get? T = some oT ∧ T ≠ z ∧ T ≠ i1 ∧ T ≠ i2 ∧ T ≠ d)) s.heap s.toks ?_
      ⟨hTI, st1, st2, .inl ⟨hz, a, b, hTO⟩⟩ (fun _ _ e => e) fun b hb => .inl hb)
    have nb : ∀ {c : Addr}, c ∉ [z, TO, i1, i2] → c ≠ z ∧ c ≠ TO ∧ c ≠ i1 ∧ c ≠ i2 := fun hc => by
      simp only [List.mem_cons, List.not_mem_nil, or_false, not_or] at hc
      exact hc
    exact {
      off := fun hm => by
        have four : d = z ∨ d = TO ∨ d = i1 ∨ d = i2 := by simpa using hm
        rcases four with e | e | e | e
        · exact dz e
        · exact dTO e
        · exact di1 e
        · exact di2 e
      frame := fun i h1 h2 st k => by
        obtain ⟨q1, q2, q3, q4⟩ := st
        refine ⟨k _ _ (Ne.symm dTI) q1, E1.frame _ _ _ q2 fun b hb o e => k b o (fun x => dn1 (x ▸ hb)) e, E2.frame _ _ _ q3 fun b hb o e => k b o (fun x => dn2 (x ▸ hb)) e, ?_⟩
        rcases q4 with ⟨q4, a, b, q5⟩ | ⟨T, f, oT, q4, q5, r1, r2, r3, r4⟩
        · exact .inl ⟨k _ _ (Ne.symm dz) q4, a, b, k _ _ (Ne.symm dTO) q5⟩
        · exact .inr ⟨T, f, oT, k _ _ (Ne.symm dz) q4, k _ _ r4 q5, r1, r2, r3, r4⟩
      item := fun i s1 Q1 X1 hi st hds hQ => by
        obtain ⟨q1, q2, q3, q4⟩ := st
        have g1 : i < n1 := Nat.lt_of_lt_of_le hi (Nat.min_le_left ..)
        have g2 : i < n2 := Nat.lt_of_lt_of_le hi (Nat.min_le_right ..)
        have lt : ∀ {c o}, s1.heap.get? c = some o → s1.heap.objs.size ≠ c := fun e => Nat.ne_of_gt (Heap.lt_size e)
        have e1 : s1.heap.objs.size ≠ i1 := let ⟨_, e⟩ := E1.live _ _ q2; lt e
        have e2 : s1.heap.objs.size ≠ i2 := let ⟨_, e⟩ := E2.live _ _ q3; lt e
        rcases q4 with ⟨q4, a, b, q5⟩ | ⟨T, f, oT, q4, q5, r1, r2, r3, r4⟩
        · refine wpAny_pyNext_zipD2_item S E1 E2 q4 q1 q5 q2 q3 g1 g2 fun x1 x2 h' tk y1 y2 b1 b2 d1 d2 b5 b6 hk => ?_
          exact hQ s1.heap.objs.size _ _ h' tk ⟨y1, y2⟩ (.inl ⟨_, b5, rfl, _, rfl⟩) ⟨hk _ _ S.TIz S.TITO S.TIi1 S.TIi2 q1, d1, d2, .inr ⟨s1.heap.objs.size, false, _, b1, b5, lt q4, e1, e2, Nat.ne_of_gt hds⟩⟩
            fun c o hc e => hk c o (nb hc).1 (nb hc).2.1 (nb hc).2.2.1 (nb hc).2.2.2 e
        · refine nextHeld S E1 E2 q4 q5 q1 q2 q3 g1 g2 fun x1 x2 h' tk y1 y2 b1 d1 d2 b5 hk => ?_
          exact hQ s1.heap.objs.size _ _ h' tk ⟨y1, y2⟩ (.inl ⟨_, b5, rfl, _, rfl⟩) ⟨hk _ _ S.TIz S.TIi1 S.TIi2 q1, d1, d2, .inr ⟨T, true, oT, b1, hk _ _ r1 r2 r3 q5, r1, r2, r3, r4⟩⟩
            fun c o hc e => hk c o (nb hc).1 (nb hc).2.2.1 (nb hc).2.2.2 e
      done := fun s1 Q1 X1 st hQ => by
        obtain ⟨q1, q2, q3, q4⟩ := st
        have he : min n1 n2 = n1 ∨ min n1 n2 = n2 := by omega
        rcases q4 with ⟨q4, a, b, q5⟩ | ⟨T, f, oT, q4, q5, r1, r2, r3, r4⟩
        · exact wpAny_pyNext_zipD2_end S E1 E2 q4 q1 q5 q2 q3 (Nat.min_le_left ..) (Nat.min_le_right ..) he fun h' tk hk => hQ h' tk fun c o hc e => hk c o (nb hc).1 (nb hc).2.1 (nb hc).2.2.1 (nb hc).2.2.2 e
        · exact nextHeldEnd S E1 E2 q4 q5 q1 q2 q3 (Nat.min_le_left ..) (Nat.min_le_right ..) he fun h' tk hk => hQ h' tk fun c o hc e => hk c o (nb hc).1 (nb hc).2.2.1 (nb hc).2.2.2 e }
end FB
-- Z2
set_option Elab.async false
set_option linter.all false
set_option maxRecDepth 100000
set_option maxHeartbeats 3900000
namespace FB
open PySem PySem.Spec PyProof.Rows L2 Evl
/-- dict(zip(a, b)), a a tuple of keys, b a list -/
def tDictZip (K : PySem.W.Frag) (ta : TA) : TE := fun σ H Q => ta σ H fun vs H1 => ∃ (a b : Addr) (ks : List Key) (ys : List V), vs = [.ref a, .ref b] ∧ SqT K H1 a (ks.map kV) ∧ SqL K H1 b ys ∧ ∀ p, H1 p = none → Q (.ref p) (upd H1 p (.dK (mergeK [] (ks.zip ys))))
theorem kvZip : ∀ {ks : List Key} {ys : List V} {us : List Value}, Vals ys us → KV (ks.zip ys) (ks.zip us)
  | [], _, _, _ => by
    rw [List.zip_nil_left, List.zip_nil_left]
    exact .nil
  | k :: ks, _, _, .nil => by
    rw [List.zip_nil_right, List.zip_nil_right]
    exact .nil
  | k :: ks, _, _, .cons r t => .cons ⟨rfl, r⟩ (kvZip t)
theorem neN {x y : Nat} (h : x < y ∨ y < x) : x ≠ y := by omega
theorem notM {x a b : Nat} (h1 : x ≠ a) (h2 : x ≠ b) : x ∉ ([a, b] : List Nat) := fun h => by
  have two : x = a ∨ x = b := by simpa using h
  exact two.elim h1 h2
theorem sepN {n a b : Nat} (la : a < n) (lb : b < n) : ZipSep2 (n + 4) (n + 2) (n + 3) n (n + 1) [n, a] [n + 1, b] where
  TIz := neN (.inl (by omega))
  TOz := neN (.inl (by omega))
  TITO := neN (.inl (by omega))
  TIi1 := neN (.inr (by omega))
  mem1 := List.mem_cons_self ..
  zf1 := notM (neN (.inr (by omega))) (neN (.inr (by omega)))
  Tf1 := notM (neN (.inr (by omega))) (neN (.inr (by omega)))
  TIi2 := neN (.inr (by omega))
  mem2 := List.mem_cons_self ..
  zf2 := notM (neN (.inr (by omega))) (neN (.inr (by omega)))
  Tf2 := notM (neN (.inr (by omega))) (neN (.inr (by omega)))
  sep1_2 := notM (neN (.inl (by omega))) (neN (.inr (by omega)))
  sep2_1 := notM (neN (.inr (by omega))) (neN (.inr (by omega)))
section
variable {X : Cx}
theorem pe_dictZip {e1 e2 : Expr} {ta : TA} {p p2 q pos : Pos} (hc : X.calm = true) (hm : X.mg "dict" = none) (hm2 : X.mg "zip" = none) (ha : PA X [e1, e2] ta) (hg : Gl X "dict" := by rfl) (hg2 : Gl X "zip" := by rfl)
    (na : starEach [e1, e2] X.env = (false, eval e1 X.env) :: starEach [e2] X.env := by rfl) (hpl : (backTo q (starEach [e2] X.env)).any (·.1) = false := by rfl)
    (na2 : starEach [.Call (.Name "zip" p2) [e1, e2] [] q] X.env = (false, eval (.Call (.Name "zip" p2) [e1, e2] [] q) X.env) :: starEach [] X.env := by rfl) :
    PE X (.Call (.Name "dict" p) [.Call (.Name "zip" p2) [e1, e2] [] q] [] pos) (tDictZip X.K ta) := by
  refine ⟨fun pins s σ H Q J h => ?_⟩
  refine Call_ (ld_blt J hg hm PyProof.Rows.boot_dict ?_)
  refine PyProof.Rows.callWith_type1 (PyProof.Rows.args_cons ?_ na2) na2 rfl
  refine Call_ (ld_blt J hg2 hm2 PyProof.Rows.boot_zip (PyProof.Rows.callWith_type1 (thn (ha.run q pins s σ H _ J h) fun us s1 ⟨vs, H1, J1, r1, q1⟩ => ?_) na hpl))
  obtain ⟨a, b, ks, ys, ex, hqx, hqy, q1⟩ := q1
  subst ex
  cases r1 with
  | cons r rr =>
    cases rr with
    | cons r' rr =>
      cases rr
      cases r
      cases r'
      obtain ⟨its, rv, p1, z1⟩ := J1.tuple hqx
      obtain ⟨its2, rv2, p2, z2⟩ := J1.list hqy
      have pt1 : s1.heap.IsTuple a its.toArray := p1
      have pl2 : s1.heap.IsList b its2.toArray := p2.isList
      obtain ⟨o1, ho1, _⟩ := id p1
      obtain ⟨o2, ho2, _⟩ := id pl2
      have la : @LT.lt Nat _ a s1.heap.objs.size := Heap.lt_size ho1
      have lb : @LT.lt Nat _ b s1.heap.objs.size := Heap.lt_size ho2
      refine zip_begins2 (begins_tuple a its.toArray) (begins_list b its2.toArray) pt1 pl2 fun h' hz hTI hTO g1 g2 hsz hk => PyProof.Rows.args_nil ?_
      have S := sepN la lb
      have AR := argZip (P := X.prog) (w := X.w) S (fun A hA => Draws.tuple hA s1.heap.objs.size a (Nat.ne_of_lt la) its.toArray) (fun A hA => Draws.list hA (s1.heap.objs.size + 1) b (neN (.inl (Nat.lt_succ_of_lt lb))) its2.toArray)
        (fun h i st c hcm => by
          rcases List.mem_cons.mp hcm with rfl | hcm
          · obtain ⟨⟨o, e, _⟩, _⟩ := st
            exact ⟨o, e⟩
          · obtain rfl := List.mem_singleton.mp hcm
            obtain ⟨_, ⟨o, e, _⟩⟩ := st
            exact ⟨o, e⟩)
        (fun h i st c hcm => by
          rcases List.mem_cons.mp hcm with rfl | hcm
          · obtain ⟨⟨o, e, _⟩, _⟩ := st
            exact ⟨o, e⟩
          · obtain rfl := List.mem_singleton.mp hcm
            obtain ⟨_, ⟨o, e, _⟩⟩ := st
            exact ⟨o, e⟩)
      have L1 : its.length = ks.length := by rw [← rv.length, List.length_map]
      have z0 : ks.length ≤ sizeLine := by rw [List.length_map] at z1; exact z1
      refine PySem.call_dict_pairs (s := { s1 with heap := h' }) (knd := mixKind X.prog X.w) (kvs := ks.zip its2) AR (J1.ok.hd hc) ⟨hz, hTI, ⟨_, _, hTO⟩, ⟨⟨_, g1, rfl, rfl⟩, pt1.at fun o e => hk _ o e⟩, ⟨⟨_, g2, rfl, rfl⟩, pl2.at fun o e => hk _ o e⟩⟩ ⟨by rw [List.length_zip, List.size_toArray, List.size_toArray, L1], fun i key v hr => ?_⟩
        (by rw [List.size_toArray, List.size_toArray, L1]; exact Nat.le_trans (Nat.min_le_left _ _) z0) fun h2 tk hd k2 => ?_
      · obtain ⟨hr1, hr2⟩ := hr
        rw [List.getElem?_toArray] at hr1 hr2
        have hi : i < ks.length := by
          obtain ⟨h1, _⟩ := List.getElem?_eq_some_iff.mp hr1
          omega
        have hk1 : (ks.map kV)[i]? = some (kV ks[i]) := by rw [List.getElem?_map, List.getElem?_eq_getElem hi]; rfl
        obtain ⟨u, hu, ru⟩ := rv.get hk1
        rw [hr1] at hu
        cases hu
        exact ⟨ks[i], by rw [List.getElem?_zip_eq_some]; exact ⟨List.getElem?_eq_getElem hi, hr2⟩, kV_is ru⟩
      · have hs : (h'.objs.size == sysModules) = false := beq_eq_false_iff_ne.mpr (neN (.inr (by rw [hsz]; exact Nat.lt_of_lt_of_le J1.big (Nat.le_add_right _ _))))
        have hl : (mergeK [] (ks.zip ys)).length ≤ sizeLine := by
          refine Nat.le_trans (length_mergeK _ []) ?_
          rw [List.length_nil, Nat.zero_add, List.length_zip]
          exact Nat.le_trans (Nat.min_le_left _ _) z0
        have kk : ∀ c o, s1.heap.get? c = some o → h2.get? c = some o := fun c o e => k2 c o (by
          have lc : @LT.lt Nat _ c s1.heap.objs.size := Heap.lt_size e
          simp only [List.mem_cons, List.not_mem_nil, or_false, not_or]
          exact ⟨neN (.inl (by omega)), neN (.inl (by omega)), neN (.inl lc), neN (.inl (by omega))⟩) (hk c o e)
        exact ⟨.ref h'.objs.size, upd H1 h'.objs.size (.dK (mergeK [] (ks.zip ys))), J1.laid (t' := tk) kk (by rw [hsz]; exact Nat.le_add_right _ _) (show ObjOk X.prog X.w _ _ _ (.dK (mergeK [] (ks.zip ys))) from ⟨hl, hs, merged [] (ks.zip its2), KV.merge (kvZip rv2) .nil, hd⟩), rfl, q1 _ (J1.hok.fresh (by rw [hsz]; exact Nat.le_add_right _ _))⟩
end
end FB
-- K1
set_option Elab.async false
set_option linter.all false
set_option maxRecDepth 100000
set_option maxHeartbeats 3900000
namespace FB
open PySem PySem.Spec PyProof.Rows L2 Evl
/-! ### dicts that the top has written -/
def Kd (P : Program) (w : World) (K : PySem.W.Frag) (a : Addr) (kvs : List (Key × V)) : Prop :=
  (a == sysModules) = false ∧ ∃ o es ep vs, K.lookup a = some o ∧ o.ExactDict ∧ o.data = .dict es ep ∧ KeysOf (mixKind P w) es ∧ Pairs (mixKind P w) es.toList vs ∧ (vs.map (·.1)).Nodup ∧ KV kvs vs
def tKGet (P : Program) (w : World) (K : PySem.W.Frag) (td ty : TE) : TE := fun σ H Q => td σ H fun x H1 => ty σ H1 fun y H2 => ∃ (a : Addr) (kvs : List (Key × V)) (k : Key) (v : V), x = .ref a ∧ Kd P w K a kvs ∧ y = kV k ∧ valV kvs k = some v ∧ Q v H2
def tKGet1 (P : Program) (w : World) (K : PySem.W.Frag) (td ty : TE) : TE := fun σ H Q => td σ H fun x H1 => ∃ (a : Addr) (kvs : List (Key × V)), x = .ref a ∧ Kd P w K a kvs ∧ ty σ H1 fun y H2 => ∃ k : Key, y = kV k ∧ Q ((valV kvs k).getD .non) H2
section
variable {X : Cx} {o i e : Expr} {pos apos cpos : Pos} {td ty : TE} {pins : List (Addr × Obj)} {σ : L2.St} {H : Hp} {s : Shared} {a : Addr} {kvs : List (Key × V)}
theorem Kd.at (d : Kd X.prog X.w X.K a kvs) (J : Inv X pins σ H s) : ∃ vs, KV kvs vs ∧ s.heap.DictOf (mixKind X.prog X.w) a vs := by
  obtain ⟨_, o, es, ep, vs, h1, h2, h3, h4, h5, h6, h7⟩ := d
  exact ⟨vs, h7, o, es, ep, J.kIn a o h1, h2, h3, h4, h5, h6⟩
theorem pe_kget (ho : PE X o td) (hi : PE X i ty) (hs : NoSl i) : PE X (.Subscript o i pos) (tKGet X.prog X.w X.K td ty) := by
  refine ⟨fun pins s σ H Q J h => ?_⟩
  refine subD_of PySem.F.slot_dict_getitem.lookup hs (thn (ho.run pins s σ H _ J h) fun u s1 ⟨x, H1, J1, rx, q1⟩ => thn (hi.run pins s1 σ H1 _ J1 q1) fun iv s2 ⟨y, H2, J2, ry, a, kvs, k, v, ex, d, ey, l, q2⟩ => ?_)
  subst ex ey
  have eu : u = Value.ref a := rx
  subst eu
  obtain ⟨vs, rel, dd⟩ := d.at J2
  have hv : RelO (some v) (valueAt vs k) := l ▸ rel.val k
  obtain ⟨u1, hu1, ru1⟩ := RelO.some_of hv
  exact ⟨dd.typeIs, wpAny_getItem_of (kV_is ry) dd.mapOf hu1 ⟨v, H2, J2.tok _, ru1, q2⟩⟩
theorem pe_kget1 (ho : PE X o td) (he : PE X e ty) (m : M1 X o "get" apos e cpos) : PE X (.Call (.Attribute o "get" apos) [e] [] cpos) (tKGet1 X.prog X.w X.K td ty) := by
  refine ⟨fun pins s σ H Q J h => ?_⟩
  refine wpAny_Call_method m.base m.few m.line PySem.F.plainAttrs_dict PySem.F.slot_dict_get PySem.F.type_dict_get (thn (ho.run pins s σ H _ J h) fun u s1 ⟨x, H1, J1, rx, a, kvs, ex, d, q1⟩ => ?_)
  subst ex
  have eu : u = Value.ref a := rx
  subst eu
  obtain ⟨vs, rel, dd⟩ := d.at J1
  refine ⟨dd.typeIs, fun b q => ?_, ?_⟩
  · cases q
    obtain ⟨here, _, _, at_, exact_, _⟩ := dd
    exact ⟨here, at_, exact_.2.1⟩
  rw [m.trees]
  refine Calls.callWith_builtin rfl (Calls.evalArgs_plain (Calls.spliced_cons (thn (he.run pins s1 σ H1 _ J1 q1) fun iv s2 ⟨y, H2, J2, ry, k, ey, q2⟩ => Calls.spliced_nil ?_)))
  subst ey
  obtain ⟨vs2, rel2, dd2⟩ := d.at J2
  exact call_meetsIn PySem.F.slot_dict_get dd2.typeIs PySem.F.entry_dict_get (PySem.F.args_dict_get_2 _ _) (meets_dict_get (mixKind X.prog X.w) a (kV_is ry) d.1) ⟨_, dd2.mapOf, ⟨_, H2, J2.tok _, (rel2.val k).getD (d := .non) rfl, q2⟩⟩
end
section
variable {P : Program} {w : World} {K : PySem.W.Frag} {σ : L2.St} {H : Hp} {td ty : TE} {a : Addr} {kvs : List (Key × V)} {k : Key} {v : V}
theorem ev_kget (hd : Ev td σ H (.ref a)) (hy : Ev ty σ H (kV k)) (d : Kd P w K a kvs) (l : valV kvs k = some v) : Ev (tKGet P w K td ty) σ H v := fun H1 e Q q =>
  hd H1 e _ fun H2 e2 => hy H2 (e.trans e2) _ fun H3 e3 => ⟨a, kvs, k, v, rfl, d, rfl, l, q H3 (e2.trans e3)⟩
theorem ev_kget1 (hd : Ev td σ H (.ref a)) (hy : Ev ty σ H (kV k)) (d : Kd P w K a kvs) : Ev (tKGet1 P w K td ty) σ H ((valV kvs k).getD .non) := fun H1 e Q q =>
  hd H1 e _ fun H2 e2 => ⟨a, kvs, rfl, d, hy H2 (e.trans e2) _ fun H3 e3 => ⟨k, rfl, q H3 (e2.trans e3)⟩⟩
end
/-! ### the program's tables -/
def wnT : List (Int × List Str) := [(0, ["day"]), (1, ["owner", "yes"]), (2, []), (3, ["event", "day", "account", "amount"]), (4, ["event", "day", "about"]), (5, ["event", "day", "owner", "units"]), (6, ["event", "day", "owner", "amount"]), (7, ["event", "day", "source", "owner"]), (8, ["event", "day", "about"]), (9, ["event", "day"]), (10, ["undone"]), (11, ["account", "day"]), (12, ["about", "day"]), (13, ["owner", "day"]), (14, ["land", "day"]), (15, ["day"]), (16, ["day", "units", "small"]), (17, ["day"]), (18, []), (19, ["account", "day"]), (20, ["owner", "day"])]
def rangesT : List (Str × Int × Int) := [("event", 1, 999), ("day", 0, 100000), ("account", 1, 20), ("source", 0, 20), ("owner", 1, 40), ("amount", 1, 1000000000), ("units", 0, 10000), ("yes", 0, 1), ("small", 0, 1)]
def tellT : List (Int × Str) := [(0, "tell_schedule"), (1, "tell_small"), (2, "tell_lands"), (3, "tell_event"), (4, "tell_bounce"), (5, "tell_charge"), (6, "tell_event"), (7, "tell_event"), (8, "tell_refund"), (9, "tell_event"), (10, "tell_undo")]
def takeT : List (Int × Str) := [(3, "take_deposit"), (4, "take_bounce"), (5, "take_charge"), (6, "take_payment"), (7, "take_order"), (8, "take_refund"), (9, "take_closing")]
def askT : List (Int × Str) := [(11, "ask_account"), (12, "ask_charged"), (13, "ask_owner"), (14, "ask_land"), (15, "ask_totals"), (16, "ask_price"), (17, "ask_text"), (18, "ask_events"), (19, "ask_owed"), (20, "ask_opened")]
/-- a table of defs by whole numbers -/
def FnTab (P : Program) (w : World) (K : PySem.W.Frag) (x : Str) (T : List (Int × Str)) : Prop := ∃ as : List Addr, as.length = T.length ∧ Kd P w K (He.ga K x) ((T.zip as).map fun q => (Sum.inl q.1.1, V.ref q.2)) ∧ ∀ q ∈ T.zip as, q.2 = He.ga K q.1.2
structure Tw (P : Program) (w : World) (K : PySem.W.Frag) : Prop where
  wn : ∃ as : List Addr, as.length = wnT.length ∧ Kd P w K (He.ga K "WHOLE_NUMBERS") ((wnT.zip as).map fun q => (Sum.inl q.1.1, V.ref q.2)) ∧ ∀ q ∈ wnT.zip as, ∀ H, SqT K H q.2 (q.1.2.map V.str)
  rg : ∃ as : List Addr, as.length = rangesT.length ∧ Kd P w K (He.ga K "RANGES") ((rangesT.zip as).map fun q => (Sum.inr q.1.1, V.ref q.2)) ∧ ∀ q ∈ rangesT.zip as, ∀ H, SqT K H q.2 [.int q.1.2.1, .int q.1.2.2]
  te : FnTab P w K "TELLERS" tellT
  ta : FnTab P w K "TAKERS" takeT
  sk : FnTab P w K "ASKERS" askT
/-- a table looked up -/
theorem valV_tab {α : Type} {key : α → Key} : ∀ {l : List α} {as : List Addr} {x : α}, as.length = l.length → (l.map key).Nodup → x ∈ l → ∃ a, (x, a) ∈ l.zip as ∧ valV ((l.zip as).map fun q => (key q.1, V.ref q.2)) (key x) = some (.ref a)
  | [], _, _, _, _, h => nomatch h
  | y :: l, [], _, hl, _, _ => nomatch hl
  | y :: l, a :: as, x, hl, nd, hx => by
    obtain ⟨nd1, nd2⟩ := List.nodup_cons.mp (show (key y :: l.map key).Nodup from nd)
    rw [List.zip_cons_cons, List.map_cons]
    by_cases c : key y = key x
    · rcases List.mem_cons.mp hx with rfl | hx
      · exact ⟨a, List.mem_cons_self .., valV_pos (p := (key x, V.ref a)) rfl⟩
      · exact absurd (List.mem_map.mpr ⟨x, hx, c.symm⟩) nd1
    · rcases List.mem_cons.mp hx with rfl | hx
      · exact absurd rfl c
      · obtain ⟨b, h1, h2⟩ := valV_tab (as := as) (by simpa using hl) nd2 hx
        exact ⟨b, List.mem_cons_of_mem _ h1, by rw [valV_neg (p := (key y, V.ref a)) c]; exact h2⟩
theorem valV_tabN {α : Type} {key : α → Key} {k : Key} : ∀ {l : List α} {as : List Addr}, (∀ x ∈ l, key x ≠ k) → valV ((l.zip as).map fun q => (key q.1, V.ref q.2)) k = none
  | [], _, _ => rfl
  | y :: l, [], _ => rfl
  | y :: l, a :: as, h => by
    rw [List.zip_cons_cons, List.map_cons, valV_neg (p := (key y, V.ref a)) (h y (List.mem_cons_self ..))]
    exact valV_tabN fun x hx => h x (List.mem_cons_of_mem _ hx)
end FB
-- E0
set_option Elab.async false
set_option linter.all false
set_option maxRecDepth 100000
set_option maxHeartbeats 3900000
/-! the head's facts: dicts of the top, an own error class; the end by a Hook -/
namespace FB
open PySem PySem.Spec PyProof.Rows L2 Evl
/-- v is a tuple of these -/
def tupOf (K : PySem.W.Frag) (t : Addr) (vs : List V) : Bool := match K.lookup t with
  | some ⟨.type c, _, .seq its _, _⟩ => decide (c = "tuple") && (decide (its.size ≤ sizeLine) && He.relAll vs its.toList)
  | _ => false
def seqAt (K : PySem.W.Frag) (v : Value) (vs : List V) : Bool := match v with
  | .ref t => tupOf K t vs
  | _ => false
theorem seqAt_ok {K : PySem.W.Frag} {v : Value} {vs : List V} (h : seqAt K v vs = true) : ∃ t, v = .ref t ∧ ∀ H, SqT K H t vs := by
  cases v with
  | ref t =>
    refine ⟨t, rfl, fun H => ?_⟩
    have h0 : tupOf K t vs = true := h
    unfold tupOf at h0
    cases q : K.lookup t with
    | none =>
      rw [q] at h0
      cases h0
    | some o =>
      obtain ⟨oc, od, dt, osl⟩ := o
      rw [q] at h0
      cases oc with
      | type c =>
        cases dt with
        | seq its n =>
          obtain ⟨h1, h2⟩ := He.ba (show (decide (c = "tuple") && (decide (its.size ≤ sizeLine) && He.relAll vs its.toList)) = true from h0)
          obtain ⟨h3, h4⟩ := He.ba h2
          exact .inr ⟨_, its, n, q, congrArg Value.type (of_decide_eq_true h1), rfl, of_decide_eq_true h3, He.relAll_ok h4⟩
        | _ => cases h0
      | _ => cases dt <;> cases h0
  | _ => cases h
def hB (k : Key) (e : DictEntry) : Bool := match k with
  | .inl i => decide (e.hash = hashInt i)
  | .inr _ => true
/-- the entries of a dict: keys, the hashes of those that are whole numbers, values by a test -/
def entsB {α : Type} (tst : α → Value → Bool) : List (Key × α) → List DictEntry → Bool
  | [], [] => true
  | (k, x) :: l, e :: es => keyIs k e.key && (hB k e && (tst x e.val && entsB tst l es))
  | _, _ => false
def dctB {α : Type} (K : PySem.W.Frag) (a : Addr) (tst : α → Value → Bool) (l : List (Key × α)) : Bool := match K.lookup a with
  | some ⟨.type c, none, .dict es _, sl⟩ => decide (c = "dict") && (sl.isEmpty && (!(a == sysModules) && entsB tst l es.toList))
  | _ => false
/-- the hashes of the keys that are texts stand -/
def HashOk (w : World) (K : PySem.W.Frag) (a : Addr) : Prop := ∀ o es n, K.lookup a = some o → o.data = .dict es n → ∀ e ∈ es.toList, ∀ x t, e.key = .str x t → e.hash = hashStr w x
theorem ents_ok {α : Type} {P : Program} {w : World} {tst : α → Value → Bool} : ∀ {l : List (Key × α)} {es : List DictEntry}, entsB tst l es = true → (∀ e ∈ es, ∀ x t, e.key = .str x t → e.hash = hashStr w x) →
    ∃ vs : List Value, vs.length = l.length ∧ (∀ e ∈ es, ∃ k, (mixKind P w).is k e.key = true ∧ e.hash = (mixKind P w).hash k) ∧ Pairs (mixKind P w) es ((l.zip vs).map fun q => (q.1.1, q.2)) ∧ ∀ q ∈ l.zip vs, tst q.1.2 q.2 = true
  | [], [], _, _ => ⟨[], rfl, fun e h => (nomatch h), .nil, fun q h => nomatch h⟩
  | [], _ :: _, bad, _ => Bool.noConfusion bad
  | _ :: _, [], bad, _ => Bool.noConfusion bad
  | (k, x) :: l, e :: es, h, hh => by
    obtain ⟨h1, h2⟩ := He.ba (show (keyIs k e.key && (hB k e && (tst x e.val && entsB tst l es))) = true from h)
    obtain ⟨h3, h4⟩ := He.ba h2
    obtain ⟨h5, h6⟩ := He.ba h4
    obtain ⟨vs, hl, hk, hp, ht⟩ := ents_ok h6 fun e he => hh e (List.mem_cons_of_mem _ he)
    refine ⟨e.val :: vs, by rw [List.length_cons, List.length_cons, hl], fun e' he' => ?_, .cons h1 rfl hp, fun q hq => ?_⟩
    · rcases List.mem_cons.mp he' with rfl | later
      · refine ⟨k, h1, ?_⟩
        cases k with
        | inl i => exact of_decide_eq_true h3
        | inr z =>
          rcases keyIs_shape h1 with ⟨i, t, e1, _⟩ | ⟨y, t, e1, e2⟩
          · cases e1
          · cases e1
            exact hh _ (List.mem_cons_self ..) _ _ e2
      · exact hk e' later
    · rcases List.mem_cons.mp hq with rfl | later
      · exact h5
      · exact ht q later
theorem pairs_keys {P : Program} {w : World} {α : Type} : ∀ {l : List (Key × α)} {vs : List Value}, vs.length = l.length → ((l.zip vs).map fun q => (q.1.1, q.2)).map (·.1) = l.map (·.1)
  | [], _, _ => rfl
  | _ :: _, [], h => nomatch h
  | q :: l, v :: vs, h => by
    rw [List.zip_cons_cons, List.map_cons, List.map_cons, List.map_cons, pairs_keys (P := P) (w := w) (by simpa using h)]
/-- a dict of the top, its values known by a test -/
theorem kd_of {α : Type} {P : Program} {w : World} {K : PySem.W.Frag} {a : Addr} {tst : α → Value → Bool} {l : List (Key × α)} (h : dctB K a tst l = true) (hh : HashOk w K a) (nd : (l.map (·.1)).Nodup) (W : α → V → Prop) (ht : ∀ x u, tst x u = true → ∃ v, RelV v u ∧ W x v) :
    ∃ vs : List V, vs.length = l.length ∧ Kd P w K a ((l.zip vs).map fun q => (q.1.1, q.2)) ∧ ∀ q ∈ l.zip vs, W q.1.2 q.2 := by
  unfold dctB at h
  cases q : K.lookup a with
  | none =>
    rw [q] at h
    cases h
  | some o =>
    obtain ⟨oc, od, dt, osl⟩ := o
    rw [q] at h
    cases oc with
    | type c =>
      cases od with
      | none =>
        cases dt with
        | dict es n =>
          obtain ⟨h1, h2⟩ := He.ba (show (decide (c = "dict") && (osl.isEmpty && (!(a == sysModules) && entsB tst l es.toList))) = true from h)
          obtain ⟨h3, h4⟩ := He.ba h2
          obtain ⟨h5, h6⟩ := He.ba h4
          obtain ⟨us, hl, hk, hp, hq⟩ := ents_ok (P := P) (w := w) h6 (hh _ _ _ q rfl)
          have pick : ∀ {l : List (Key × α)} {us : List Value}, us.length = l.length → (∀ q ∈ l.zip us, tst q.1.2 q.2 = true) → ∃ vs : List V, vs.length = l.length ∧ KV ((l.zip vs).map fun q => (q.1.1, q.2)) ((l.zip us).map fun q => (q.1.1, q.2)) ∧ ∀ q ∈ l.zip vs, W q.1.2 q.2 := by
            intro l
            induction l with
            | nil => exact fun _ _ => ⟨[], rfl, .nil, fun q h => nomatch h⟩
            | cons x l ih =>
              intro us hl hq
              cases us with
              | nil => cases hl
              | cons u us =>
                obtain ⟨v, hv, hw⟩ := ht _ _ (hq (x, u) (List.mem_cons_self ..))
                obtain ⟨vs, g1, g2, g3⟩ := ih (us := us) (by simpa using hl) fun q h => hq q (List.mem_cons_of_mem _ h)
                refine ⟨v :: vs, by rw [List.length_cons, List.length_cons, g1], .cons ⟨rfl, hv⟩ g2, fun q h => ?_⟩
                rcases List.mem_cons.mp h with rfl | later
                · exact hw
                · exact g3 q later
          obtain ⟨vs, g1, g2, g3⟩ := pick hl hq
          refine ⟨vs, g1, ⟨by cases z : a == sysModules with | false => rfl | true => (rw [z] at h5; cases h5), _, es, n, _, q, ⟨congrArg Value.type (of_decide_eq_true h1), rfl, Array.isEmpty_iff.mp h3⟩, rfl, fun e he => hk e (Array.mem_toList_iff.mpr he), hp, ?_, g2⟩, g3⟩
          rw [pairs_keys (P := P) (w := w) hl]
          exact nd
        | _ => cases h
      | some own => cases dt <;> exact Bool.noConfusion h
    | _ => cases od <;> cases dt <;> exact Bool.noConfusion h
theorem hash_ints {α : Type} {w : World} {K : PySem.W.Frag} {a : Addr} {tst : α → Value → Bool} {l : List (Key × α)} (h : dctB K a tst l = true) (hi : l.all (fun q => match q.1 with | .inl _ => true | .inr _ => false) = true) : HashOk w K a := by
  intro o es n ho hd e he x t hk
  unfold dctB at h
  rw [ho] at h
  obtain ⟨oc, od, dt, osl⟩ := o
  cases hd
  have key : ∀ {l : List (Key × α)} {es : List DictEntry}, entsB tst l es = true → l.all (fun q => match q.1 with | .inl _ => true | .inr _ => false) = true → ∀ e ∈ es, ∀ x t, e.key ≠ .str x t := by
    intro l
    induction l with
    | nil =>
      intro es h _ e he
      cases es with
      | nil => cases he
      | cons _ _ => cases h
    | cons q l ih =>
      intro es h hi e he x t hk
      obtain ⟨k, y⟩ := q
      cases es with
      | nil => cases he
      | cons e0 es =>
        obtain ⟨h1, h2⟩ := He.ba (show (keyIs k e0.key && (hB k e0 && (tst y e0.val && entsB tst l es))) = true from h)
        obtain ⟨h3, h4⟩ := He.ba h2
        obtain ⟨h5, h6⟩ := He.ba h4
        rw [List.all_cons, Bool.and_eq_true] at hi
        rcases List.mem_cons.mp he with rfl | later
        · rcases keyIs_shape h1 with ⟨i, t', e1, e2⟩ | ⟨y', t', e1, e2⟩
          · rw [hk] at e2
            cases e2
          · rw [e1] at hi
            exact Bool.noConfusion hi.1
        · exact ih h6 hi.2 e later x t hk
  cases oc with
  | type c =>
    cases od with
    | none =>
      obtain ⟨h1, h2⟩ := He.ba (show (decide (c = "dict") && (osl.isEmpty && (!(a == sysModules) && entsB tst l es.toList))) = true from h)
      exact absurd hk (key (He.ba (He.ba h2).2).2 hi e he x t)
    | some b => cases h
  | _ => cases od <;> cases h
theorem hash_tab {w : World} {K : PySem.W.Frag} {a : Addr} (h : ∃ es n, KDict K w a es n) : HashOk w K a := by
  intro o es n ho hd e he x t hk
  obtain ⟨es', n', D⟩ := h
  rw [D.at_] at ho
  cases ho
  cases hd
  obtain ⟨y, t', e1, e2⟩ := D.lit.all e he
  rw [hk] at e1
  cases e1
  exact e2
/-- an own error class over Exception -/
def oexB (K : PySem.W.Frag) (C : Addr) : Bool := (match K.lookup C with
  | some ⟨.type c, _, .cls cd, sl⟩ => decide (c = "type") && (decide (cd.mro = .ref C :: PySem.ESX.exTail) && (cd.hasDict && (!cd.hasDel && (match sl.toList with
    | [_, _, _, _, some (.builtin n), _] => decide (n = "Exception.__new__")
    | _ => false))))
  | _ => false) && (He.eqO (PySem.W.findIn K (.ref C) "__setattr__") (some (some (.builtin "object.__setattr__"))) && (decide (PySem.W.subIn K (.ref C) (.type "BaseException") = some true) && (decide (PySem.W.typeIn K (.ref C) = some (.type "type")) && PySem.W.keepIn K (.ref C))))
theorem oexB_ok {K : PySem.W.Frag} {C : Addr} (h : oexB K C = true) : OexE K C := by
  obtain ⟨h1, h2⟩ := He.ba h
  obtain ⟨h3, h4⟩ := He.ba h2
  obtain ⟨h5, h6⟩ := He.ba h4
  obtain ⟨h7, h8⟩ := He.ba h6
  refine ⟨?_, ⟨h8, of_decide_eq_true h7⟩, of_decide_eq_true h5, He.eqO_ok h3⟩
  cases q : K.lookup C with
  | none =>
    rw [q] at h1
    cases h1
  | some o =>
    obtain ⟨oc, od, dt, osl⟩ := o
    rw [q] at h1
    cases oc with
    | type c =>
      cases dt with
      | cls cd =>
        obtain ⟨g1, g2⟩ := He.ba (show (decide (c = "type") && (decide (cd.mro = .ref C :: PySem.ESX.exTail) && (cd.hasDict && (!cd.hasDel && (match osl.toList with
          | [_, _, _, _, some (.builtin n), _] => decide (n = "Exception.__new__")
          | _ => false))))) = true from h1)
        obtain ⟨g3, g4⟩ := He.ba g2
        obtain ⟨g5, g6⟩ := He.ba g4
        obtain ⟨g7, g8⟩ := He.ba g6
        obtain ⟨cname, bases, mro, ns, qname, hd, snames, subs, abst, coll, del⟩ := cd
        have e1 : mro = .ref C :: PySem.ESX.exTail := of_decide_eq_true g3
        have e2 : hd = true := g5
        have e3 : del = false := by
          cases del with
          | false => rfl
          | true => cases g7
        have e4 : c = "type" := of_decide_eq_true g1
        subst e1 e2 e3 e4
        obtain ⟨l⟩ := osl
        match l, g8 with
        | [k0, k1, k2, k3, some (.builtin n), k5], g8 =>
          have e5 : n = "Exception.__new__" := of_decide_eq_true g8
          subst e5
          exact ⟨cname, qname, ns, bases, snames, subs, abst, coll, od, k0, k1, k2, k3, k5, rfl⟩
      | _ => cases h1
    | _ => cases dt <;> cases h1
/-- the row's end where the written part is the Hook's -/
theorem walk_specE {r : PySem.W.OpenSpec} {k : Nat} {q : Program} {loose : List Str} {XP : (Str → Option Value) → Heap → Prop} {YP : World → Heap → Prop} {d : DefRec} {CX : World → CXT} {ps : List Str} {sp : World → PySem.W.Frag → Sp}
    (hwell : r.wellSaid = true) (hlen : r.args.length = ps.length) (hr : Room k callerA)
    (F : ∀ (w : World) (mg : Str → Option Value) (fa : Addr) (h : Heap), YP w h → h.Ns mainGlobals mg → mg d.name = some (.ref fa) → ∃ (K : PySem.W.Frag) (fd : FuncData), K.In h ∧ (∀ (s : Shared) (us : List Value), us.length = ps.length → BindsTo s fd ⟨us, []⟩ (ps.zip us)) ∧
      (∀ base : Heap, K.In base → base.Ns mainGlobals mg → FnOk r.prog w K mg base (CX w) k fa fd ps (sp w K)) ∧
      ∀ (H : Hp) (xs : List V) (a : PySem.W.Codec.denoteAll r.args), OnlyF H → PySem.W.Codec.withinAll r.args a = true → PySem.W.Codec.app r.args r.asked a = true → DwAll K H xs (PySem.W.Codec.encAll r.args a) → sp w K xs H (fun v H' => Dw K H' v (r.ret.enc (PySem.W.Codec.app r.args r.f a))) fun _ _ _ => False)
    (hCX : ∀ (w : World) (H : Hp) (s : Shared) (e : Value) (s' : Shared), CX w [] H s (fun _ _ _ => False) e s' → False) : PySem.W.WalkOS q loose XP YP r d [] (fun f vs => PySem.call f vs) := by
  intro w s0 s1 mg mb G Y fa o pm cd doc dV kV ho hd hcd hD hmg hg args vals as hpre hlay hrd hwl hlo
  obtain ⟨a, decoded, asked⟩ := PySem.W.os_pre_some hpre
  obtain ⟨same, hwi⟩ := PySem.W.Codec.encAll_of_decAll r.args args a decoded
  subst same
  obtain ⟨K, fd, KX, hb, hF, hsp⟩ := F w mg fa _ Y G.T.g hmg
  refine PySem.W.enter_call (codeAny_mono (spec_call (R := []) (cl := classAt s0.heap) (d0 := r.ret.enc (PySem.W.Codec.app r.args r.f a)) KX G.T.g G.T.b G.T.builtins G.T.nolimit hg hwl (pl_encAll _ _) (layable_weight hlay) hr hF hb (by rw [encAll_len]; exact hlen) (fun H xs hO hS => hsp H xs a hO hwi asked hS) fun H e s' => hCX w H s1 e s') fun r' s' hq => ?_)
  obtain ⟨u, reached, rfl, h1, h2, h3, h4⟩ := hq
  exact ⟨.inl ⟨u, _, reached, rfl, fun _ => rfl, h1, (PySem.W.OpenSpec.post_iff hwell hwi _ _).mpr rfl, fun z => Bool.noConfusion (show false = true from z)⟩, h2, h3, h4⟩
end FB
-- HA
set_option Elab.async false
set_option linter.all false
set_option maxRecDepth 100000
set_option maxHeartbeats 3900000
namespace FB
open PySem PyProof.Rows PySem.Spec L2
/-! a Hook over told addresses: no closure is reckoned -/
def obA (as : List Addr) (fa : List He.Fa) (fn : List He.DefD) (ts : List He.Tab) (tf : List He.Defn) (ex : PySem.W.Frag → Bool) (g : Addr → Option Obj) : He.AlX :=
  let K := He.frT g as
  (He.obsT fa fn ts K, ex K && He.tabsB g tf K)
theorem tab_at {g : Addr → Option Obj} {tf : List He.Defn} {K : PySem.W.Frag} (h : He.tabsB g tf K = true) {p : He.Defn} (hp : p ∈ tf) :
    PySem.W.codeHdIn K (He.cT K p).1 (He.cT K p).2 = true ∧ ∃ o, g (He.cT K p).2 = some o ∧ He.emptyTab o = true := by
  have h1 := He.ba (List.all_eq_true.mp h p hp)
  refine ⟨h1.1, ?_⟩
  have h2 := h1.2
  revert h2
  cases g (He.cT K p).2 with
  | none => exact fun z => nomatch z
  | some o => exact fun z => ⟨o, rfl, z⟩
theorem says_obA {as : List Addr} {fa : List He.Fa} {fn : List He.DefD} {ts : List He.Tab} {tf : List He.Defn} {ex : PySem.W.Frag → Bool} {w : World} {h : Heap} (e : obA as fa fn ts tf ex h.get? = He.valX fn ts w) : He.SaysX fa fn ts tf ex w h (He.frT h.get? as) := by
  have b := He.ba (Prod.mk.inj e).2
  exact {
    t := (Prod.mk.inj e).1
    more := b.1
    hd := fun p hp => (tab_at b.2 hp).1
    out := fun p hp => (tab_at b.2 hp).2.elim fun o z => He.frT_none z.1 z.2
    empty := fun p hp => (tab_at b.2 hp).2.elim fun o z => z.1.trans (congrArg some (He.emptyTab_eq z.2)) }
def hookA (as : List Addr) (fa : List He.Fa) (fn : List He.DefD) (ts : List He.Tab) (tf : List He.Defn) (ex : PySem.W.Frag → Bool) : PySem.W.Hook where
  α := He.AlX
  obs s := obA as fa fn ts tf ex s.heap.get?
  val w := He.valX fn ts w
  says w h := ∃ K : PySem.W.Frag, K.In h ∧ He.SaysX fa fn ts tf ex w h K
  of _ _ e := ⟨_, He.frT_in, says_obA e⟩
  keeps := fun _ _ _ x k => x.elim fun K y => ⟨K, y.1.keeps k, { y.2 with empty := fun p hp => k _ _ (y.2.empty p hp) }⟩
theorem obA_eq {as : List Addr} {fa : List He.Fa} {fn : List He.DefD} {ts : List He.Tab} {tf : List He.Defn} {ex : PySem.W.Frag → Bool} (s : PySem.W.SharedT) : obA as fa fn ts tf ex (HandSHeadRun.getT s) = (hookA as fa fn ts tf ex).obs s.abs :=
  congrArg (obA as fa fn ts tf ex) (funext (HandSHeadRun.getT_eq s))
/-! two looks at one run -/
theorem obA_two {as : List Addr} {fa : List He.Fa} {fn : List He.DefD} {ts : List He.Tab} {tf : List He.Defn} {ex : PySem.W.Frag → Bool} {g : Addr → Option Obj} {w : World} (h1 : obA as fa [] [] [] (fun _ => true) g = He.valX [] [] w) (h2 : obA as [] fn ts tf ex g = He.valX fn ts w) :
    obA as fa fn ts tf ex g = He.valX fn ts w := by
  have a1 := (He.ba (Prod.mk.inj (Prod.mk.inj (Prod.mk.inj h1).1).1).1).1
  have b := Prod.mk.inj h2
  have c := Prod.mk.inj b.1
  have d := Prod.mk.inj c.1
  have a2 := (He.ba d.1).2
  refine Prod.ext (Prod.ext (Prod.ext ?_ d.2) c.2) b.2
  show ((fa.all fun f => f.ok (He.frT g as)) && fn.all fun x => x.ok (He.frT g as)) = true
  rw [Bool.and_eq_true]
  exact ⟨a1, a2⟩
theorem run_two {r : PySem.W.OpenSpec} {q : Program} {M : Nat} {loose : List Str} {w : World} {H1 H2 H : PySem.W.Hook} {o1 : PySem.W.SharedT → H1.α} {o2 : PySem.W.SharedT → H2.α} {o : PySem.W.SharedT → H.α} (r1 : HandSHeadRun.RunEqS r q H1 o1 M loose w) (r2 : HandSHeadRun.RunEqS r q H2 o2 M loose w)
    (j : ∀ s, o1 s = H1.val w → o2 s = H2.val w → o s = H.val w) : HandSHeadRun.RunEqS r q H o M loose w := fun os => by
  have e1 := r1 os
  have e2 := r2 os
  revert e1 e2
  cases HandSHeadRun.endF (HandSHeadRun.stepQ (HandSHeadRun.denQ HandSHeadRun.tabQ) r.prog w) M r.prog w os with
  | none => exact fun z => nomatch z
  | some s =>
    intro e1 e2
    have f1 := Prod.mk.inj (Option.some.inj e1)
    have f2 := Prod.mk.inj (Option.some.inj e2)
    have g1 := Prod.mk.inj f1.2
    have g2 := Prod.mk.inj f2.2
    exact congrArg some (Prod.ext f1.1 (Prod.ext g1.1 (j s g1.2 g2.2)))
end FB
-- HD
set_option Elab.async false
set_option linter.all false
set_option maxRecDepth 100000
set_option maxHeartbeats 0
namespace FB
open PySem PyProof.Rows PySem.Spec L2
def mkD (c : Str) (m : Option Str) (x q : Str) (s : Stmt) : He.DefD := ⟨(c, m), x, q, defArgs s, defBody s, defScope s, [], []⟩
def fnL0 : List He.DefD := [mkD "Charge" (some "__init__") "__init__" "Charge.__init__" (inClass (topS 9) 0), mkD "Books" (some "__init__") "__init__" "Books.__init__" (inClass (topS 10) 0), mkD "rest_of" none "rest_of" "rest_of" (topS 11), mkD "open_charges" none "open_charges" "open_charges" (topS 12), mkD "open_charges_of" none "open_charges_of" "open_charges_of" (topS 13), mkD "kept" none "kept" "kept" (topS 14), mkD "pot_of" none "pot_of" "pot_of" (topS 15), mkD "schedule_in_force" none "schedule_in_force" "schedule_in_force" (topS 17), mkD "fee_in_force" none "fee_in_force" "fee_in_force" (topS 18), mkD "price_of" none "price_of" "price_of" (topS 19)]
def fnL1 : List He.DefD := [mkD "Event" (some "__init__") "__init__" "Event.__init__" (inClass (topS 23) 0), mkD "Record" (some "__init__") "__init__" "Record.__init__" (inClass (topS 24) 0), mkD "target_refusal" none "target_refusal" "target_refusal" (topS 25), mkD "event_order" none "event_order" "event_order" (topS 26), mkD "events_in_order" none "events_in_order" "events_in_order" (topS 27), mkD "pay_from_credit" none "pay_from_credit" "pay_from_credit" (topS 29), mkD "pay_from_account" none "pay_from_account" "pay_from_account" (topS 30), mkD "settle_charge" none "settle_charge" "settle_charge" (topS 31), mkD "settle" none "settle" "settle" (topS 32), mkD "lapse" none "lapse" "lapse" (topS 33)]
def fnL2 : List He.DefD := [mkD "add_surcharge" none "add_surcharge" "add_surcharge" (topS 34), mkD "pass_time" none "pass_time" "pass_time" (topS 35), mkD "take_deposit" none "take_deposit" "take_deposit" (topS 36), mkD "take_bounce" none "take_bounce" "take_bounce" (topS 37), mkD "take_charge" none "take_charge" "take_charge" (topS 38), mkD "take_payment" none "take_payment" "take_payment" (topS 39), mkD "take_order" none "take_order" "take_order" (topS 40), mkD "take_refund" none "take_refund" "take_refund" (topS 41), mkD "shares_of" none "shares_of" "shares_of" (topS 42), mkD "take_closing" none "take_closing" "take_closing" (topS 43)]
def fnL3 : List He.DefD := [mkD "take" none "take" "take" (topS 45), mkD "days_of_change" none "days_of_change" "days_of_change" (topS 46), mkD "take_day" none "take_day" "take_day" (topS 47), mkD "books_on" none "books_on" "books_on" (topS 48), mkD "spelled" none "spelled" "spelled" (topS 59), mkD "split_words" none "split_words" "split_words" (topS 60), mkD "is_name" none "is_name" "is_name" (topS 61), mkD "is_number" none "is_number" "is_number" (topS 62), mkD "number_of" none "number_of" "number_of" (topS 63), mkD "ask_account" none "ask_account" "ask_account" (topS 65)]
def fnL4 : List He.DefD := [mkD "ask_charged" none "ask_charged" "ask_charged" (topS 66), mkD "ask_owner" none "ask_owner" "ask_owner" (topS 67), mkD "ask_land" none "ask_land" "ask_land" (topS 68), mkD "ask_totals" none "ask_totals" "ask_totals" (topS 69), mkD "ask_price" none "ask_price" "ask_price" (topS 70), mkD "ask_text" none "ask_text" "ask_text" (topS 71), mkD "ask_events" none "ask_events" "ask_events" (topS 72), mkD "ask_owed" none "ask_owed" "ask_owed" (topS 73), mkD "ask_opened" none "ask_opened" "ask_opened" (topS 74), mkD "ask" none "ask" "ask" (topS 76)]
def fnL5 : List He.DefD := [mkD "Call" (some "__init__") "__init__" "Call.__init__" (inClass (topS 85) 0), mkD "split_calls" none "split_calls" "split_calls" (topS 86), mkD "in_range" none "in_range" "in_range" (topS 87), mkD "numbers_stand" none "numbers_stand" "numbers_stand" (topS 88), mkD "bytes_stand" none "bytes_stand" "bytes_stand" (topS 89), mkD "ScheduleFault" (some "__init__") "__init__" "ScheduleFault.__init__" (inClass (topS 93) 0), mkD "Fee" (some "__init__") "__init__" "Fee.__init__" (inClass (topS 94) 0), mkD "Schedule" (some "__init__") "__init__" "Schedule.__init__" (inClass (topS 95) 0), mkD "Reader" (some "__init__") "__init__" "Reader.__init__" (inClass (topS 96) 0), mkD "Reader" (some "ended") "ended" "Reader.ended" (inClass (topS 96) 1)]
def fnL6 : List He.DefD := [mkD "Reader" (some "peek") "peek" "Reader.peek" (inClass (topS 96) 2), mkD "Reader" (some "here") "here" "Reader.here" (inClass (topS 96) 3), mkD "Reader" (some "leave") "leave" "Reader.leave" (inClass (topS 96) 4), mkD "take_word" none "take_word" "take_word" (topS 97), mkD "take_name" none "take_name" "take_name" (topS 98), mkD "take_number" none "take_number" "take_number" (topS 99), mkD "take_option" none "take_option" "take_option" (topS 100), mkD "take_shared" none "take_shared" "take_shared" (topS 101), mkD "take_fee" none "take_fee" "take_fee" (topS 102), mkD "read_fees" none "read_fees" "read_fees" (topS 103)]
def fnL7 : List He.DefD := [mkD "has_name_twice" none "has_name_twice" "has_name_twice" (topS 104), mkD "keep_schedule" none "keep_schedule" "keep_schedule" (topS 111), mkD "tell_schedule" none "tell_schedule" "tell_schedule" (topS 112), mkD "tell_small" none "tell_small" "tell_small" (topS 113), mkD "tell_lands" none "tell_lands" "tell_lands" (topS 114), mkD "tell_event" none "tell_event" "tell_event" (topS 115), mkD "has_follower" none "has_follower" "has_follower" (topS 116), mkD "tell_bounce" none "tell_bounce" "tell_bounce" (topS 117), mkD "tell_charge" none "tell_charge" "tell_charge" (topS 118), mkD "tell_refund" none "tell_refund" "tell_refund" (topS 119)]
def fnL8 : List He.DefD := [mkD "tell_undo" none "tell_undo" "tell_undo" (topS 120), mkD "tell" none "tell" "tell" (topS 122), mkD "answer_to" none "answer_to" "answer_to" (topS 124), mkD "answers" none "answers" "answers" (topS 125)]
def fnL : List He.DefD := fnL0 ++ (fnL1 ++ (fnL2 ++ (fnL3 ++ (fnL4 ++ (fnL5 ++ (fnL6 ++ (fnL7 ++ (fnL8))))))))
def faL0 : List He.Fa := [.free "len", .free "all", .free "any", .free "dict", .free "zip", .free "enumerate", .free "tuple", .free "set", .free "sum", .free "ord"]
def faL1 : List He.Fa := [.free "Exception", .free "min", .free "max", .free "sorted", .free "range", .int "OPEN" (0), .int "PAID" (1), .int "LAPSED" (2), .int "GIVEN_BACK" (3), .int "ACCOUNTS" (20)]
def faL2 : List He.Fa := [.int "OWNERS" (40), .int "DAYS_WITHOUT_SURCHARGE" (30), .int "DAYS_BEFORE_LAPSE" (180), .int "DEPOSIT" (3), .int "CHARGE" (5), .int "BLANK" (32), .int "LINE_END" (10), .int "FIRST_LETTER" (97), .int "LAST_LETTER" (122), .int "ZERO" (48)]
def faL3 : List He.Fa := [.int "NINE" (57), .int "MOST_LETTERS" (12), .int "MOST_DIGITS" (9), .int "FIRST_ASKING" (11), .int "MOST_BYTES" (2000), .int "LAST_BYTE" (255), .int "MOST_ABOVE" (10000), .int "MOST_PERCENT" (100), .int "MOST_FEES" (12), .int "MOST_SCHEDULES" (8)]
def faL4 : List He.Fa := [.int "MOST_EVENTS" (60), .int "MOST_LANDS" (10), .int "MOST_WEIGHT" (1000), .glo "WHOLE_NUMBERS", .glo "WITH_LIST", .glo "WITH_TEXT", .glo "RANGES", .glo "KEPT_WORDS", .glo "TELLERS", .glo "TAKERS"]
def faL5 : List He.Fa := [.glo "ASKERS", .glo "rest_of", .glo "open_charges", .glo "open_charges_of", .glo "kept", .glo "pot_of", .glo "schedule_in_force", .glo "fee_in_force", .glo "price_of", .glo "target_refusal"]
def faL6 : List He.Fa := [.glo "event_order", .glo "events_in_order", .glo "pay_from_credit", .glo "pay_from_account", .glo "settle_charge", .glo "settle", .glo "lapse", .glo "add_surcharge", .glo "pass_time", .glo "take_deposit"]
def faL7 : List He.Fa := [.glo "take_bounce", .glo "take_charge", .glo "take_payment", .glo "take_order", .glo "take_refund", .glo "shares_of", .glo "take_closing", .glo "take", .glo "days_of_change", .glo "take_day"]
def faL8 : List He.Fa := [.glo "books_on", .glo "spelled", .glo "split_words", .glo "is_name", .glo "is_number", .glo "number_of", .glo "ask_account", .glo "ask_charged", .glo "ask_owner", .glo "ask_land"]
def faL9 : List He.Fa := [.glo "ask_totals", .glo "ask_price", .glo "ask_text", .glo "ask_events", .glo "ask_owed", .glo "ask_opened", .glo "ask", .glo "split_calls", .glo "in_range", .glo "numbers_stand"]
def faL10 : List He.Fa := [.glo "bytes_stand", .meth "Reader" "ended", .meth "Reader" "peek", .meth "Reader" "here", .meth "Reader" "leave", .glo "take_word", .glo "take_name", .glo "take_number", .glo "take_option", .glo "take_shared"]
def faL11 : List He.Fa := [.glo "take_fee", .glo "read_fees", .glo "has_name_twice", .glo "keep_schedule", .glo "tell_schedule", .glo "tell_small", .glo "tell_lands", .glo "tell_event", .glo "has_follower", .glo "tell_bounce"]
def faL12 : List He.Fa := [.glo "tell_charge", .glo "tell_refund", .glo "tell_undo", .glo "tell", .glo "answer_to", .glo "answers", .glo "Charge", .cls "Charge", .mkr "Charge", .noat "Charge" "number"]
def faL13 : List He.Fa := [.noat "Charge" "day", .noat "Charge" "owner", .noat "Charge" "base", .noat "Charge" "late", .noat "Charge" "shared", .noat "Charge" "surcharge", .noat "Charge" "paid", .noat "Charge" "state", .glo "Books", .cls "Books"]
def faL14 : List He.Fa := [.mkr "Books", .noat "Books" "accounts", .noat "Books" "credit", .noat "Books" "sources", .noat "Books" "charges", .noat "Books" "handed", .noat "Books" "came_in", .noat "Books" "given_back", .glo "Event", .cls "Event"]
def faL15 : List He.Fa := [.mkr "Event", .noat "Event" "kind", .noat "Event" "number", .noat "Event" "day", .noat "Event" "account", .noat "Event" "source", .noat "Event" "owner", .noat "Event" "amount", .noat "Event" "units", .noat "Event" "about"]
def faL16 : List He.Fa := [.noat "Event" "name", .glo "Record", .cls "Record", .mkr "Record", .noat "Record" "schedules", .noat "Record" "small", .noat "Record" "weights", .noat "Record" "events", .glo "Call", .cls "Call"]
def faL17 : List He.Fa := [.mkr "Call", .noat "Call" "number", .noat "Call" "told", .noat "Call" "row", .glo "ScheduleFault", .exm "ScheduleFault" "ScheduleFault" true, .noat "ScheduleFault" "place", .glo "Fee", .cls "Fee", .mkr "Fee"]
def faL18 : List He.Fa := [.noat "Fee" "name", .noat "Fee" "amount", .noat "Fee" "above", .noat "Fee" "late", .noat "Fee" "small", .noat "Fee" "shared", .glo "Schedule", .cls "Schedule", .mkr "Schedule", .noat "Schedule" "day"]
def faL19 : List He.Fa := [.noat "Schedule" "text", .noat "Schedule" "fees", .glo "Reader", .cls "Reader", .mkr "Reader", .noat "Reader" "words", .noat "Reader" "length", .noat "Reader" "at"]
def faL : List He.Fa := faL0 ++ (faL1 ++ (faL2 ++ (faL3 ++ (faL4 ++ (faL5 ++ (faL6 ++ (faL7 ++ (faL8 ++ (faL9 ++ (faL10 ++ (faL11 ++ (faL12 ++ (faL13 ++ (faL14 ++ (faL15 ++ (faL16 ++ (faL17 ++ (faL18 ++ (faL19)))))))))))))))))))
/-- the tables with text keys -/
def tsL : List He.Tab := [(fun K => He.ga K "RANGES", rangesT.map (·.1))]
def wnL : List (Key × List Str) := wnT.map fun q => (Sum.inl q.1, q.2)
def rgL : List (Key × Int × Int) := rangesT.map fun q => (Sum.inr q.1, q.2)
def wnB (K : PySem.W.Frag) : Bool := dctB K (He.ga K "WHOLE_NUMBERS") (fun ns v => seqAt K v (ns.map V.str)) wnL
def rgB (K : PySem.W.Frag) : Bool := dctB K (He.ga K "RANGES") (fun q v => seqAt K v [.int q.1, .int q.2]) rgL
def tupsB (K : PySem.W.Frag) : Bool := He.tupB K "KEPT_WORDS" [.str "fee", .str "above", .str "late", .str "small", .str "shared"] && (He.tupB K "WITH_LIST" [.int 0, .int 2, .int 5, .int 16] && (He.tupB K "WITH_TEXT" [.int 0, .int 5, .int 16]))
def xsB (K : PySem.W.Frag) : Bool := (oexB K (He.ga K "ScheduleFault") && (xfB K (He.ga K "ScheduleFault") && (decide (PySem.W.findIn K (.ref (He.ga K "ScheduleFault")) "__init__" = some (some (.ref (He.ma K (He.ga K "ScheduleFault") "__init__")))) && decide (PySem.W.typeIn K (.ref (He.ma K (He.ga K "ScheduleFault") "__init__")) = some (.type "function")))))
def isFn (K : PySem.W.Frag) (n : Str) (v : Value) : Bool := match v with
  | .ref a => a == He.ga K n
  | _ => false
def fnB (K : PySem.W.Frag) (x : Str) (T : List (Int × Str)) : Bool := dctB K (He.ga K x) (isFn K) (T.map fun q => (Sum.inl q.1, q.2))
def fnsB (K : PySem.W.Frag) : Bool := fnB K "TELLERS" tellT && (fnB K "TAKERS" takeT && fnB K "ASKERS" askT)
def exL (K : PySem.W.Frag) : Bool := wnB K && (rgB K && (tupsB K && (xsB K && fnsB K)))
def tfL : List He.Defn := [("shares_of", none)]
abbrev R : PySem.W.OpenSpec := PySem.Challenge.rw_feebooks_s01_answers
def asL : List Addr := 3 :: List.range 729
abbrev hk : PySem.W.Hook := hookA asL faL fnL tsL tfL exL
def ob (s : PySem.W.SharedT) : He.AlX := obA asL faL fnL tsL tfL exL (HandSHeadRun.getT s)
theorem ob_eq (s : PySem.W.SharedT) : ob s = hk.obs s.abs := obA_eq s
def yes (_ : PySem.W.Frag) : Bool := true
abbrev hk1 : PySem.W.Hook := hookA asL faL [] [] [] yes
def ob1 (s : PySem.W.SharedT) : He.AlX := obA asL faL [] [] [] yes (HandSHeadRun.getT s)
abbrev hk2 : PySem.W.Hook := hookA asL [] fnL tsL tfL exL
def ob2 (s : PySem.W.SharedT) : He.AlX := obA asL [] fnL tsL tfL exL (HandSHeadRun.getT s)
def namesL0 : List PySem.Str := ["OPEN", "PAID", "LAPSED", "GIVEN_BACK", "ACCOUNTS", "OWNERS", "DAYS_WITHOUT_SURCHARGE", "DAYS_BEFORE_LAPSE", "Charge", "Books"]
def namesL1 : List PySem.Str := ["rest_of", "open_charges", "open_charges_of", "kept", "pot_of", "schedule_in_force", "fee_in_force", "price_of", "DEPOSIT", "CHARGE"]
def namesL2 : List PySem.Str := ["Event", "Record", "target_refusal", "event_order", "events_in_order", "pay_from_credit", "pay_from_account", "settle_charge", "settle", "lapse"]
def namesL3 : List PySem.Str := ["add_surcharge", "pass_time", "take_deposit", "take_bounce", "take_charge", "take_payment", "take_order", "take_refund", "shares_of", "take_closing"]
def namesL4 : List PySem.Str := ["TAKERS", "take", "days_of_change", "take_day", "books_on", "BLANK", "LINE_END", "FIRST_LETTER", "LAST_LETTER", "ZERO"]
def namesL5 : List PySem.Str := ["NINE", "MOST_LETTERS", "MOST_DIGITS", "KEPT_WORDS", "spelled", "split_words", "is_name", "is_number", "number_of", "ask_account"]
def namesL6 : List PySem.Str := ["ask_charged", "ask_owner", "ask_land", "ask_totals", "ask_price", "ask_text", "ask_events", "ask_owed", "ask_opened", "ASKERS"]
def namesL7 : List PySem.Str := ["ask", "WHOLE_NUMBERS", "FIRST_ASKING", "WITH_LIST", "WITH_TEXT", "RANGES", "MOST_BYTES", "LAST_BYTE", "Call", "split_calls"]
def namesL8 : List PySem.Str := ["in_range", "numbers_stand", "bytes_stand", "MOST_ABOVE", "MOST_PERCENT", "ScheduleFault", "Fee", "Schedule", "Reader", "take_word"]
def namesL9 : List PySem.Str := ["take_name", "take_number", "take_option", "take_shared", "take_fee", "read_fees", "has_name_twice", "MOST_FEES", "MOST_SCHEDULES", "MOST_EVENTS"]
def namesL10 : List PySem.Str := ["MOST_LANDS", "MOST_WEIGHT", "keep_schedule", "tell_schedule", "tell_small", "tell_lands", "tell_event", "has_follower", "tell_bounce", "tell_charge"]
def namesL11 : List PySem.Str := ["tell_refund", "tell_undo", "TELLERS", "tell", "answer_to"]
def namesL : List PySem.Str := namesL0 ++ (namesL1 ++ (namesL2 ++ (namesL3 ++ (namesL4 ++ (namesL5 ++ (namesL6 ++ (namesL7 ++ (namesL8 ++ (namesL9 ++ (namesL10 ++ (namesL11)))))))))))
theorem runF1 (w : World) : HandSHeadRun.RunEqS R (PySem.W.view R.prog [125]) hk1 ob1 6000 namesL (w.withFollow "special-get-raises" false) := by
  intro os
  kernel_rfl
theorem runT1 (w : World) : HandSHeadRun.RunEqS R (PySem.W.view R.prog [125]) hk1 ob1 6000 namesL (w.withFollow "special-get-raises" true) := by
  intro os
  kernel_rfl
theorem run1 (w : World) : HandSHeadRun.RunEqS R (PySem.W.view R.prog [125]) hk1 ob1 6000 namesL w := PySem.W.byRow2 "special-get-raises" runF1 runT1 w
theorem runF2 (w : World) : HandSHeadRun.RunEqS R (PySem.W.view R.prog [125]) hk2 ob2 6000 namesL (w.withFollow "special-get-raises" false) := by
  intro os
  kernel_rfl
theorem runT2 (w : World) : HandSHeadRun.RunEqS R (PySem.W.view R.prog [125]) hk2 ob2 6000 namesL (w.withFollow "special-get-raises" true) := by
  intro os
  kernel_rfl
theorem run2 (w : World) : HandSHeadRun.RunEqS R (PySem.W.view R.prog [125]) hk2 ob2 6000 namesL w := PySem.W.byRow2 "special-get-raises" runF2 runT2 w
theorem run (w : World) : HandSHeadRun.RunEqS R (PySem.W.view R.prog [125]) hk ob 6000 namesL w := run_two (run1 w) (run2 w) fun _ a b => obA_two a b
end FB
-- HT
set_option Elab.async false
set_option linter.all false
set_option maxRecDepth 100000
set_option maxHeartbeats 0
namespace FB
open PySem PyProof.Rows PySem.Spec L2
variable {w : World} {h : Heap} {K : PySem.W.Frag} {mg : Str → Option Value}
theorem fa_at (c : He.SaysX faL fnL tsL tfL exL w h K) (i : Nat) {f : He.Fa} (e : faL[i]? = some f := by rfl) : f.ok K = true := c.t.d.fact i e
theorem fn_at (c : He.SaysX faL fnL tsL tfL exL w h K) (i : Nat) {d : He.DefD} (e : fnL[i]? = some d := by rfl) : ∃ fd, FunD K d.name d.qual d.params d.body d.scope (d.dvs K) (d.kws K) (He.fAd K d.at_) fd := c.t.d.def_ i e
theorem tx_of (c : He.SaysX faL fnL tsL tfL exL w h K) (X : K.In h) (N : h.Ns mainGlobals mg) : Tx K mg where
  b_len := He.free_ok X N (fa_at c 0)
  b_all := He.free_ok X N (fa_at c 1)
  b_any := He.free_ok X N (fa_at c 2)
  b_dict := He.free_ok X N (fa_at c 3)
  b_zip := He.free_ok X N (fa_at c 4)
  b_enumerate := He.free_ok X N (fa_at c 5)
  b_tuple := He.free_ok X N (fa_at c 6)
  b_set := He.free_ok X N (fa_at c 7)
  b_sum := He.free_ok X N (fa_at c 8)
  b_ord := He.free_ok X N (fa_at c 9)
  b_Exception := He.free_ok X N (fa_at c 10)
  b_min := He.free_ok X N (fa_at c 11)
  b_max := He.free_ok X N (fa_at c 12)
  b_sorted := He.free_ok X N (fa_at c 13)
  b_range := He.free_ok X N (fa_at c 14)
  c_OPEN := He.int_ok X N (fa_at c 15)
  c_PAID := He.int_ok X N (fa_at c 16)
  c_LAPSED := He.int_ok X N (fa_at c 17)
  c_GIVEN_BACK := He.int_ok X N (fa_at c 18)
  c_ACCOUNTS := He.int_ok X N (fa_at c 19)
  c_OWNERS := He.int_ok X N (fa_at c 20)
  c_DAYS_WITHOUT_SURCHARGE := He.int_ok X N (fa_at c 21)
  c_DAYS_BEFORE_LAPSE := He.int_ok X N (fa_at c 22)
  c_DEPOSIT := He.int_ok X N (fa_at c 23)
  c_CHARGE := He.int_ok X N (fa_at c 24)
  c_BLANK := He.int_ok X N (fa_at c 25)
  c_LINE_END := He.int_ok X N (fa_at c 26)
  c_FIRST_LETTER := He.int_ok X N (fa_at c 27)
  c_LAST_LETTER := He.int_ok X N (fa_at c 28)
  c_ZERO := He.int_ok X N (fa_at c 29)
  c_NINE := He.int_ok X N (fa_at c 30)
  c_MOST_LETTERS := He.int_ok X N (fa_at c 31)
  c_MOST_DIGITS := He.int_ok X N (fa_at c 32)
  c_FIRST_ASKING := He.int_ok X N (fa_at c 33)
  c_MOST_BYTES := He.int_ok X N (fa_at c 34)
  c_LAST_BYTE := He.int_ok X N (fa_at c 35)
  c_MOST_ABOVE := He.int_ok X N (fa_at c 36)
  c_MOST_PERCENT := He.int_ok X N (fa_at c 37)
  c_MOST_FEES := He.int_ok X N (fa_at c 38)
  c_MOST_SCHEDULES := He.int_ok X N (fa_at c 39)
  c_MOST_EVENTS := He.int_ok X N (fa_at c 40)
  c_MOST_LANDS := He.int_ok X N (fa_at c 41)
  c_MOST_WEIGHT := He.int_ok X N (fa_at c 42)
  g_WHOLE_NUMBERS := He.glo_ok X N (fa_at c 43)
  g_WITH_LIST := He.glo_ok X N (fa_at c 44)
  g_WITH_TEXT := He.glo_ok X N (fa_at c 45)
  g_RANGES := He.glo_ok X N (fa_at c 46)
  g_KEPT_WORDS := He.glo_ok X N (fa_at c 47)
  g_TELLERS := He.glo_ok X N (fa_at c 48)
  g_TAKERS := He.glo_ok X N (fa_at c 49)
  g_ASKERS := He.glo_ok X N (fa_at c 50)
  g_rest_of := He.glo_ok X N (fa_at c 51)
  g_open_charges := He.glo_ok X N (fa_at c 52)
  g_open_charges_of := He.glo_ok X N (fa_at c 53)
  g_kept := He.glo_ok X N (fa_at c 54)
  g_pot_of := He.glo_ok X N (fa_at c 55)
  g_schedule_in_force := He.glo_ok X N (fa_at c 56)
  g_fee_in_force := He.glo_ok X N (fa_at c 57)
  g_price_of := He.glo_ok X N (fa_at c 58)
  g_target_refusal := He.glo_ok X N (fa_at c 59)
  g_event_order := He.glo_ok X N (fa_at c 60)
  g_events_in_order := He.glo_ok X N (fa_at c 61)
  g_pay_from_credit := He.glo_ok X N (fa_at c 62)
  g_pay_from_account := He.glo_ok X N (fa_at c 63)
  g_settle_charge := He.glo_ok X N (fa_at c 64)
  g_settle := He.glo_ok X N (fa_at c 65)
  g_lapse := He.glo_ok X N (fa_at c 66)
  g_add_surcharge := He.glo_ok X N (fa_at c 67)
  g_pass_time := He.glo_ok X N (fa_at c 68)
  g_take_deposit := He.glo_ok X N (fa_at c 69)
  g_take_bounce := He.glo_ok X N (fa_at c 70)
  g_take_charge := He.glo_ok X N (fa_at c 71)
  g_take_payment := He.glo_ok X N (fa_at c 72)
  g_take_order := He.glo_ok X N (fa_at c 73)
  g_take_refund := He.glo_ok X N (fa_at c 74)
  g_shares_of := He.glo_ok X N (fa_at c 75)
  g_take_closing := He.glo_ok X N (fa_at c 76)
  g_take := He.glo_ok X N (fa_at c 77)
  g_days_of_change := He.glo_ok X N (fa_at c 78)
  g_take_day := He.glo_ok X N (fa_at c 79)
  g_books_on := He.glo_ok X N (fa_at c 80)
  g_spelled := He.glo_ok X N (fa_at c 81)
  g_split_words := He.glo_ok X N (fa_at c 82)
  g_is_name := He.glo_ok X N (fa_at c 83)
  g_is_number := He.glo_ok X N (fa_at c 84)
  g_number_of := He.glo_ok X N (fa_at c 85)
  g_ask_account := He.glo_ok X N (fa_at c 86)
  g_ask_charged := He.glo_ok X N (fa_at c 87)
  g_ask_owner := He.glo_ok X N (fa_at c 88)
  g_ask_land := He.glo_ok X N (fa_at c 89)
  g_ask_totals := He.glo_ok X N (fa_at c 90)
  g_ask_price := He.glo_ok X N (fa_at c 91)
  g_ask_text := He.glo_ok X N (fa_at c 92)
  g_ask_events := He.glo_ok X N (fa_at c 93)
  g_ask_owed := He.glo_ok X N (fa_at c 94)
  g_ask_opened := He.glo_ok X N (fa_at c 95)
  g_ask := He.glo_ok X N (fa_at c 96)
  g_split_calls := He.glo_ok X N (fa_at c 97)
  g_in_range := He.glo_ok X N (fa_at c 98)
  g_numbers_stand := He.glo_ok X N (fa_at c 99)
  g_bytes_stand := He.glo_ok X N (fa_at c 100)
  m_Reader_ended := He.meth_ok (fa_at c 101)
  m_Reader_peek := He.meth_ok (fa_at c 102)
  m_Reader_here := He.meth_ok (fa_at c 103)
  m_Reader_leave := He.meth_ok (fa_at c 104)
  g_take_word := He.glo_ok X N (fa_at c 105)
  g_take_name := He.glo_ok X N (fa_at c 106)
  g_take_number := He.glo_ok X N (fa_at c 107)
  g_take_option := He.glo_ok X N (fa_at c 108)
  g_take_shared := He.glo_ok X N (fa_at c 109)
  g_take_fee := He.glo_ok X N (fa_at c 110)
  g_read_fees := He.glo_ok X N (fa_at c 111)
  g_has_name_twice := He.glo_ok X N (fa_at c 112)
  g_keep_schedule := He.glo_ok X N (fa_at c 113)
  g_tell_schedule := He.glo_ok X N (fa_at c 114)
  g_tell_small := He.glo_ok X N (fa_at c 115)
  g_tell_lands := He.glo_ok X N (fa_at c 116)
  g_tell_event := He.glo_ok X N (fa_at c 117)
  g_has_follower := He.glo_ok X N (fa_at c 118)
  g_tell_bounce := He.glo_ok X N (fa_at c 119)
  g_tell_charge := He.glo_ok X N (fa_at c 120)
  g_tell_refund := He.glo_ok X N (fa_at c 121)
  g_tell_undo := He.glo_ok X N (fa_at c 122)
  g_tell := He.glo_ok X N (fa_at c 123)
  g_answer_to := He.glo_ok X N (fa_at c 124)
  g_answers := He.glo_ok X N (fa_at c 125)
  g_Charge := He.glo_ok X N (fa_at c 126)
  k_Charge := He.cls_ok (fa_at c 127)
  i_Charge := He.mkr_ok (fa_at c 128)
  n_Charge_number := He.noat_ok (fa_at c 129)
  n_Charge_day := He.noat_ok (fa_at c 130)
  n_Charge_owner := He.noat_ok (fa_at c 131)
  n_Charge_base := He.noat_ok (fa_at c 132)
  n_Charge_late := He.noat_ok (fa_at c 133)
  n_Charge_shared := He.noat_ok (fa_at c 134)
  n_Charge_surcharge := He.noat_ok (fa_at c 135)
  n_Charge_paid := He.noat_ok (fa_at c 136)
  n_Charge_state := He.noat_ok (fa_at c 137)
  g_Books := He.glo_ok X N (fa_at c 138)
  k_Books := He.cls_ok (fa_at c 139)
  i_Books := He.mkr_ok (fa_at c 140)
  n_Books_accounts := He.noat_ok (fa_at c 141)
  n_Books_credit := He.noat_ok (fa_at c 142)
  n_Books_sources := He.noat_ok (fa_at c 143)
  n_Books_charges := He.noat_ok (fa_at c 144)
  n_Books_handed := He.noat_ok (fa_at c 145)
  n_Books_came_in := He.noat_ok (fa_at c 146)
  n_Books_given_back := He.noat_ok (fa_at c 147)
  g_Event := He.glo_ok X N (fa_at c 148)
  k_Event := He.cls_ok (fa_at c 149)
  i_Event := He.mkr_ok (fa_at c 150)
  n_Event_kind := He.noat_ok (fa_at c 151)
  n_Event_number := He.noat_ok (fa_at c 152)
  n_Event_day := He.noat_ok (fa_at c 153)
  n_Event_account := He.noat_ok (fa_at c 154)
  n_Event_source := He.noat_ok (fa_at c 155)
  n_Event_owner := He.noat_ok (fa_at c 156)
  n_Event_amount := He.noat_ok (fa_at c 157)
  n_Event_units := He.noat_ok (fa_at c 158)
  n_Event_about := He.noat_ok (fa_at c 159)
  n_Event_name := He.noat_ok (fa_at c 160)
  g_Record := He.glo_ok X N (fa_at c 161)
  k_Record := He.cls_ok (fa_at c 162)
  i_Record := He.mkr_ok (fa_at c 163)
  n_Record_schedules := He.noat_ok (fa_at c 164)
  n_Record_small := He.noat_ok (fa_at c 165)
  n_Record_weights := He.noat_ok (fa_at c 166)
  n_Record_events := He.noat_ok (fa_at c 167)
  g_Call := He.glo_ok X N (fa_at c 168)
  k_Call := He.cls_ok (fa_at c 169)
  i_Call := He.mkr_ok (fa_at c 170)
  n_Call_number := He.noat_ok (fa_at c 171)
  n_Call_told := He.noat_ok (fa_at c 172)
  n_Call_row := He.noat_ok (fa_at c 173)
  g_ScheduleFault := He.glo_ok X N (fa_at c 174)
  xm_ScheduleFault := He.exm_ok (fa_at c 175)
  n_ScheduleFault_place := He.noat_ok (fa_at c 176)
  g_Fee := He.glo_ok X N (fa_at c 177)
  k_Fee := He.cls_ok (fa_at c 178)
  i_Fee := He.mkr_ok (fa_at c 179)
  n_Fee_name := He.noat_ok (fa_at c 180)
  n_Fee_amount := He.noat_ok (fa_at c 181)
  n_Fee_above := He.noat_ok (fa_at c 182)
  n_Fee_late := He.noat_ok (fa_at c 183)
  n_Fee_small := He.noat_ok (fa_at c 184)
  n_Fee_shared := He.noat_ok (fa_at c 185)
  g_Schedule := He.glo_ok X N (fa_at c 186)
  k_Schedule := He.cls_ok (fa_at c 187)
  i_Schedule := He.mkr_ok (fa_at c 188)
  n_Schedule_day := He.noat_ok (fa_at c 189)
  n_Schedule_text := He.noat_ok (fa_at c 190)
  n_Schedule_fees := He.noat_ok (fa_at c 191)
  g_Reader := He.glo_ok X N (fa_at c 192)
  k_Reader := He.cls_ok (fa_at c 193)
  i_Reader := He.mkr_ok (fa_at c 194)
  n_Reader_words := He.noat_ok (fa_at c 195)
  n_Reader_length := He.noat_ok (fa_at c 196)
  n_Reader_at := He.noat_ok (fa_at c 197)
  d_Charge___init__ := fn_at c 0
  d_Books___init__ := fn_at c 1
  d_rest_of := fn_at c 2
  d_open_charges := fn_at c 3
  d_open_charges_of := fn_at c 4
  d_kept := fn_at c 5
  d_pot_of := fn_at c 6
  d_schedule_in_force := fn_at c 7
  d_fee_in_force := fn_at c 8
  d_price_of := fn_at c 9
  d_Event___init__ := fn_at c 10
  d_Record___init__ := fn_at c 11
  d_target_refusal := fn_at c 12
  d_event_order := fn_at c 13
  d_events_in_order := fn_at c 14
  d_pay_from_credit := fn_at c 15
  d_pay_from_account := fn_at c 16
  d_settle_charge := fn_at c 17
  d_settle := fn_at c 18
  d_lapse := fn_at c 19
  d_add_surcharge := fn_at c 20
  d_pass_time := fn_at c 21
  d_take_deposit := fn_at c 22
  d_take_bounce := fn_at c 23
  d_take_charge := fn_at c 24
  d_take_payment := fn_at c 25
  d_take_order := fn_at c 26
  d_take_refund := fn_at c 27
  d_shares_of := fn_at c 28
  d_take_closing := fn_at c 29
  d_take := fn_at c 30
  d_days_of_change := fn_at c 31
  d_take_day := fn_at c 32
  d_books_on := fn_at c 33
  d_spelled := fn_at c 34
  d_split_words := fn_at c 35
  d_is_name := fn_at c 36
  d_is_number := fn_at c 37
  d_number_of := fn_at c 38
  d_ask_account := fn_at c 39
  d_ask_charged := fn_at c 40
  d_ask_owner := fn_at c 41
  d_ask_land := fn_at c 42
  d_ask_totals := fn_at c 43
  d_ask_price := fn_at c 44
  d_ask_text := fn_at c 45
  d_ask_events := fn_at c 46
  d_ask_owed := fn_at c 47
  d_ask_opened := fn_at c 48
  d_ask := fn_at c 49
  d_Call___init__ := fn_at c 50
  d_split_calls := fn_at c 51
  d_in_range := fn_at c 52
  d_numbers_stand := fn_at c 53
  d_bytes_stand := fn_at c 54
  d_ScheduleFault___init__ := fn_at c 55
  d_Fee___init__ := fn_at c 56
  d_Schedule___init__ := fn_at c 57
  d_Reader___init__ := fn_at c 58
  d_Reader_ended := fn_at c 59
  d_Reader_peek := fn_at c 60
  d_Reader_here := fn_at c 61
  d_Reader_leave := fn_at c 62
  d_take_word := fn_at c 63
  d_take_name := fn_at c 64
  d_take_number := fn_at c 65
  d_take_option := fn_at c 66
  d_take_shared := fn_at c 67
  d_take_fee := fn_at c 68
  d_read_fees := fn_at c 69
  d_has_name_twice := fn_at c 70
  d_keep_schedule := fn_at c 71
  d_tell_schedule := fn_at c 72
  d_tell_small := fn_at c 73
  d_tell_lands := fn_at c 74
  d_tell_event := fn_at c 75
  d_has_follower := fn_at c 76
  d_tell_bounce := fn_at c 77
  d_tell_charge := fn_at c 78
  d_tell_refund := fn_at c 79
  d_tell_undo := fn_at c 80
  d_tell := fn_at c 81
  d_answer_to := fn_at c 82
  d_answers := fn_at c 83
  t_KEPT_WORDS := fun H => He.tupB_ok ((He.ba (He.ba (He.ba (He.ba c.more).2).2).1).1) H
  t_WITH_LIST := fun H => He.tupB_ok ((He.ba (He.ba (He.ba (He.ba (He.ba c.more).2).2).1).2).1) H
  t_WITH_TEXT := fun H => He.tupB_ok ((He.ba (He.ba (He.ba (He.ba (He.ba c.more).2).2).1).2).2) H
  x_ScheduleFault := oexB_ok (He.ba (He.ba (He.ba (He.ba (He.ba c.more).2).2).2).1).1
  xf_ScheduleFault := xfB_ok (He.ba (He.ba (He.ba (He.ba (He.ba (He.ba c.more).2).2).2).1).2).1
  xi_ScheduleFault := of_decide_eq_true (He.ba (He.ba (He.ba (He.ba (He.ba (He.ba (He.ba c.more).2).2).2).1).2).2).1
  xt_ScheduleFault := of_decide_eq_true (He.ba (He.ba (He.ba (He.ba (He.ba (He.ba (He.ba c.more).2).2).2).1).2).2).2
theorem zip_map2 {α β γ : Type} (f : α → β) : ∀ (l : List α) (vs : List γ), (l.map f).zip vs = (l.zip vs).map fun q => (f q.1, q.2)
  | [], _ => rfl
  | a :: l, [] => rfl
  | a :: l, v :: vs => congrArg _ (zip_map2 f l vs)
theorem refs_of {α : Type} {W : α → V → Prop} (hW : ∀ x v, W x v → ∃ t, v = V.ref t) : ∀ {l : List α} {vs : List V}, vs.length = l.length → (∀ q ∈ l.zip vs, W q.1 q.2) → ∃ as : List Addr, as.length = l.length ∧ vs = as.map V.ref
  | [], [], _, _ => ⟨[], rfl, rfl⟩
  | [], _ :: _, z, _ => nomatch z
  | _ :: _, [], z, _ => nomatch z
  | x :: l, v :: vs, hl, h => by
    obtain ⟨t, rfl⟩ := hW _ _ (h (x, v) (List.mem_cons_self ..))
    obtain ⟨as, h1, rfl⟩ := refs_of hW (l := l) (vs := vs) (by simpa using hl) fun q hq => h q (List.mem_cons_of_mem _ hq)
    exact ⟨t :: as, by rw [List.length_cons, List.length_cons, h1], rfl⟩
theorem zip_mem {α β : Type} {f : α → V} : ∀ {l : List β} {as : List α} {q : β × α}, q ∈ l.zip as → (q.1, f q.2) ∈ l.zip (as.map f)
  | [], _, _, h => nomatch h
  | _ :: _, [], _, h => nomatch h
  | x :: l, a :: as, q, h => by
    obtain rfl | h := List.mem_cons.mp h
    · exact List.mem_cons_self ..
    · exact List.mem_cons_of_mem _ (zip_mem h)
/-- a table of the top whose values are known things -/
theorem tab_of {α β : Type} {P : Program} {a : Addr} {T : List α} (key : α → Key) (val : α → β) {tst : β → Value → Bool} (h : dctB K a tst (T.map fun x => (key x, val x)) = true) (hh : HashOk w K a) (nd : (T.map key).Nodup) (W : β → V → Prop) (ht : ∀ x u, tst x u = true → ∃ v, RelV v u ∧ W x v) (hW : ∀ x v, W x v → ∃ t, v = V.ref t) :
    ∃ as : List Addr, as.length = T.length ∧ Kd P w K a ((T.zip as).map fun q => (key q.1, V.ref q.2)) ∧ ∀ q ∈ T.zip as, W (val q.1) (V.ref q.2) := by
  obtain ⟨vs, h1, h2, h3⟩ := kd_of (P := P) (w := w) h hh (by rw [List.map_map]; exact nd) W ht
  rw [List.length_map] at h1
  have h4 : ∀ q ∈ T.zip vs, W (val q.1) q.2 := fun q hq => by
    refine h3 ((key q.1, val q.1), q.2) ?_
    rw [zip_map2]
    exact List.mem_map.mpr ⟨q, hq, rfl⟩
  obtain ⟨as, g1, rfl⟩ := refs_of (W := fun x v => W (val x) v) (fun x v h => hW _ _ h) h1 h4
  refine ⟨as, g1, ?_, fun q hq => h4 _ (zip_mem hq)⟩
  rw [zip_map2, List.map_map] at h2
  have e : ∀ (l : List α) (as : List Addr), (l.zip (as.map V.ref)).map ((fun q : (Key × β) × V => (q.1.1, q.2)) ∘ fun q : α × V => ((key q.1, val q.1), q.2)) = (l.zip as).map fun q => (key q.1, V.ref q.2) := by
    intro l
    induction l with
    | nil => exact fun _ => rfl
    | cons x l ih =>
      intro as
      cases as with
      | nil => rfl
      | cons a as => exact congrArg _ (ih as)
  rw [e] at h2
  exact h2
theorem fnTab_of {P : Program} {x : Str} {T : List (Int × Str)} (h : fnB K x T = true) (hi : (T.map fun q => ((Sum.inl q.1 : Key), q.2)).all (fun q => match q.1 with | .inl _ => true | .inr _ => false) = true) (nd : (T.map fun q => (Sum.inl q.1 : Key)).Nodup) : FnTab P w K x T :=
  tab_of (T := T) (fun q => Sum.inl q.1) (fun q => q.2) h (hash_ints h hi) nd (fun n v => v = V.ref (He.ga K n)) (fun n u hu => by
    cases u with
    | ref a => exact ⟨.ref a, rfl, congrArg V.ref (eq_of_beq hu)⟩
    | _ => cases hu) (fun n v hv => ⟨_, hv⟩) |> fun ⟨as, h1, h2, h3⟩ => ⟨as, h1, h2, fun q hq => by
      have := h3 q hq
      injection this⟩
theorem tw_of {P : Program} (c : He.SaysX faL fnL tsL tfL exL w h K) : Tw P w K where
  wn := tab_of (T := wnT) (fun q => Sum.inl q.1) (fun q => q.2) (He.ba c.more).1 (hash_ints (He.ba c.more).1 (by decide)) (by decide) (fun ns v => ∃ t, v = V.ref t ∧ ∀ H, SqT K H t (ns.map V.str)) (fun ns u h => by
    obtain ⟨t, rfl, ht⟩ := seqAt_ok h
    exact ⟨.ref t, rfl, t, rfl, ht⟩) (fun ns v h => by obtain ⟨t, rfl, _⟩ := h; exact ⟨t, rfl⟩) |> fun ⟨as, h1, h2, h3⟩ => ⟨as, h1, h2, fun q hq => by
      obtain ⟨t, e, ht⟩ := h3 q hq
      cases e
      exact ht⟩
  rg := tab_of (T := rangesT) (fun q => Sum.inr q.1) (fun q => q.2) (He.ba (He.ba c.more).2).1 (hash_tab (c.t.tab 0)) (by decide) (fun q v => ∃ t, v = V.ref t ∧ ∀ H, SqT K H t [.int q.1, .int q.2]) (fun ns u h => by
    obtain ⟨t, rfl, ht⟩ := seqAt_ok h
    exact ⟨.ref t, rfl, t, rfl, ht⟩) (fun ns v h => by obtain ⟨t, rfl, _⟩ := h; exact ⟨t, rfl⟩) |> fun ⟨as, h1, h2, h3⟩ => ⟨as, h1, h2, fun q hq => by
      obtain ⟨t, e, ht⟩ := h3 q hq
      cases e
      exact ht⟩
  te := fnTab_of (He.ba (He.ba (He.ba (He.ba (He.ba c.more).2).2).2).2).1 (by decide) (by decide)
  ta := fnTab_of (He.ba (He.ba (He.ba (He.ba (He.ba (He.ba c.more).2).2).2).2).2).1 (by decide) (by decide)
  sk := fnTab_of (He.ba (He.ba (He.ba (He.ba (He.ba (He.ba c.more).2).2).2).2).2).2 (by decide) (by decide)
end FB
-- EN
set_option Elab.async false
set_option linter.all false
set_option maxRecDepth 100000
set_option maxHeartbeats 0
namespace FB
open PySem PySem.Spec PySem.W PySem.Calls PyProof.Rows L2
def defPos : Stmt → Pos
  | .FunctionDef _ _ _ _ _ _ _ _ _ p => p
  | _ => ⟨0, 0, 0, 0⟩
def dAns : DefRec := { name := "answers", params := defArgs (topS 125), body := defBody (topS 125), scope := defScope (topS 125), pos := defPos (topS 125) }
abbrev vq : Program := PySem.W.view R.prog [125]
theorem h1 : opening R.prog = plainProg R.prog.main.scope.names := by kernel_rfl
theorem h2 : ∀ s, fenceModules? R.prog s = some s := fun s => by kernel_rfl
theorem h3 : defOf vq R.name = some (dAns, []) := by kernel_rfl
theorem h4 : R.prog.theDef R.name = some (dAns.params, dAns.body, dAns.scope) := by kernel_rfl
theorem h5 : kwWritten? dAns.params.kwonlyargs dAns.params.kw_defaults = some [] := by kernel_rfl
theorem h6 : R.wellSaid = true := by decide +kernel
theorem h7 : (chainsOk vq && opensWell R.prog) = true := by decide +kernel
theorem h8 : R.prog.bare := ⟨rfl, rfl, rfl, rfl, rfl, rfl⟩
theorem h9 : ∃ args, R.pre args = true ∧ WData.layableAll args = true := ⟨[.list [.int 18]], by decide +kernel, by decide +kernel⟩
theorem fin (call : WalkOS vq namesL (XL vq []) hk.says R dAns [] fun f vs => PySem.call f vs) : R.Holds :=
  HandSHeadRun.head_spec ob_eq h1 h2 run h3 h4 h5 (fun as h => OpenSpec.pre_hasAll h6 h) h6 h7 h8 h9 call
end FB
-- E1
set_option Elab.async false
set_option linter.all false
set_option maxRecDepth 100000
set_option maxHeartbeats 3900000
/-! the end of a row whose program has a table of code -/
namespace FB
open PySem PyProof.Rows PySem.Spec L2
/-- what is tracked at first: the arguments, and an empty table -/
def withT (tb : Addr) (G : Hp) : Hp := fun b => if b = tb then some (.tbl #[]) else G b
theorem withT_at {tb : Addr} {G : Hp} : withT tb G tb = some (.tbl #[]) := if_pos rfl
theorem withT_ne {tb b : Addr} {G : Hp} (n : b ≠ tb) : withT tb G b = G b := if_neg n
theorem call_tab {P : Program} {w : World} {K : PySem.W.Frag} {mg mb : Str → Option Value} {CX : CXT} {k : Nat} {fa cd tb : Addr} {ps : List Str} {sp : Sp} {s : Shared} {vals : List Value} {ds : List PySem.W.WData} {R : PySem.W.WRecords} {cl : Str → Option Addr} {d0 : PySem.W.WData}
    (inK : K.In s.heap) (nsG : s.heap.Ns mainGlobals mg) (nsB : s.heap.Ns builtinsNs mb) (bb : ∀ x : Str, x ≠ "__name__" → mb x = bootBuiltins x) (lim : s.heap.NoLimit) (gens : s.gens = #[])
    (tab0 : s.heap.get? tb = some { cls := .none, data := .fields #[] }) (tabK : K.lookup tb = none) (head : PySem.W.CodeHd s.heap cd tb)
    (bmA : ∃ (m : Addr) (o : Obj), mg "__builtins__" = some (.ref m) ∧ m ≠ builtinsNs ∧ s.heap.get? m = some o ∧ o.cls = .type "module" ∧ o.dict = some builtinsNs ∧ o.data = .plain)
    (wl : PySem.W.WellAll w.params s.heap vals ds) (pl : plWs ds = true) (wt : ∀ d ∈ ds, d.weight ≤ 1048576) (room : Room k callerA)
    (F : ∀ base : Heap, K.In base → base.Ns mainGlobals mg → LamX.TabB base mg cd tb → ∃ fd, FnOk P w K mg base CX k fa fd ps sp ∧ Binds K fd ps []) (len : ds.length = ps.length)
    (say : ∀ (G H : Hp) (xs : List V), (∀ b o, G b = some o → H b = some o) → H tb = some (.tbl #[]) → DwAll K G xs ds → sp xs H (fun v H' => Dw K H' v d0) fun _ _ _ => False)
    (noX : ∀ H e s', CX [] H s (fun _ _ _ => False) e s' → False) :
    codeAny (model P w) callerA (.call (.ref fa) ⟨vals, []⟩) (fun r s' => ∃ u as, r = .ok (.ret u) ∧ PySem.W.ReadsW R cl s'.heap u d0 as ∧ OldK s.heap s'.heap ∧ s'.os = s.os ∧ AllBare s'.gens) s := by
  obtain ⟨A, okU, ar⟩ := area_all ds vals wl pl wt
  have only := argH_only (K := K) ar
  have stand := dw_all inK ar ds vals wl pl okU
  have rel := vals_toV okU
  have offK : ∀ b u, argH K s.heap A b = some u → K.lookup b = none := fun b u q => (argH_is ar q).1
  have seqs : ∀ b u, argH K s.heap A b = some u → ∃ (c : Value) (vs : List Value), s.heap.get? b = some { cls := c, data := .seq vs.toArray } := fun b u q => by
    obtain ⟨_, vs, _, _, ⟨e, _⟩ | ⟨e, _⟩⟩ := argH_is ar q
    · exact ⟨_, vs, e⟩
    · exact ⟨_, vs, e⟩
  have fits : HOk P w (withT tb (argH K s.heap A)) s.heap := fun b u q => by
    by_cases z : b = tb
    · subst z
      rw [withT_at] at q
      cases q
      exact tab0
    · rw [withT_ne z] at q
      obtain ⟨_, vs, l1, l2, ⟨e, rfl⟩ | ⟨e, rfl⟩⟩ := argH_is ar q
      · exact ⟨e, by rw [List.length_map]; exact l1, vs, _, vals_toV l2, e⟩
      · exact ⟨e, by rw [List.length_map]; exact l1, vs, vals_toV l2, _, e, rfl, _, rfl⟩
  generalize argH K s.heap A = G at only stand offK seqs fits
  have tabG : G tb = none := by
    cases q : G tb with
    | none => rfl
    | some u =>
      obtain ⟨c, vs, e⟩ := seqs tb u q
      rw [tab0] at e
      have z := congrArg Obj.data (Option.some.inj e)
      cases z
  have mono : ∀ b o, G b = some o → withT tb G b = some o := fun b o q => by
    rw [withT_ne (fun z => by rw [z, tabG] at q; cases q)]
    exact q
  have top := @withT_at tb G
  have part : ∀ b, withT tb G b = none ∨ b = tb ∨ ∃ o u, withT tb G b = some (.frz o u) := fun b => by
    by_cases z : b = tb
    · exact .inr (.inl z)
    · rcases only b with q | ⟨o, u, q⟩
      · exact .inl (by rw [withT_ne z]; exact q)
      · exact .inr (.inr ⟨o, u, by rw [withT_ne z]; exact q⟩)
  have away : ∀ {b : Addr} {o : Obj}, s.heap.get? b = some o → (∀ vs n, o.data ≠ .seq vs n) → o.data ≠ .fields #[] → withT tb G b = none := fun {b o} e n1 n2 => by
    by_cases z : b = tb
    · rw [z, tab0] at e
      exact absurd (congrArg Obj.data (Option.some.inj e)).symm n2
    · rw [withT_ne z]
      cases q : G b with
      | none => rfl
      | some u =>
        obtain ⟨c, vs, e2⟩ := seqs b u q
        rw [e2] at e
        exact absurd (congrArg Obj.data (Option.some.inj e)).symm (n1 _ _)
  have awayK : ∀ b o, K.lookup b = some o → withT tb G b = none := fun b o q => by
    rw [withT_ne (fun z => by rw [z, tabK] at q; cases q)]
    cases q2 : G b with
    | none => rfl
    | some u =>
      rw [offK b u q2] at q
      cases q
  generalize hH : withT tb G = H at fits mono top part away awayK
  have low : ∀ {b : Addr} {o : Obj}, s.heap.get? b = some o → H b = none → (hidT s.heap H).get? b = some o := fun a b => hidT_get a b
  have lowN : ∀ {b : Addr} {f : Str → Option Value}, s.heap.Ns b f → (hidT s.heap H).Ns b f := fun {b f} ⟨o, es, ep, e, d, r⟩ => ⟨o, es, ep, low e (away e (fun vs n z => by rw [d] at z; cases z) (fun z => by rw [d] at z; cases z)), d, r⟩
  have lowK : K.In (hidT s.heap H) := fun b o q => low (inK b o q) (awayK b o q)
  have tabs : LamX.TabB (hidT s.heap H) mg cd tb := by
    refine ⟨?_, ?_, fun z => ?_⟩
    · obtain ⟨o, us, fl, tf, fg, tg, iF, tx, tt, e, a1, a2, a3, a4⟩ := head
      exact ⟨o, us, fl, tf, fg, tg, iF, tx, tt, low e (away e (fun vs n z => by rw [a2] at z; cases z) (fun z => by
        rw [a2] at z
        cases z
        simp at a3)), a1, a2, a3, a4⟩
    · obtain ⟨m, o, b1, b2, b3, b4, b5, b6⟩ := bmA
      refine ⟨m, o, b1, b2, fun z => ?_, fun z => ?_, low b3 (away b3 (fun vs n z => by rw [b6] at z; cases z) (fun z => by rw [b6] at z; cases z)), b4, b5, b6⟩
      · obtain ⟨o2, es, ep, e, d, _⟩ := nsG
        rw [z, e] at b3
        cases b3
        rw [d] at b6
        cases b6
      · rw [z, tab0] at b3
        cases b3
        cases b6
    · obtain ⟨o2, es, ep, e, d, _⟩ := nsG
      rw [z, tab0] at e
      cases e
      cases d
  obtain ⟨fd, ok, bd⟩ := F (hidT s.heap H) lowK (lowN nsG) tabs
  have modl : Mod K mg (hidT s.heap H) := ⟨lowK, lowN nsG, ⟨mb, lowN nsB, bb⟩, lim.elim fun mc q => ⟨mc, lowN q.1, q.2⟩⟩
  have env : Env0 P w K mg (hidT s.heap H) callerA [] s H := ⟨rfl, modl, fun _ _ q => of_hidT q, Nat.le_of_eq (hidT_size _ _), trivial, fun b q => absurd (show b ∈ ([] : List Addr) from q) List.not_mem_nil, fits, .of_eq gens⟩
  have ln : vals.length = ps.length := (wellAll_len wl).trans len
  have bnd := bd s vals inK (by rw [List.append_nil]; exact ln)
  rw [List.append_nil] at bnd
  refine codeAny_mono (ok.run callerA [] s H ⟨vals, []⟩ vals (vals.map toV) _ _ room env bnd rel (say G H _ mono top stand)) fun r s' out => ?_
  cases r with
  | error e => exact (noX H e s' out).elim
  | ok fl =>
    cases fl with
    | next => exact out.elim
    | brk => exact out.elim
    | cont => exact out.elim
    | ret u =>
      obtain ⟨v, H', os, bare, un, fits', ru, q⟩ := out
      have stays : ∀ b o, b ≠ tb → s.heap.get? b = some o → s'.heap.get? b = some o := fun b o n e => by
        rcases part b with z | z | ⟨x, u2, z⟩
        · exact un.keep b o e z (fun z2 => absurd (show b ∈ ([] : List Addr) from z2) List.not_mem_nil) List.not_mem_nil
        · exact absurd z n
        · have f1 := (fits b _ z).1
          have f2 := (fits' b _ (un.frzs b x _ z)).1
          rw [e] at f1
          cases f1
          exact f2
      obtain ⟨more, grown⟩ := un.tbls tb #[] top
      have at2 : s'.heap.get? tb = some { cls := .none, data := .fields (#[] ++ more) } := fits' tb _ grown
      have inK' : K.In s'.heap := fun b o e => stays b o (fun z => by rw [z, tabK] at e; cases e) (inK b o e)
      obtain ⟨as, rd⟩ := Dw.reads (R := R) (cl := cl) fits' inK' d0 v u q ru
      refine ⟨u, as, rfl, rd, ⟨fun b o e => ?_, fun b o e => ?_⟩, os, bare⟩
      · by_cases z : b = tb
        · rw [z] at e ⊢
          rw [tab0] at e
          cases e
          exact .inr (.inl ⟨(head.tab tab0).isCodeTable, rfl, #[], more, rfl, at2⟩)
        · exact .inl (stays b o z e)
      · by_cases z : b = tb
        · rw [z]
          exact ⟨_, at2⟩
        · exact ⟨o, stays b o z e⟩
theorem walk_tab {r : PySem.W.OpenSpec} {k : Nat} {q : Program} {loose : List Str} {XP : (Str → Option Value) → Heap → Prop} {YP : World → Heap → Prop} {d : DefRec} {ps : List Str} {sp : PySem.W.Frag → Sp} {cdO tbO : PySem.W.Frag → Addr}
    (hwell : r.wellSaid = true) (hlen : r.args.length = ps.length) (hr : Room k callerA)
    (F : ∀ (w : World) (mg : Str → Option Value) (fa : Addr) (h : Heap), YP w h → h.Ns mainGlobals mg → mg d.name = some (.ref fa) → ∃ K : PySem.W.Frag, K.In h ∧ h.get? (tbO K) = some { cls := .none, data := .fields #[] } ∧ K.lookup (tbO K) = none ∧ PySem.W.CodeHd h (cdO K) (tbO K) ∧
      ∀ base : Heap, K.In base → base.Ns mainGlobals mg → LamX.TabB base mg (cdO K) (tbO K) → ∃ fd, FnOk r.prog w K mg base CX0 k fa fd ps (sp K) ∧ Binds K fd ps [])
    (say : ∀ (K : PySem.W.Frag) (G H : Hp) (xs : List V) (a : PySem.W.Codec.denoteAll r.args), (∀ b o, G b = some o → H b = some o) → H (tbO K) = some (.tbl #[]) → PySem.W.Codec.withinAll r.args a = true → PySem.W.Codec.app r.args r.asked a = true → DwAll K G xs (PySem.W.Codec.encAll r.args a) → sp K xs H (fun v H' => Dw K H' v (r.ret.enc (PySem.W.Codec.app r.args r.f a))) fun _ _ _ => False)
    (noX : ∀ (H : Hp) (s : Shared) (e : Value) (s' : Shared), CX0 [] H s (fun _ _ _ => False) e s' → False) : PySem.W.WalkOS q loose XP YP r d [] (fun f vs => PySem.call f vs) := by
  intro w s0 s1 mg mb G Y fa o pm cd doc dV kV ho hd hcd hD hmg hg args vals as hpre hlay hrd hwl hlo
  obtain ⟨a, decoded, asked⟩ := PySem.W.os_pre_some hpre
  obtain ⟨same, hwi⟩ := PySem.W.Codec.encAll_of_decAll r.args args a decoded
  subst same
  obtain ⟨K, KX, t0, tK, hc, hF⟩ := F w mg fa _ Y G.T.g hmg
  refine PySem.W.enter_call (codeAny_mono (call_tab (R := []) (cl := classAt s0.heap) (d0 := r.ret.enc (PySem.W.Codec.app r.args r.f a)) KX G.T.g G.T.b G.T.builtins G.T.nolimit hg t0 tK hc G.T.bmain hwl (pl_encAll _ _) (layable_weight hlay) hr hF (by rw [encAll_len]; exact hlen) (fun Gh H xs e t hS => say K Gh H xs a e t hwi asked hS) fun H e s' => noX H s1 e s') fun r' s' hq => ?_)
  obtain ⟨u, reached, rfl, h1, h2, h3, h4⟩ := hq
  exact ⟨.inl ⟨u, _, reached, rfl, fun _ => rfl, h1, (PySem.W.OpenSpec.post_iff hwell hwi _ _).mpr rfl, fun z => Bool.noConfusion (show false = true from z)⟩, h2, h3, h4⟩
end FB
-- FB3
set_option Elab.async false
set_option linter.all false
set_option maxRecDepth 100000
set_option maxHeartbeats 3900000
namespace FB
open PySem PySem.Spec PyProof.Rows L2 Evl
/-! ### walks over dicts under a lock -/
section
variable {K : PySem.W.Frag} {σ : L2.St} {H : Hp} {td te : TE} {d : Addr} {kvs : List (Key × V)} {od : Obj} {xs : List V}
theorem pg_tupK {X : Cx} {pos : Pos} {es : List Expr} {k : Nat} {t : TGs} {n : Nat} (hK : X.K = K) (hc : X.calm = true) (h : PGs X es t) (hn : (assignEach es X.env).length = n := by rfl) (hst : (assignEach es X.env).findIdx? (·.1) = none := by rfl) : PG X (.Tuple es k pos) (gTup K n t) := by
  subst hK
  exact pg_tup hc h hn hst
theorem el_lock (hd : H d = some (.dK kvs)) (h : ∀ od HL, HL d = some (.frz od (.dK kvs)) → ExB d H HL → EvL te σ HL xs) : EvL (tLockE te) σ H xs := fun H1 e Q q =>
  ⟨d, .dK kvs, e _ _ hd, trivial, fun od => h od _ upd_same (fun b o hb z => by rw [upd_ne hb]; exact e b o z) _ (Ex.refl _) _ fun p H2 hp e2 h2 => by
    have hpd : p ≠ d := fun z => by
      rw [z, upd_same] at hp
      cases hp
    refine ⟨e2 d _ upd_same, q p _ (by rw [upd_ne hpd] at hp; exact hp) (fun b o hb => ?_) (by rw [upd_ne hpd]; exact h2)⟩
    by_cases c : b = d
    · subst c
      rw [e _ _ hd] at hb
      rw [upd_same]
      exact hb
    · rw [upd_ne c]
      exact e2 b o (by rw [upd_ne c]; exact hb)⟩
theorem ei_vals (h : Ev td σ H (.ref d)) (hd : H d = some (.frz od (.dK kvs))) : EvI (iVals td) σ H kvs.length (fun i x => (kvs.map Prod.snd)[i]? = some x) := fun H1 e R q =>
  h H1 e _ fun H2 e2 => ⟨d, od, kvs, rfl, e2 _ _ (e _ _ hd), q _ H2 _ e2 (walk_values.mono (fun _ h => h) fun i H x H' _ _ y => by
    obtain ⟨rfl, k, hk⟩ := y
    exact ⟨rfl, by show (List.map Prod.snd kvs)[i]? = some x; rw [List.getElem?_map, hk]; rfl⟩) fun H3 e3 => e3 _ _ (e2 _ _ (e _ _ hd))⟩
theorem el_items {j1 j2 : Nat} {vs : List Nat} (f : Key × V → V) (h : Ev td σ H (.ref d)) (hd : H d = some (.frz od (.dK kvs))) (hz : kvs.length ≤ 40000) (hw : ∀ x y, wipe (((wipe σ vs).set j1 (some x)).set j2 (some y)) vs = wipe σ vs)
    (he : ∀ kv ∈ kvs, ∀ H1, Ex H H1 → Ev te (((wipe σ vs).set j1 (some (kV kv.1))).set j2 (some kv.2)) H1 (f kv)) : EvL (tLc (iItems td) (gTup K 2 (gCons (gName j1) (gCons (gName j2) gNil))) tYes te vs) σ H (kvs.map f) := fun H0 e Q q =>
  h H0 e _ fun H1 e1 => ⟨d, od, kvs, rfl, e1 _ _ (e _ _ hd), fun Dl hD => by
    refine lc_it walk_items (Cw H1 (fun _ => true) (fun i => ((kvs.map f)[i]?).getD .non) Dl) ⟨hD, Ex.new hD, upd_same⟩ (fun i H' _ p => p.2.1 _ _ (e1 _ _ (e _ _ hd))) (fun i x H' H'' hi p y => ?_) (fun H' p => ?_)
    · obtain ⟨T, a, b, rfl, hT, rfl, ha, hb⟩ := y
      obtain ⟨p1, p2, p3⟩ := p
      have hkv : kvs[i]? = some kvs[i] := List.getElem?_eq_getElem hi
      dsimp only at ha hb
      rw [hkv] at ha hb
      cases ha
      cases hb
      refine ⟨T, _, rfl, .inl (.inl upd_same), rfl, _, _, rfl, _, _, rfl, rfl, hw _ _, ?_⟩
      have c : Cw H1 (fun _ => true) (fun i => ((kvs.map f)[i]?).getD .non) Dl i (upd H' T (.tup [kV kvs[i].1, kvs[i].2])) := ⟨p1, p2.trans (Ex.new hT), (Ex.new hT) _ _ p3⟩
      refine cw_turn c (by omega) et_yes fun _ => ?_
      have e3 : ((kvs.map f)[i]?).getD .non = f kvs[i] := by rw [List.getElem?_map, hkv]; rfl
      rw [e3]
      exact he _ (List.getElem_mem hi) H1 (e.trans e1)
    · have e2 : (List.range kvs.length).map (fun i => ((kvs.map f)[i]?).getD .non) = kvs.map f := by
        apply List.ext_getElem?
        intro i
        rw [List.getElem?_map]
        by_cases c : i < kvs.length
        · rw [List.getElem?_range c, Option.map_some, List.getElem?_eq_getElem (by rw [List.length_map]; exact c)]
          rfl
        · rw [List.getElem?_eq_none (by rw [List.length_range]; omega), List.getElem?_eq_none (by rw [List.length_map]; omega)]
          rfl
      have p3 := p.2.2
      rw [given_all, e2] at p3
      exact q Dl H' (fresh_back e1 p.1) (e1.trans p.2.1) p3⟩
end
theorem inV_ints {n : Int} {l : List Int} : inV (.int n) (l.map V.int) = decide (n ∈ l) := by
  unfold inV
  rw [List.any_map]
  induction l with
  | nil => rfl
  | cons a r ih =>
    rw [List.any_cons, ih]
    have e : (((fun y => eqV y (V.int n)) ∘ V.int) a) = decide (n = a) := by
      show decide (a = n) = decide (n = a)
      by_cases c : a = n
      · rw [c]
      · rw [decide_eq_false c, decide_eq_false (fun h => c h.symm)]
    rw [e]
    by_cases c : n = a <;> by_cases c2 : n ∈ r <;> simp [c, c2]
end FB
-- F1
set_option Elab.async false
set_option linter.all false
set_option maxRecDepth 100000
set_option maxHeartbeats 3900000
namespace FB
open PySem PySem.Spec PyProof.Rows L2 Evl
section
variable {K : PySem.W.Frag} {mg : Str → Option Value} {P : Program} {base : Heap} {w : World}
abbrev s_in_range : Stmt := topS 87
abbrev N_in_range : List Str := ["name", "number", "lands", "span"]
theorem sc_in_range : FnScope N_in_range ["name", "number", "lands"] (defScope s_in_range) := ⟨rfl, rfl, rfl, by decide +kernel, rfl, by decide +kernel, by decide +kernel⟩
def inR (lands : Int) (x : Str) (n : Int) : Bool := if x = "land" then decide (1 ≤ n) && decide (n ≤ lands) else match rangesT.find? fun q => decide (q.1 = x) with
  | none => true
  | some q => decide (q.2.1 ≤ n) && decide (n ≤ q.2.2)
def sp_in_range : Sp := fun vs H Q _ => ∃ (x : Str) (n lands : Int), vs = [.str x, .int n, .int lands] ∧ RetV (.bl (inR lands x n)) H Q
theorem rv_eqS {x y : Str} {H : Hp} : RV rEq (.str x) (.str y) H (.bl (decide (x = y))) := by
  have e : decide (V.str x = V.str y) = decide (x = y) := by
    by_cases h : x = y
    · rw [h, decide_eq_true rfl, decide_eq_true rfl]
    · rw [decide_eq_false h, decide_eq_false (fun q => h (V.str.inj q))]
  rw [← e]
  exact rv_eq rfl
theorem ranges_nodup : (rangesT.map fun q => (Sum.inr q.1 : Key)).Nodup := by decide
theorem ok_in_range (T : Tx K mg) (Y : Tw P w K) : Own P w K mg base CX0 1 "in_range" ["name", "number", "lands"] sp_in_range := by
  refine own_mk T.d_in_range T.g_in_range (fun _ _ _ _ _ _ us hl => match us, hl with | [_, _, _], _ => rfl) fun fd F => ?_
  refine F.ok sc_in_range (fun vs H Q E h => by obtain ⟨a, ns, _, rfl, _⟩ := h; rfl) (fun cdv A outer s H vs Q E hr h => ⟨_, PSs.nox
    (pss_cons (ps_if (pt_cmpR op_eq (pv 0) pe_str (nomark _))
      (pss_one (ps_ret (pe_chain op_le op_le pe_int (pv 1) (pv 2))))
      pss_nil)
    (pss_cons (ps_set (i := 3) sc_in_range.nd rfl (Or.inl rfl) (pe_kget1 (pe_cref T.g_RANGES) (pv 0) (by exact ⟨rfl, rfl, rfl, rfl⟩)))
    (pss_one (ps_ret (pe_or (pe_cmpR op_isN (pv 3) pe_non (nomark _)) (pe_one (pe_chain op_le op_le (pe_ix ix_tup (pv 3) pe_int (fun _ _ => rfl)) (pv 1) (pe_ix ix_tup (pv 3) pe_int (fun _ _ => rfl))))))))), ?_⟩)
  obtain ⟨x, n, lands, rfl, k⟩ := h
  obtain ⟨as, hl, hd, ht⟩ := Y.rg
  unfold inR at k
  refine q_when (et_test (ev_op (ev_var rfl) ev_c rv_eqS)) (fun hb H0 e0 => ?_) (fun hb H0 e0 => ?_)
  · rw [if_pos (of_decide_eq_true hb)] at k
    exact s_ret (ev_chain ev_c (ev_var rfl) (ev_var rfl)) fun H2 e2 => k _ (e0.trans e2)
  rw [if_neg (of_decide_eq_false hb)] at k
  refine q_asg (ev_kget1 (k := Sum.inr x) ev_c (ev_var rfl) hd) fun H1 e1 => ?_
  cases hf : rangesT.find? fun q => decide (q.1 = x) with
  | none =>
    rw [hf] at k
    dsimp only at k
    rw [valV_tabN (key := fun q : Str × Int × Int => (Sum.inr q.1 : Key)) fun q hq h => by
      have := List.find?_eq_none.mp hf q hq
      exact this (by rw [decide_eq_true (Sum.inr.inj h)])]
    exact s_ret (v := .bl true) (ev_orV (a := true) (b := true) (ev_op (ev_var rfl) ev_c fun H2 e2 Q q => ⟨rfl, q H2 (Ex.refl H2)⟩) fun h => nomatch h) fun H2 e2 => k _ (e0.trans (e1.trans e2))
  | some q =>
    rw [hf] at k
    dsimp only at k
    have hq := List.mem_of_find?_eq_some hf
    have hx : q.1 = x := of_decide_eq_true (List.find?_some (p := fun q : Str × Int × Int => decide (q.1 = x)) hf)
    subst hx
    obtain ⟨a, ha, hv⟩ := valV_tab (key := fun q : Str × Int × Int => (Sum.inr q.1 : Key)) hl ranges_nodup hq
    rw [hv]
    have hs := ht _ ha
    exact s_ret (ev_orV (a := false) (ev_op (ev_var rfl) ev_c fun H2 e2 Q q => ⟨rfl, q H2 (Ex.refl H2)⟩) fun _ => ev_chain (ev_itemT (i := 0) (ev_var rfl) ev_c (hs _) rfl) (ev_var rfl) (ev_itemT (i := 1) (ev_var rfl) ev_c (hs _) rfl)) fun H2 e2 => k _ (e0.trans (e1.trans e2))
/-- a call as the program keeps it -/
def CallAt (K : PySem.W.Frag) (H : Hp) (c d r : Addr) (n : Int) (told : List (Str × Int)) (row : List Int) : Prop :=
  ∃ dx, H c = some (.ins (He.ga K "Call") dx (callNames.zip ([.int n, .ref d, .ref r] : List V))) ∧ H d = some (.dK (told.map fun q => (Sum.inr q.1, V.int q.2))) ∧ SqL K H r (row.map V.int)
abbrev s_bytes_stand : Stmt := topS 89
abbrev N_bytes_stand : List Str := ["call", "byte"]
theorem sc_bytes_stand : FnScope N_bytes_stand ["call"] (defScope s_bytes_stand) := ⟨rfl, rfl, rfl, by decide +kernel, rfl, by decide +kernel, by decide +kernel⟩
def bytesS (n : Int) (row : List Int) : Bool := if (n = 0 ∨ n = 5 ∨ n = 16) then decide ((row.length : Int) ≤ 2000) && (row.map fun b => decide (0 ≤ b) && decide (b ≤ 255)).all id else true
def sp_bytes_stand (K : PySem.W.Frag) : Sp := fun vs H Q _ => ∃ (c d r : Addr) (n : Int) (told : List (Str × Int)) (row : List Int), vs = [.ref c] ∧ CallAt K H c d r n told row ∧ row.length ≤ 40000 ∧ RetV (.bl (bytesS n row)) H Q
theorem ok_bytes_stand (T : Tx K mg) : Own P w K mg base CX0 1 "bytes_stand" ["call"] (sp_bytes_stand K) := by
  refine own_mk T.d_bytes_stand T.g_bytes_stand (fun _ _ _ _ _ _ us hl => match us, hl with | [_], _ => rfl) fun fd F => ?_
  refine F.ok sc_bytes_stand (fun vs H Q E h => by obtain ⟨a, _, _, _, _, _, rfl, _⟩ := h; rfl) (fun cdv A outer s H vs Q E hr h => ⟨_, PSs.nox
    (pss_cons (ps_if (pt_cmpR op_notIn_seq (pe_fld (pv 0) rfl) (pe_cref T.g_WITH_TEXT) (by with_unfolding_all rfl))
      (pss_one (ps_ret pe_bl))
      pss_nil)
    (pss_one (ps_ret (pe_and (pe_cmpR op_le (pe_callB call_len_seq (by rfl) T.b_len PySem.boot_len (pa_cons (pe_fld (pv 0) rfl) pa_nil)) (pe_cint T.c_MOST_BYTES) (nomark _)) (pe_one (pe_callB (cr_all rfl) (by rfl) T.b_all (by decide +kernel) (pa_cons (pe_lc (own := [("byte", 1)]) (g := gName 1) (tt := tYes) rfl sc_bytes_stand.nd (pi_list (pe_fld (pv 0) rfl)) (blkOk_by (N := N_bytes_stand) (sc := defScope s_bytes_stand) (by decide +kernel)) (fun _ _ _ _ _ => by exact (pg_name (i := 1) sc_bytes_stand.nd rfl (Or.inl rfl))) (fun _ _ _ _ _ => by exact pts_nil) (fun _ _ _ _ _ => by exact (pe_chain op_le op_le pe_int (pv 1) (pe_cint T.c_LAST_BYTE)))) pa_nil))))))), ?_⟩)
  obtain ⟨c, d, r, n, told, row, rfl, ⟨dx, h1, h2, h3⟩, hz, k⟩ := h
  have hn : (callNames.zip ([.int n, .ref d, .ref r] : List V)).lookup ("number" : Str) = some (.int n) := lk_here
  have hr : (callNames.zip ([.int n, .ref d, .ref r] : List V)).lookup ("row" : Str) = some (.ref r) := (lk_past (by decide)).trans ((lk_past (by decide)).trans lk_here)
  have hl : ((row.map V.int).length : Int) = (row.length : Int) := by rw [List.length_map]
  refine q_when (et_B (ev_op (ev_fld (ev_var rfl) h1 T.k_Call T.n_Call_number hn) ev_c (rv_niT (T.t_WITH_TEXT _) rfl rfl))) (fun hb H1 e1 => s_ret ev_c fun H2 e2 => ?_) (fun hb H1 e1 => ?_)
  · have hb2 : (!inV (.int n) ([0, 5, 16].map V.int)) = true := hb
    rw [inV_ints] at hb2
    unfold bytesS at k
    rw [if_neg (by simpa using hb2)] at k
    exact k _ (e1.trans e2)
  have hb2 : (!inV (.int n) ([0, 5, 16].map V.int)) = false := hb
  rw [inV_ints] at hb2
  unfold bytesS at k
  rw [if_pos (by simp at hb2; omega)] at k
  have g1 := e1 _ _ h1
  refine s_ret (ev_andV (ev_op (ev_is (ev_lenL (ev_fld (ev_var rfl) g1 T.k_Call T.n_Call_row hr) (ex_l e1 h3)) (congrArg V.int hl)) ev_c rv_cmp) fun _ => ev_allN (bs := row.map fun b => decide (0 ≤ b) && decide (b ≤ 255)) (by
    rw [List.map_map]
    exact el_map V.int _ (by rw [← List.length_map V.int]; exact ei_list (ev_fld (ev_var rfl) g1 T.k_Call T.n_Call_row hr) (ex_l e1 h3)) (fun _ _ h => h) hz (fun _ => rfl) fun b H2 e2 _ => ev_chain ev_c (ev_var rfl) ev_c)) fun H2 e2 => k _ (e1.trans e2)
abbrev s_numbers_stand : Stmt := topS 88
abbrev N_numbers_stand : List Str := ["call", "lands", "name", "number"]
theorem sc_numbers_stand : FnScope N_numbers_stand ["call", "lands"] (defScope s_numbers_stand) := ⟨rfl, rfl, rfl, by decide +kernel, rfl, by decide +kernel, by decide +kernel⟩
def numsS (lands : Int) (told : List (Str × Int)) : Bool := (told.map fun q => inR lands q.1 q.2).all id
def sp_numbers_stand (K : PySem.W.Frag) : Sp := fun vs H Q _ => ∃ (c d r : Addr) (n lands : Int) (told : List (Str × Int)) (row : List Int), vs = [.ref c, .int lands] ∧ CallAt K H c d r n told row ∧ told.length ≤ 40000 ∧ RetV (.bl (numsS lands told)) H Q
theorem ok_numbers_stand (T : Tx K mg) (Y : Tw P w K) : Own P w K mg base CX0 2 "numbers_stand" ["call", "lands"] (sp_numbers_stand K) := by
  refine own_mk T.d_numbers_stand T.g_numbers_stand (fun _ _ _ _ _ _ us hl => match us, hl with | [_, _], _ => rfl) fun fd F => ?_
  refine F.ok sc_numbers_stand (fun vs H Q E h => by obtain ⟨a, _, _, _, _, _, _, rfl, _⟩ := h; rfl) (fun cdv A outer s H vs Q E hr h => ⟨_, PSs.nox
    (pss_one (ps_ret (pe_callB (cr_all rfl) (by rfl) T.b_all (by decide +kernel) (pa_cons (pe_lock (pe_lc (own := [("name", 2), ("number", 3)]) (g := (gTup K 2 (gCons (gName 2) (gCons (gName 3) gNil)))) (tt := tYes) rfl sc_numbers_stand.nd (pi_items (pe_fld (pv 0) rfl)) (blkOk_by (N := N_numbers_stand) (sc := defScope s_numbers_stand) (by decide +kernel)) (fun _ _ _ _ _ => by exact (pg_tupK (K := K) (n := 2) rfl rfl (pgs_cons (pg_name (i := 2) sc_numbers_stand.nd rfl (Or.inl rfl)) (pgs_cons (pg_name (i := 3) sc_numbers_stand.nd rfl (Or.inl rfl)) pgs_nil)))) (fun _ _ _ _ _ => by exact pts_nil) (fun _ _ _ _ _ => by exact (pe_own (ok_in_range T Y) hr (by decide) pass0 (pa_cons (pv 2) (pa_cons (pv 3) (pa_cons (pv 1) pa_nil))))))) pa_nil)))), ?_⟩)
  obtain ⟨c, d, r, n, lands, told, row, rfl, ⟨dx, h1, h2, h3⟩, hz, k⟩ := h
  have hn : (callNames.zip ([.int n, .ref d, .ref r] : List V)).lookup ("told" : Str) = some (.ref d) := (lk_past (by decide)).trans lk_here
  have hcd : c ≠ d := fun z => by
    rw [z, h2] at h1
    cases h1
  refine s_ret (ev_allN (bs := told.map fun (q : Str × Int) => inR lands q.1 q.2) (el_lock h2 fun od HL hL eb => ?_)) k
  have e1 : (told.map fun (q : Str × Int) => inR lands q.1 q.2).map V.bl = (told.map fun (q : Str × Int) => ((Sum.inr q.1 : Key), V.int q.2)).map (fun kv => match kv with | (Sum.inr x, .int i) => V.bl (inR lands x i) | _ => .non) := by
    simp only [List.map_map]
    rfl
  rw [e1]
  refine el_items (K := K) _ (ev_fld (ev_var rfl) (eb _ _ hcd h1) T.k_Call T.n_Call_told hn) hL (by rw [List.length_map]; exact hz) (fun _ _ => rfl) fun kv hkv H1 e2 => ?_
  obtain ⟨q, hq, rfl⟩ := List.mem_map.mp hkv
  exact ev_call (ea_cons (ev_var rfl) (ea_cons (ev_var rfl) (ea_cons (ev_var rfl) ea_nil))) fun H2 e2 Q q' E => ⟨q.1, q.2, lands, rfl, fun H3 e3 => q' H3 e3⟩
end
end FB
-- F2
set_option Elab.async false
set_option linter.all false
set_option maxRecDepth 100000
set_option maxHeartbeats 3900000
namespace FB
open PySem PySem.Spec PyProof.Rows L2 Evl
def withListT : List Int := [0, 2, 5, 16]
def namesT (p : Int) : Option (List Str) := (wnT.find? fun q => decide (q.1 = p)).map (·.2)
def shapeW (p : Int) : Option (Nat × Nat) := (namesT p).map fun ns => (ns.length, if p ∈ withListT then 1 else 0)
structure CallM where
  n : Int
  told : List (Str × Int)
  row : List Int
def callM (c : List (List Int)) : CallM := match c with
  | (p :: xs) :: rs => ⟨p, ((namesT p).getD []).zip xs, rs.headD []⟩
  | _ => ⟨0, [], []⟩
theorem namesT_mem {p : Int} {ns : List Str} (h : namesT p = some ns) : (p, ns) ∈ wnT := by
  unfold namesT at h
  obtain ⟨q, hq, rfl⟩ := Option.map_eq_some_iff.mp h
  have h1 := List.mem_of_find?_eq_some hq
  have h2 : q.1 = p := of_decide_eq_true (List.find?_some (p := fun q : Int × List Str => decide (q.1 = p)) hq)
  subst h2
  exact h1
theorem flat_step {l : List Int} {f i : Nat} {rest : List (List (List Int))} (h : PyFlat.calls shapeW f (l.drop i) = some rest) (hi : i < l.length) : ∃ (p : Int) (ns : List Str) (f' : Nat) (rest' : List (List (List Int))),
    l[i]? = some p ∧ namesT p = some ns ∧ i + 1 + ns.length ≤ l.length ∧
    ((p ∉ withListT ∧ PyFlat.calls shapeW f' (l.drop (i + 1 + ns.length)) = some rest' ∧ rest = [p :: (l.drop (i + 1)).take ns.length] :: rest') ∨
     (p ∈ withListT ∧ ∃ m : Nat, l[i + 1 + ns.length]? = some (m : Int) ∧ i + 1 + ns.length + 1 + m ≤ l.length ∧ PyFlat.calls shapeW f' (l.drop (i + 1 + ns.length + 1 + m)) = some rest' ∧
       rest = [p :: (l.drop (i + 1)).take ns.length, (l.drop (i + 1 + ns.length + 1)).take m] :: rest')) := by
  have e1 : l.drop i = l[i] :: l.drop (i + 1) := List.drop_eq_getElem_cons hi
  rw [e1] at h
  cases f with
  | zero => cases h
  | succ f =>
    unfold PyFlat.calls at h
    cases hc : PyFlat.call shapeW (l[i] :: l.drop (i + 1)) with
    | none =>
      rw [hc] at h
      cases h
    | some ct =>
      obtain ⟨c, t⟩ := ct
      rw [hc] at h
      dsimp only at h
      cases hr : PyFlat.calls shapeW f t with
      | none =>
        rw [hr] at h
        cases h
      | some cs =>
        rw [hr] at h
        cases h
        unfold PyFlat.call at hc
        dsimp only at hc
        cases hs : namesT l[i] with
        | none =>
          have hs2 : shapeW l[i] = none := by
            unfold shapeW
            rw [hs]
            rfl
          rw [hs2] at hc
          cases hc
        | some ns =>
          have hs2 : shapeW l[i] = some (ns.length, if l[i] ∈ withListT then 1 else 0) := by
            unfold shapeW
            rw [hs]
            rfl
          rw [hs2] at hc
          dsimp only at hc
          by_cases hlt : (l.drop (i + 1)).length < ns.length
          · rw [if_pos hlt] at hc
            cases hc
          · rw [if_neg hlt] at hc
            rw [List.length_drop] at hlt
            have hle : i + 1 + ns.length ≤ l.length := by omega
            refine ⟨l[i], ns, f, cs, List.getElem?_eq_getElem hi, hs, hle, ?_⟩
            rw [List.drop_drop] at hc
            by_cases hw : l[i] ∈ withListT
            · rw [if_pos hw] at hc
              refine .inr ⟨hw, ?_⟩
              cases hd : l.drop (i + 1 + ns.length) with
              | nil =>
                rw [hd] at hc
                cases hc
              | cons m r' =>
                rw [hd] at hc
                unfold PyFlat.rows PyFlat.row at hc
                dsimp only at hc
                by_cases hm : 0 ≤ m ∧ m.toNat ≤ r'.length
                · rw [if_pos hm] at hc
                  dsimp only [PyFlat.rows] at hc
                  cases hc
                  have h6 : i + 1 + ns.length < l.length := by
                    have := congrArg List.length hd
                    rw [List.length_drop, List.length_cons] at this
                    omega
                  have h7 := List.drop_eq_getElem_cons h6
                  rw [hd] at h7
                  obtain ⟨h8, h9⟩ := List.cons.inj h7
                  have h10 : r'.length = l.length - (i + 1 + ns.length + 1) := by rw [h9, List.length_drop]
                  refine ⟨m.toNat, by rw [List.getElem?_eq_getElem h6, ← h8, Int.toNat_of_nonneg hm.1], by omega, ?_, by rw [← h9]⟩
                  rw [h9, List.drop_drop] at hr
                  exact hr
                · rw [if_neg hm] at hc
                  cases hc
            · rw [if_neg hw] at hc
              dsimp only [PyFlat.rows] at hc
              cases hc
              exact .inl ⟨hw, hr, rfl⟩
theorem mergeK_zip : ∀ {ks : List Key} {ys : List V} {acc : List (Key × V)}, (∀ k ∈ ks, valV acc k = none) → ks.Nodup → mergeK acc (ks.zip ys) = acc ++ ks.zip ys
  | [], _, acc, _, _ => by
    rw [List.zip_nil_left, List.append_nil]
    rfl
  | k :: ks, [], acc, _, _ => by
    rw [List.zip_nil_right, List.append_nil]
    rfl
  | k :: ks, y :: ys, acc, h, nd => by
    rw [List.zip_cons_cons]
    show mergeK (putK acc k y) (ks.zip ys) = _
    obtain ⟨notIn, ndRest⟩ := List.nodup_cons.mp nd
    rw [putK_new y (h k (List.mem_cons_self ..)), mergeK_zip (fun j hj => ?_) ndRest, List.append_assoc]
    · rfl
    · rw [valV_snoc k j y acc (h k (List.mem_cons_self ..)), if_neg (fun (z : j = k) => notIn (by rw [← z]; exact hj))]
      exact h j (List.mem_cons_of_mem _ hj)
end FB
-- F3
set_option Elab.async false
set_option linter.all false
set_option maxRecDepth 100000
set_option maxHeartbeats 3900000
namespace FB
open PySem PySem.Spec PyProof.Rows L2 Evl
section
variable {K : PySem.W.Frag} {mg : Str → Option Value} {P : Program} {base : Heap} {w : World}
variable {σ : L2.St} {H H' : Hp} {ta tb te : TE} {p : Addr}
/-- dict(zip(t, l)), t a tuple, l new -/
theorem eq_dictZip {t : Addr} {ks : List Key} {ys : List V} (ht : Ev ta σ H (.ref t)) (hs : SqT K H t (ks.map kV)) (hl : EvL tb σ H ys) (nd : ks.Nodup) :
    EvQ (tDictZip K (tCons ta (tCons tb tNil))) σ H (fun v H1 H2 => ∃ d, v = .ref d ∧ H1 d = none ∧ H2 d = some (.dK (ks.zip ys))) := fun H1 e Q q => ht H1 e _ fun H2 e2 => hl H2 (e.trans e2) _ fun l H3 _ e3 h3 =>
  ⟨t, l, ks, ys, rfl, ex_t ((e.trans e2).trans e3) hs, sq_of h3, fun d hd => by
    rw [mergeK_zip (fun _ _ => rfl) nd, List.nil_append]
    exact q _ _ ((e2.trans e3).trans (Ex.new hd)) ⟨d, rfl, fresh_back (e2.trans e3) hd, upd_same⟩⟩
/-- a call as it was made behind H0, apart from p -/
def CallF (K : PySem.W.Frag) (H0 : Hp) (p : Addr) (H : Hp) (m : CallM) (v : V) : Prop := ∃ (x d r dx : Addr), v = .ref x ∧ H0 x = none ∧ H0 d = none ∧ H0 r = none ∧ x ≠ p ∧ d ≠ p ∧ r ≠ p ∧
  H x = some (.ins (He.ga K "Call") dx (callNames.zip ([.int m.n, .ref d, .ref r] : List V))) ∧ H d = some (.dK (m.told.map fun q => (Sum.inr q.1, V.int q.2))) ∧ H r = some (.lst (m.row.map V.int))
theorem CallF.stay {H0 : Hp} {m : CallM} {v : V} (e : ExB p H H') (h : CallF K H0 p H m v) : CallF K H0 p H' m v := by
  obtain ⟨x, d, r, dx, h1, h2, h3, h4, h5, h6, h7, h8, h9, h10⟩ := h
  exact ⟨x, d, r, dx, h1, h2, h3, h4, h5, h6, h7, e _ _ h5 h8, e _ _ h6 h9, e _ _ h7 h10⟩
abbrev s_split_calls : Stmt := topS 86
abbrev N_split_calls : List Str := ["calls", "parts", "at", "number", "names", "behind", "told", "row", "begin"]
theorem sc_split_calls : FnScope N_split_calls ["calls"] (defScope s_split_calls) := ⟨rfl, rfl, rfl, by decide +kernel, rfl, by decide +kernel, by decide +kernel⟩
def sp_split_calls (K : PySem.W.Frag) : Sp := fun vs H Q _ => ∃ (a : Addr) (l : List Int) (f : Nat) (raw : List (List (List Int))), vs = [.ref a] ∧ SqL K H a (l.map V.int) ∧ l.length ≤ 40000 ∧ PyFlat.calls shapeW f l = some raw ∧
  ∀ p xs H2, H p = none → Ex H H2 → H2 p = some (.lst xs) → Paired (CallF K H p H2) (raw.map callM) xs → Q (.ref p) H2
theorem wn_nodup : (wnT.map fun q => (Sum.inl q.1 : Key)).Nodup := by decide
theorem wn_keys : ∀ q ∈ wnT, (q.2.map (Sum.inr : Str → Key)).Nodup := by decide
/-- the fields of a turn: what is known behind it -/
def Turned (K : PySem.W.Frag) (H : Hp) (a p : Addr) (l : List Int) (raw : List (List (List Int))) (m : Nat) (σ : L2.St) (H' : Hp) : Prop := ∃ (i f : Nat) (done rest : List (List (List Int))) (acc : List V) (u3 u4 u5 u6 u7 u8 : Option V), m = l.length - i ∧ i ≤ l.length ∧ done.length ≤ i ∧
  σ = [some (.ref a), some (.ref p), some (.int (i : Nat)), u3, u4, u5, u6, u7, u8] ∧ PyFlat.calls shapeW f (l.drop i) = some rest ∧ raw = done ++ rest ∧ H p = none ∧ Ex H H' ∧ H' p = some (.lst acc) ∧ Paired (CallF K H p H') (done.map callM) acc
theorem str_map (ns : List Str) : ns.map V.str = (ns.map (Sum.inr : Str → Key)).map kV := by
  rw [List.map_map]
  rfl
theorem zip_told (ns : List Str) (xs : List Int) : (ns.map (Sum.inr : Str → Key)).zip (xs.map V.int) = (ns.zip xs).map fun q => (Sum.inr q.1, V.int q.2) := by
  induction ns generalizing xs with
  | nil => rfl
  | cons n ns ih =>
    cases xs with
    | nil => rfl
    | cons x xs =>
      exact congrArg _ (ih xs)
/-- behind the call's last number: it is made and kept -/
theorem turn_end {D : Ends} (T : Tx K mg) {a pp d r : Addr} {l : List Int} {raw done rest' : List (List (List Int))} {c : List (List Int)} {i i2 f' : Nat} {n : Int} {told : List (Str × Int)} {row : List Int} {acc : List V} {H0 H1 : Hp} {u4 u8 : Option V} {E : XK}
    (hD : D.nx = fun σ2 H2 => ∃ m', m' < l.length - i ∧ Turned K H0 a pp l raw m' σ2 H2) (hlt : i < i2) (hi2 : i2 ≤ l.length) (hdl : done.length ≤ i) (hz : l.length ≤ 40000) (hf' : PyFlat.calls shapeW f' (l.drop i2) = some rest') (hr : raw = done ++ c :: rest') (hc : callM c = ⟨n, told, row⟩)
    (hp0 : H0 pp = none) (e : Ex H0 H1) (hpa : H1 pp = some (.lst acc)) (hpr : Paired (CallF K H0 pp H1) (done.map callM) acc) (hd0 : H0 d = none) (hr0 : H0 r = none) (hdp : d ≠ pp) (hrp : r ≠ pp) (hd1 : H1 d = some (.dK (told.map fun q => (Sum.inr q.1, V.int q.2)))) (hr1 : H1 r = some (.lst (row.map V.int))) :
    tSeq (tDrop (tBM K "list" rAppend (tVar 1) (tCons (tMake (He.ga K "Call") (spPlain (He.ga K "Call") callNames) [] E (tCons (tVar 3) (tCons (tVar 6) (tCons (tVar 7) tNil)))) tNil))) (tAsg (tVar 5) (gName 2)) D [some (.ref a), some (.ref pp), some (.int (i : Nat)), some (.int n), u4, some (.int (i2 : Nat)), some (.ref d), some (.ref r), u8] H1 := by
  have hacc : acc.length = done.length := by rw [← hpr.length, List.length_map]
  refine q_appQ hpa (ev_var rfl) (eq_make (ea_cons (ev_var rfl) (ea_cons (ev_var rfl) (ea_cons (ev_var rfl) ea_nil))) (sp_plain_ok rfl)) (Nat.lt_of_le_of_lt (by omega : acc.length ≤ 90000) (by decide)) fun v H2 H3 e2 e3 hv => ?_
  obtain ⟨x, dx, rfl, hx2, hx3⟩ := hv
  have hxp : x ≠ pp := fun z => by
    rw [z, e2 _ _ hpa] at hx2
    cases hx2
  have eb : ExB pp H1 (upd H3 pp (.lst (acc ++ [.ref x]))) := exB_upd fun b o _ h => e3 b o (e2 b o h)
  refine s_asg (ev_var rfl) fun H4 e4 => ?_
  rw [hD]
  have eb4 : ExB pp H1 H4 := exB_ex eb e4
  refine ⟨l.length - i2, by omega, i2, f', done ++ [c], rest', acc ++ [.ref x], _, _, _, _, _, _, rfl, hi2, by rw [List.length_append, List.length_singleton]; omega, rfl, hf', by rw [hr, List.append_assoc]; rfl, hp0, exB_fresh hp0 e eb4, e4 _ _ upd_same, ?_⟩
  rw [List.map_append]
  refine Paired.snoc (Paired.mono (fun m v h => h.stay eb4) hpr) ?_
  rw [hc]
  exact ⟨x, d, r, dx, rfl, fresh_back (e.trans e2) hx2, hd0, hr0, hxp, hdp, hrp, e4 _ _ (by rw [upd_ne hxp]; exact hx3), eb4 _ _ hdp hd1, eb4 _ _ hrp hr1⟩
theorem ok_split_calls (T : Tx K mg) (Y : Tw P w K) : Own P w K mg base CX0 3 "split_calls" ["calls"] (sp_split_calls K) := by
  refine own_mk T.d_split_calls T.g_split_calls (fun _ _ _ _ _ _ us hl => match us, hl with | [_], _ => rfl) fun fd F => ?_
  refine F.ok sc_split_calls (fun vs H Q E h => by obtain ⟨a, _, _, _, rfl, _⟩ := h; rfl) (fun cdv A outer s H vs Q E hr h => ⟨_, PSs.nox
    (pss_cons (ps_set (i := 1) sc_split_calls.nd rfl (Or.inl rfl) (pe_lst pa_nil))
    (pss_cons (ps_set (i := 2) sc_split_calls.nd rfl (Or.inl rfl) pe_int)
    (pss_cons (ps_while PassesOwn.never (pt_cmpR op_lt (pv 2) (pe_callB call_len_seq (by rfl) T.b_len PySem.boot_len (pa_cons (pv 0) pa_nil)) (nomark _))
      (pss_cons (ps_set (i := 3) sc_split_calls.nd rfl (Or.inl rfl) (pe_ix ix_list (pv 0) (pv 2) (fun _ _ => rfl)))
      (pss_cons (ps_set (i := 4) sc_split_calls.nd rfl (Or.inl rfl) (pe_kget (pe_cref T.g_WHOLE_NUMBERS) (pv 3) (fun _ _ => rfl)))
      (pss_cons (ps_set (i := 5) sc_split_calls.nd rfl (Or.inl rfl) (pe_op op_add (pe_op op_add (pv 2) pe_int) (pe_callB call_len_seq (by rfl) T.b_len PySem.boot_len (pa_cons (pv 4) pa_nil))))
      (pss_cons (ps_set (i := 6) sc_split_calls.nd rfl (Or.inl rfl) (pe_dictZip rfl T.b_dict T.b_zip (pa_cons (pv 4) (pa_cons (pe_slice sl_list (pv 0) (po_some (pe_op op_add (pv 2) pe_int)) (po_some (pv 5))) pa_nil))))
      (pss_cons (ps_set (i := 7) sc_split_calls.nd rfl (Or.inl rfl) (pe_lst pa_nil))
      (pss_cons (ps_if (pt_cmpR op_in_seq (pv 3) (pe_cref T.g_WITH_LIST) (by with_unfolding_all rfl))
        (pss_cons (ps_set (i := 8) sc_split_calls.nd rfl (Or.inl rfl) (pe_op op_add (pv 5) pe_int))
        (pss_cons (ps_set (i := 5) sc_split_calls.nd rfl (Or.inl rfl) (pe_op op_add (pv 8) (pe_ix ix_list (pv 0) (pv 5) (fun _ _ => rfl))))
        (pss_one (ps_set (i := 7) sc_split_calls.nd rfl (Or.inl rfl) (pe_slice sl_list (pv 0) (po_some (pv 8)) (po_some (pv 5)))))))
        pss_nil)
      (pss_cons (ps_expr (pe_bm PySem.F.plainAttrs_list PySem.F.slot_list_append PySem.F.type_list_append mt_append (pv 1) (pa_cons (pe_ownMk (mk_Call T) hr (by decide) pass0 (pa_cons (pv 3) (pa_cons (pv 6) (pa_cons (pv 7) pa_nil)))) pa_nil)))
      (pss_one (ps_set (i := 2) sc_split_calls.nd rfl (Or.inl rfl) (pv 5)))))))))))
    (pss_one (ps_ret (pv 1)))))), ?_⟩)
  obtain ⟨a, l, f0, raw, rfl, hS, hz, hraw, k⟩ := h
  obtain ⟨as, has, hd, ht⟩ := Y.wn
  have sz : ∀ n, n ≤ 90000 → n < sizeLine := fun n h => Nat.lt_of_le_of_lt h (by decide)
  refine q_asgL (el_lst ea_nil (by decide)) fun p H1 hp e1 h1 => ?_
  refine q_asg ev_c fun H2 e2 => ?_
  refine q_while (Turned K H a p l raw) (l.length - 0) ⟨0, f0, [], raw, [], _, _, _, _, _, _, rfl, Nat.zero_le _, Nat.le_refl _, rfl, hraw, rfl, hp, e1.trans e2, e2 _ _ h1, .nil⟩ fun m σ' H' hW => ?_
  obtain ⟨i, f, done, rest, acc, u3, u4, u5, u6, u7, u8, rfl, hi, hdl, rfl, hf, hr, hp0, e, hpa, hpr⟩ := hW
  have hl : ((l.map V.int).length : Int) = (l.length : Int) := by rw [List.length_map]
  have hacc : acc.length = done.length := by rw [← hpr.length, List.length_map]
  refine ⟨decide ((i : Int) < (l.length : Int)), et_test (ev_op (ev_var rfl) (ev_is (ev_lenL (ev_var rfl) (ex_l e hS)) (congrArg V.int hl)) rv_cmp), fun hb H3 e3 => ⟨fun σ2 H2 => ∃ m', m' < l.length - i ∧ Turned K H a p l raw m' σ2 H2, fun σ2 H2 h => h, ?_⟩, fun hb H3 e3 => ?_⟩
  · have hlt : i < l.length := by
      have := of_decide_eq_true hb
      omega
    obtain ⟨n, ns, f', rest', hn, hns, hle, hcase⟩ := flat_step hf hlt
    have hmem := namesT_mem hns
    obtain ⟨tt, htt, hval⟩ := valV_tab (key := fun q : Int × List Str => (Sum.inl q.1 : Key)) has wn_nodup hmem
    have htS := ht _ htt
    have hnv : (l.map V.int)[i]? = some (.int n) := by rw [List.getElem?_map, hn]; rfl
    refine q_asg (ev_item (ev_var rfl) (ev_var rfl) (ex_l (e.trans e3) hS) hnv) fun H4 e4 => ?_
    refine q_asg (ev_kget (k := Sum.inl n) ev_c (ev_var rfl) hd hval) fun H5 e5 => ?_
    have hb5 : ((i : Int) + 1 + ((ns.map V.str).length : Int)) = ((i + 1 + ns.length : Nat) : Int) := by
      rw [List.length_map]
      omega
    refine q_asg (ev_is (ev_op (ev_op (ev_var rfl) ev_c rv_I0) (ev_lenT (ev_var rfl) (htS _)) rv_I0) (congrArg V.int hb5)) fun H6 e6 => ?_
    have e36 := ((e3.trans e4).trans e5).trans e6
    have hi1 : ((i : Int) + 1) = ((i + 1 : Nat) : Int) := by omega
    refine q_asgQ (eq_dictZip (ks := ns.map Sum.inr) (ev_var rfl) (by rw [← str_map]; exact htS _) (el_sl (ev_var rfl) (eo_some (ev_is (ev_op (ev_var rfl) ev_c rv_I0) (congrArg V.int hi1))) (eo_some (ev_var rfl)) (ex_l (e.trans e36) hS)) (wn_keys _ hmem)) fun v H7 e7 hv => ?_
    rw [cut_map _ _ _ _ (by omega) hle, zip_told, show i + 1 + ns.length - (i + 1) = ns.length by omega] at hv
    obtain ⟨d, rfl, hd6, hd7⟩ := hv
    refine q_asgL (el_lst ea_nil (by decide)) fun r0 H8 hr7 e8 hr8 => ?_
    have e38 := (e36.trans e7).trans e8
    rcases hcase with ⟨hwl, hf', hrest⟩ | ⟨hwl, mm, hmm, hle2, hf', hrest⟩
    · refine q_if (et_is (et_B (ev_op (ev_var rfl) ev_c (rv_isT (T.t_WITH_LIST _) rfl rfl))) (b := false) ?_) (fun h => Bool.noConfusion h) (fun _ H9 e9 => ?_)
      · show inV (.int n) (withListT.map V.int) = false
        rw [inV_ints, decide_eq_false hwl]
      have ee := (e38.trans e9)
      refine turn_end T (a := a) (pp := p) (d := d) (r := r0) (c := [n :: (l.drop (i + 1)).take ns.length]) (told := ns.zip ((l.drop (i + 1)).take ns.length)) (row := []) (i2 := i + 1 + ns.length) rfl (by omega) hle hdl hz hf' (by rw [hr, hrest]) (by unfold callM; dsimp only; rw [hns]; rfl) hp0 (e.trans ee) (ee _ _ hpa) (Paired.mono (fun m v h => h.stay fun b o _ z => ee b o z) hpr)
        (fresh_back (e.trans e36) hd6) (fresh_back (e.trans (e36.trans e7)) hr7) (fun z => ?_) (fun z => ?_) ((e8.trans e9) _ _ hd7) (e9 _ _ hr8)
      · rw [z, e36 _ _ hpa] at hd6
        cases hd6
      · rw [z, (e36.trans e7) _ _ hpa] at hr7
        cases hr7
    · refine q_if (et_is (et_B (ev_op (ev_var rfl) ev_c (rv_isT (T.t_WITH_LIST _) rfl rfl))) (b := true) ?_) (fun _ H9 e9 => ?_) (fun h => Bool.noConfusion h)
      · show inV (.int n) (withListT.map V.int) = true
        rw [inV_ints, decide_eq_true hwl]
      have ee := (e38.trans e9)
      have hb6 : (((i + 1 + ns.length : Nat) : Int) + 1) = ((i + 1 + ns.length + 1 : Nat) : Int) := by omega
      refine q_asg (ev_is (ev_op (ev_var rfl) ev_c rv_I0) (congrArg V.int hb6)) fun H10 e10 => ?_
      have hmv : (l.map V.int)[i + 1 + ns.length]? = some (.int (mm : Int)) := by rw [List.getElem?_map, hmm]; rfl
      have hb7 : (((i + 1 + ns.length + 1 : Nat) : Int) + (mm : Int)) = ((i + 1 + ns.length + 1 + mm : Nat) : Int) := by omega
      refine q_asg (ev_is (ev_op (ev_var rfl) (ev_item (ev_var rfl) (ev_var rfl) (ex_l (e.trans (ee.trans e10)) hS) hmv) rv_I0) (congrArg V.int hb7)) fun H11 e11 => ?_
      refine s_asgL (el_sl (ev_var rfl) (eo_some (ev_var rfl)) (eo_some (ev_var rfl)) (ex_l (e.trans ((ee.trans e10).trans e11)) hS)) fun r H12 hr11 e12 hr12 => ?_
      rw [cut_map _ _ _ _ (by omega) hle2, show i + 1 + ns.length + 1 + mm - (i + 1 + ns.length + 1) = mm by omega] at hr12
      have e11' := (ee.trans e10).trans e11
      have e12' := e11'.trans e12
      refine turn_end T (a := a) (pp := p) (d := d) (r := r) (c := [n :: (l.drop (i + 1)).take ns.length, (l.drop (i + 1 + ns.length + 1)).take mm]) (told := ns.zip ((l.drop (i + 1)).take ns.length)) (row := (l.drop (i + 1 + ns.length + 1)).take mm) (i2 := i + 1 + ns.length + 1 + mm) rfl (by omega) hle2 hdl hz hf' (by rw [hr, hrest]) (by unfold callM; dsimp only; rw [hns]; rfl) hp0 (e.trans e12') (e12' _ _ hpa) (Paired.mono (fun m v h => h.stay fun b o _ z => e12' b o z) hpr)
        (fresh_back (e.trans e36) hd6) (fresh_back (e.trans e11') hr11) (fun z => ?_) (fun z => ?_) (((((e8.trans e9).trans e10).trans e11).trans e12) _ _ hd7) hr12
      · rw [z, e36 _ _ hpa] at hd6
        cases hd6
      · rw [z, e11' _ _ hpa] at hr11
        cases hr11
  · have hge : i = l.length := by
      have := of_decide_eq_false hb
      omega
    subst hge
    have hrest : rest = [] := by
      rw [List.drop_length] at hf
      cases f <;> (cases hf; rfl)
    subst hrest
    rw [List.append_nil] at hr
    subst hr
    exact s_ret (ev_var rfl) fun H4 e4 => k p acc H4 hp0 ((e.trans e3).trans e4) (e4 _ _ (e3 _ _ hpa)) (Paired.mono (fun m v h => h.stay fun b o _ z => e4 b o (e3 b o z)) hpr)
end
end FB
-- S1
set_option Elab.async false
set_option linter.all false
set_option maxRecDepth 100000
set_option maxHeartbeats 3900000
namespace FB
open PySem PySem.Spec PyProof.Rows L2 Evl
/-! ### the round of a set's table: every slot is met -/
def Round (m : Nat) : Prop := ∀ i j, i ≤ m → j ≤ m → ∃ k, k ≤ m ∧ L2.lcgI m i k = j
theorem round_few {m : Nat} (h : L2.MaskOk m) : Round m := fun _ _ hi hj => L2.lcgI_all h hi hj
/-- 0, 1, 6, 31, .. -/
def pile : Nat → Nat
  | 0 => 0
  | n + 1 => 5 * pile n + 1
theorem pile_pow : ∀ n, 4 * pile n + 1 = 5 ^ n
  | 0 => rfl
  | n + 1 => by
    rw [Nat.pow_succ, ← pile_pow n]
    show 4 * (5 * pile n + 1) + 1 = _
    omega
theorem pile_eq (n : Nat) : pile n = (5 ^ n - 1) / 4 := by
  have := pile_pow n
  omega
theorem lcg_pile (m : Nat) : ∀ n, L2.lcgN m n = pile n % (m + 1)
  | 0 => (Nat.zero_mod _).symm
  | n + 1 => by
    show (L2.lcgN m n * 5 + 1) % (m + 1) = (5 * pile n + 1) % (m + 1)
    rw [lcg_pile m n, Nat.mul_comm 5, Nat.add_mod, Nat.mul_mod, Nat.mod_mod, ← Nat.mul_mod, ← Nat.add_mod]
/-- where each slot is met, nine bits a slot -/
def met512 : Nat := 4468787857980476533164663734598758827824996694020707554647417239928761376582149475807611687277831674804362451604368566222159614463728911774185775137901722601593377396385832411668716383752541602716924521737248710337593069969344436209782649446140881800212924290030812742044195984398971384348411578172885363354442229695781559087054623595918553837458528032967581933277136650519687878600972511259697916115397463337056684946778877836431144424378197657592452335446800294745055811753267783189239845820487177881370852500578285012491796684488515993378843621353813812119826611370487993108752123318591666987606149231033735676863350292245693600853776793904687154518568060628939906054607132853774686029484985271058803349762265915530292260336426475408105337081594468755984961496870766804537191814171727569350347809125761172330827710081649989300820243426109519306742491037866170964978040907870210206392118614811936786588543791089363315539253330020292340744425499967731273908497352541326766486820037908133636775710378521014981800346328150970146893815565979489985089934302123989640600716323330165559586314611651497353732478062295481884067586975197969747224599323302705978288978919409791965525152394542877509147045173310354026023074530040105149007281100615943031703589721389537005440580798693467776368045300552073677120617657038762429591915722225297287221414638672851945921864073233826234013370475764777472
theorem met_all : ((List.range 512).all fun j => ((5 ^ (met512 / 512 ^ j % 512) - 1) / 4) % 512 == j) = true := by decide +kernel
theorem lcg511 {j : Nat} (hj : j ≤ 511) : ∃ b, b ≤ 511 ∧ L2.lcgN 511 b = j := by
  have h := List.all_eq_true.mp met_all j (List.mem_range.mpr (Nat.lt_succ_of_le hj))
  refine ⟨met512 / 512 ^ j % 512, Nat.le_of_lt_succ (Nat.mod_lt _ (by decide)), ?_⟩
  rw [lcg_pile, pile_eq]
  exact eq_of_beq h
theorem lcg_again {m : Nat} (h : L2.lcgN m (m + 1) = 0) : ∀ k, L2.lcgN m (m + 1 + k) = L2.lcgN m k
  | 0 => h
  | k + 1 => congrArg (fun z => (z * 5 + 1) % (m + 1)) (lcg_again h k)
theorem round511 : Round 511 := fun i j hi hj => by
  obtain ⟨a, ha, rfl⟩ := lcg511 hi
  obtain ⟨b, hb, rfl⟩ := lcg511 hj
  have again := lcg_again (m := 511) (by rw [lcg_pile, pile_eq]; decide +kernel)
  by_cases c : a ≤ b
  · exact ⟨b - a, by omega, by rw [L2.lcgN_add, Nat.add_sub_cancel' c]⟩
  · refine ⟨b + 512 - a, by omega, ?_⟩
    rw [L2.lcgN_add, show a + (b + 512 - a) = 511 + 1 + b by omega, again]
/-- a run begins at each slot, soon enough -/
theorem round_run {m : Nat} (hm : Round m) (h : Int) {j : Nat} (hj : j ≤ m) : ∃ n, n ≤ m + 12 ∧ L2.runI m (SetTable.bits h) n = j := by
  obtain ⟨k, hk, e⟩ := hm _ j (L2.runI_le m (SetTable.bits h) 12) hj
  refine ⟨12 + k, by omega, ?_⟩
  rw [L2.runI_tail (L2.bits_lt h), e]
theorem round_way {m : Nat} (hm : Round m) (h : Int) {j : Nat} (hj : j ≤ m) : ∃ k, k < 10 * SetTable.turns m ∧ L2.way m h k = j := by
  obtain ⟨n, hn, e⟩ := round_run hm h hj
  obtain ⟨k, hk, e2⟩ := L2.run_nth m (SetTable.bits h) n
  refine ⟨k, ?_, (congrArg SetTable.Probe.j e2).trans e⟩
  unfold SetTable.turns
  omega
theorem way_in (m : Nat) (h : Int) (k : Nat) : L2.way m h k ≤ m := by
  have s0 : (L2.runAt m (SetTable.bits h % (m + 1)) (SetTable.bits h)).j + (L2.runAt m (SetTable.bits h % (m + 1)) (SetTable.bits h)).more ≤ m := by
    have lt : SetTable.bits h % (m + 1) ≤ m := Nat.le_of_lt_succ (Nat.mod_lt _ (Nat.succ_pos _))
    obtain ⟨b1, b2, _⟩ := L2.runEnd_bd lt
    exact Nat.le_trans (Nat.le_of_eq (Nat.add_sub_cancel' b2)) b1
  have := L2.nth_in k _ s0
  show (L2.nth m _ k).j ≤ m
  omega
/-- a table, and the hashes of what it holds; from each hash its slot is met before an empty one -/
structure Tb (t : SetTable) (hs : List Int) : Prop where
  up : L2.Ris t.place.toList
  clean : t.dummies = #[]
  same : t.place.toList.length = hs.length
  round : Round t.mask
  odd : t.mask % 2 = 1
  inside : ∀ x ∈ t.place.toList, x ≤ t.mask
  reach : ∀ p ∈ t.place.toList.zip hs, ∃ k, L2.way t.mask p.2 k = p.1 ∧ ∀ k' < k, L2.way t.mask p.2 k' ∈ t.place.toList
/-- the first empty slot on the way of a hash -/
def FirstAt (t : SetTable) (h : Int) (n : Nat) : Prop := L2.way t.mask h n ∉ t.place.toList ∧ ∀ k < n, L2.way t.mask h k ∈ t.place.toList
theorem Tb.first {t : SetTable} {hs : List Int} (T : Tb t hs) (few : hs.length ≤ t.mask) (h : Int) : ∃ n, n < 10 * SetTable.turns t.mask ∧ FirstAt t h n := by
  obtain ⟨j, hj, no⟩ := L2.st_missing t.place.toList (t.mask + 1) (by rw [T.same]; omega)
  obtain ⟨k, hk, e⟩ := round_way T.round h (Nat.le_of_lt_succ hj)
  obtain ⟨n, le, h1, h2⟩ := L2.st_least (p := fun k => L2.way t.mask h k ∉ t.place.toList) k (by show L2.way t.mask h k ∉ _; rw [e]; exact no)
  exact ⟨n, Nat.lt_of_le_of_lt le hk, h1, fun k hk => Classical.byContradiction (h2 k hk)⟩
theorem Tb.ahead {t : SetTable} {hs : List Int} (T : Tb t hs) {h : Int} {n j : Nat} (F : FirstAt t h n) (hj : (j, h) ∈ t.place.toList.zip hs) : ∃ k, k < n ∧ L2.way t.mask h k = j := by
  obtain ⟨k, e, b⟩ := T.reach _ hj
  refine ⟨k, Nat.lt_of_not_le fun c => ?_, e⟩
  rcases Nat.lt_or_eq_of_le c with c | c
  · exact F.1 (b n c)
  · exact F.1 (by rw [c, e]; exact (List.of_mem_zip hj).1)
theorem zip_ins {α β : Type} (x : α) (y : β) : ∀ (p : Nat) (a : List α) (b : List β), a.length = b.length → (a.take p ++ x :: a.drop p).zip (b.take p ++ y :: b.drop p) = (a.zip b).take p ++ (x, y) :: (a.zip b).drop p
  | 0, _, _, _ => rfl
  | p + 1, [], [], _ => rfl
  | p + 1, u :: a, v :: b, h => congrArg ((u, v) :: ·) (zip_ins x y p a b (by simpa using h))
/-- put at the first empty slot -/
theorem Tb.put {t : SetTable} {hs : List Int} (T : Tb t hs) {h : Int} {n : Nat} (F : FirstAt t h n) : Tb (t.put (L2.way t.mask h n)).1 (hs.take (SetTable.below t.place (L2.way t.mask h n)) ++ h :: hs.drop (SetTable.below t.place (L2.way t.mask h n))) := by
  have pl := L2.put_place t (L2.way t.mask h n)
  have mem : ∀ x, x ∈ (t.put (L2.way t.mask h n)).1.place.toList ↔ x = L2.way t.mask h n ∨ x ∈ t.place.toList := fun x => by
    rw [pl]
    exact L2.mem_ins
  have len : ∀ {α : Type} (l : List α) (p : Nat) (x : α), (l.take p ++ x :: l.drop p).length = l.length + 1 := fun l p x => by
    rw [List.length_append, List.length_cons, ← Nat.add_assoc, ← List.length_append, List.take_append_drop]
  refine ⟨?_, L2.put_dm T.clean _, ?_, T.round, T.odd, fun x hx => ?_, fun p hp => ?_⟩
  · refine L2.ris_insert T.up fun z => F.1 ?_
    exact List.mem_of_getElem? (by rw [Array.getElem?_toList]; exact z)
  · rw [pl, len, len, T.same]
  · rcases (mem x).mp hx with rfl | old
    · exact way_in ..
    · exact T.inside x old
  · rw [pl, zip_ins _ _ _ _ _ T.same] at hp
    show ∃ k, L2.way t.mask p.2 k = p.1 ∧ ∀ k' < k, L2.way t.mask p.2 k' ∈ (t.put (L2.way t.mask h n)).1.place.toList
    rcases L2.mem_ins.mp hp with rfl | old
    · exact ⟨n, rfl, fun k hk => (mem _).mpr (.inr (F.2 k hk))⟩
    · obtain ⟨k, e, b⟩ := T.reach p old
      exact ⟨k, e, fun k' hk => (mem _).mpr (.inr (b k' hk))⟩
end FB
-- S2
set_option Elab.async false
set_option linter.all false
set_option maxRecDepth 100000
set_option maxHeartbeats 3900000
namespace FB
open PySem PySem.Spec PyProof.Rows L2 Evl
/-! ### a table laid anew -/
section
variable {m : Nat} {owner : Array (Option Nat)}
theorem oAt_put {j : Nat} (hj : j < owner.size) (v : Option Nat) (i : Nat) : L2.oAt (owner.setIfInBounds j v) i = if i = j then v else L2.oAt owner i := by
  by_cases c : i = j
  · rw [if_pos c, c]
    exact L2.oAt_set_self v hj
  · rw [if_neg c]
    exact L2.oAt_set_ne v c
/-- the first free slot on the way is the one that is taken -/
theorem free_first (hm : Round m) (h : Int) {j : Nat} (hj : j ≤ m) (no : L2.oAt owner j = none) :
    ∃ n, L2.oAt owner (L2.way m h n) = none ∧ (∀ k < n, L2.oAt owner (L2.way m h k) ≠ none) ∧ SetTable.layClean.free m owner (SetTable.turns m) (SetTable.bits h % (m + 1)) (SetTable.bits h) = some (L2.way m h n) := by
  obtain ⟨r, hr, e⟩ := round_run hm h hj
  have at_ : L2.way m h (L2.off m (SetTable.bits h % (m + 1)) (SetTable.bits h) r) = j := by
    have q := congrArg SetTable.Probe.j (L2.nth_off m r (SetTable.bits h % (m + 1)) (SetTable.bits h))
    rw [L2.itL_run] at q
    exact q.trans e
  obtain ⟨n, le, h1, h2⟩ := L2.st_least (p := fun k => L2.oAt owner (L2.way m h k) = none) _ (show L2.oAt owner (L2.way m h _) = none by rw [at_]; exact no)
  refine ⟨n, h1, h2, L2.free_spec m owner _ r _ _ n (by unfold SetTable.turns; omega) le (fun k hk => ?_) (Option.isNone_iff_eq_none.mpr h1)⟩
  exact Bool.eq_false_iff.mpr fun z => h2 k hk (Option.isNone_iff_eq_none.mp z)
theorem lay_one (hm : Round m) {done : List Int} (O : L2.Own m done owner) (room : done.length ≤ m) (h : Int) : ∃ j, SetTable.layClean.free m owner (SetTable.turns m) (SetTable.bits h % (m + 1)) (SetTable.bits h) = some j ∧ L2.Own m (done ++ [h]) (owner.setIfInBounds j (some done.length)) := by
  obtain ⟨seats, sl, taken⟩ := O.ps
  obtain ⟨e0, lt0, out0⟩ := L2.st_missing seats (m + 1) (by omega)
  have empty0 : L2.oAt owner e0 = none := Classical.byContradiction fun z => out0 (taken e0 (Nat.le_of_lt_succ lt0) z)
  obtain ⟨n, f1, f2, f3⟩ := free_first hm h (Nat.le_of_lt_succ lt0) empty0
  have inb : L2.way m h n < owner.size := by rw [O.sz]; exact Nat.lt_succ_of_le (way_in m h n)
  have now := oAt_put inb (some done.length)
  have still : ∀ i, L2.oAt owner i ≠ none → L2.oAt (owner.setIfInBounds (L2.way m h n) (some done.length)) i ≠ none := fun i z => by
    rw [now]
    split
    · exact Option.some_ne_none _
    · exact z
  refine ⟨_, f3, (Array.size_setIfInBounds ..).trans O.sz, fun j k hj e => ?_, fun k hk => ?_, L2.way m h n :: seats, ?_, fun j hj z => ?_⟩
  · rw [now] at e
    split at e
    · rename_i c
      cases e
      exact ⟨h, n, by simp, c.symm, fun k' hk' => still _ (f2 k' hk')⟩
    · obtain ⟨h', n', a1, a2, a3⟩ := O.at_ j k hj e
      exact ⟨h', n', by rw [List.getElem?_append_left (List.getElem?_eq_some_iff.mp a1).1]; exact a1, a2, fun k' hk' => still _ (a3 k' hk')⟩
  · rcases Nat.lt_or_ge k done.length with old | new
    · obtain ⟨j, hj, e⟩ := O.all k old
      refine ⟨j, hj, ?_⟩
      rw [now, if_neg (fun z => by rw [z, f1] at e; cases e)]
      exact e
    · have ek : k = done.length := by simp at hk; omega
      exact ⟨_, way_in m h n, by rw [now, if_pos rfl, ek]⟩
  · simp [sl]
  · rw [now] at z
    split at z
    · rename_i c
      rw [c]
      exact List.mem_cons_self ..
    · exact List.mem_cons_of_mem _ (taken j hj z)
theorem lay_rest (hm : Round m) : ∀ (rest : List Int) {done : List Int} {owner : Array (Option Nat)}, L2.Own m done owner → done.length + rest.length ≤ m → ∃ owner', rest.foldl (L2.stepF m) (some (owner, done.length)) = some (owner', (done ++ rest).length) ∧ L2.Own m (done ++ rest) owner'
  | [], done, owner, O, _ => ⟨owner, by simp, by simpa using O⟩
  | h :: rest, done, owner, O, room => by
    rw [List.length_cons] at room
    obtain ⟨j, e, O2⟩ := lay_one hm O (by omega) h
    obtain ⟨o3, e3, O3⟩ := lay_rest hm rest O2 (by simp; omega)
    rw [List.append_assoc] at e3 O3
    refine ⟨o3, ?_, O3⟩
    rw [List.foldl_cons, L2.stepF_some e]
    simpa using e3
theorem lay_all (hm : Round m) {hs : Array Int} (room : hs.size ≤ m) : ∃ owner, SetTable.layClean m hs = some owner ∧ L2.Own m hs.toList owner := by
  obtain ⟨o, e, O⟩ := lay_rest hm hs.toList (L2.Own.init m) (by simpa using room)
  rw [List.nil_append] at O
  refine ⟨o, ?_, O⟩
  rw [L2.layClean_eq]
  exact congrArg (Option.map (·.1)) e
end
/-- the table laid anew keeps to its word -/
theorem relaid_tb (t : SetTable) {hs : Array Int} {wanted M : Nat} (hw : SetTable.sizeAbove wanted - 1 = M) (hM : Round M) (odd : M % 2 = 1) (room : hs.size ≤ M) :
    ∃ t' order, t.relaid hs wanted = some (t', order) ∧ order.toList.Perm (List.range hs.size) ∧ Tb t' (order.toList.map fun i => hs.getD i 0) ∧ t'.mask = M ∧ t'.led = t.led ∧ t'.plain = t.plain := by
  obtain ⟨owner, e, O⟩ := lay_all hM room
  have rel : t.relaid hs wanted = some (L2.tabOf t M owner, ((L2.liveOf M owner).map (·.2)).toArray) := by rw [L2.relaid_eq, hw, e]; rfl
  obtain ⟨up, _⟩ := L2.ris_live (fun j => owner.getD j none) (List.range (M + 1)) List.pairwise_lt_range
  have up : L2.Ris ((L2.liveOf M owner).map (·.1)) := up
  have live : ∀ {j k : Nat}, (j, k) ∈ L2.liveOf M owner ↔ j ≤ M ∧ L2.oAt owner j = some k := fun {j k} => L2.mem_live O.sz
  have every : ∀ k < hs.size, k ∈ (L2.liveOf M owner).map (·.2) := fun k hk => by
    obtain ⟨j, b1, b2⟩ := O.all k (by simpa using hk)
    exact List.mem_map.mpr ⟨(j, k), live.mpr ⟨b1, b2⟩, rfl⟩
  have count : ((L2.liveOf M owner).map (·.2)).length = hs.size := by
    obtain ⟨seats, s1, s2⟩ := O.ps
    have nd : ((L2.liveOf M owner).map (·.1)).Nodup := List.Pairwise.imp (fun z => Nat.ne_of_lt z) (show List.Pairwise (fun x y => x < y) ((L2.liveOf M owner).map (·.1)) from up)
    have most := L2.nat_nodup_len ((L2.liveOf M owner).map (·.1)) seats nd fun x hx => by
      obtain ⟨⟨y, k⟩, hq, rfl⟩ := List.mem_map.mp hx
      obtain ⟨b1, b2⟩ := live.mp hq
      exact s2 _ b1 (by rw [b2]; exact Option.some_ne_none _)
    have least := L2.nat_nodup_len (List.range hs.size) ((L2.liveOf M owner).map (·.2)) List.nodup_range fun k hk => every k (List.mem_range.mp hk)
    simp only [List.length_map, List.length_range, Array.length_toList] at most least s1 ⊢
    omega
  refine ⟨_, _, rel, L2.perm_range _ _ (by simpa using count) (by simpa using every), ⟨up, rfl, ?_, hM, odd, fun x hx => ?_, fun p hp => ?_⟩, rfl, rfl, rfl⟩
  · show ((L2.liveOf M owner).map (·.1)).length = (((L2.liveOf M owner).map (·.2)).map fun i => hs.getD i 0).length
    simp
  · obtain ⟨⟨y, k⟩, hq, rfl⟩ := List.mem_map.mp (show x ∈ (L2.liveOf M owner).map (·.1) from hx)
    exact (live.mp hq).1
  · have hp2 : p ∈ ((L2.liveOf M owner).map (·.1)).zip (((L2.liveOf M owner).map (·.2)).map fun i => hs.getD i 0) := hp
    rw [List.map_map, List.zip_map'] at hp2
    obtain ⟨⟨y, k⟩, hq, rfl⟩ := List.mem_map.mp hp2
    obtain ⟨b1, b2⟩ := live.mp hq
    obtain ⟨h0, n, a1, a2, a3⟩ := O.at_ y k b1 b2
    have eh : hs.getD k 0 = h0 := by
      rw [Array.getElem?_toList] at a1
      rw [Array.getD_eq_getD_getElem?, a1]
      rfl
    show ∃ n, L2.way M (hs.getD k 0) n = y ∧ ∀ k' < n, L2.way M (hs.getD k 0) k' ∈ (L2.liveOf M owner).map (·.1)
    rw [eh]
    refine ⟨n, a2, fun k' hk' => ?_⟩
    obtain ⟨k2, e2⟩ := Option.ne_none_iff_exists'.mp (a3 k' hk')
    exact List.mem_map.mpr ⟨(_, k2), live.mpr ⟨way_in .., e2⟩, rfl⟩
end FB
-- S3
set_option Elab.async false
set_option linter.all false
set_option maxRecDepth 100000
set_option maxHeartbeats 3900000
namespace FB
open PySem PySem.Spec PyProof.Rows L2 Evl
/-! ### a set of tuples, and how one is sought in it -/
structure TSet (P : Program) (w : World) (h : Heap) (a : Addr) (L : List (Addr × List Int)) (es : Array (Int × Value)) (ep : Nat) (t : SetTable) : Prop where
  obj : ∃ o, h.get? a = some o ∧ o.ExactSet ∧ o.data = .set es ep t
  rows : es.toList = L2.rowsOf P w L
  tab : Tb t (L.map fun p => L2.thash P w p.2)
  once : (L.map (·.2)).Nodup
  tups : ∀ p ∈ L, L2.IsT P w h p.2 p.1
  plain : t.plain = true
  ordered : w.params.followText "set-order" = true ∨ t.led = true
  wide : L.length * 5 < t.mask * 3
  size : t.mask = 7 ∨ t.mask = 31 ∨ t.mask = 127 ∨ t.mask = 511
section
variable {P : Program} {w : World} {A : Around} {E : Value → Shared → Prop} {s : Shared} {a : Addr} {L : List (Addr × List Int)} {es : Array (Int × Value)} {ep : Nat} {t : SetTable}
theorem rows_len (h : es.toList = L2.rowsOf P w L) : es.size = L.length := by
  rw [← Array.length_toList, h]
  exact List.length_map ..
theorem row_at (h : es.toList = L2.rowsOf P w L) {i : Nat} {p : Addr × List Int} (hp : L[i]? = some p) : es[i]? = some (L2.thash P w p.2, Value.ref p.1) := by
  rw [← Array.getElem?_toList, h]
  show (L.map _)[i]? = _
  rw [List.getElem?_map, hp]
  rfl
theorem fits_of (T : Tb t (L.map fun p => L2.thash P w p.2)) (h : es.toList = L2.rowsOf P w L) (le : L.length ≤ t.mask) : t.fits es.size = true := by
  have e1 := T.same
  rw [List.length_map, Array.length_toList] at e1
  (unfold SetTable.fits SetTable.fill)
  rw [T.clean, rows_len h, e1]
  simp
  exact le
theorem TSet.fits (S : TSet P w s.heap a L es ep t) : t.fits es.size = true := fits_of S.tab S.rows (by have := S.wide; omega)
theorem nth_plain (m : Nat) : ∀ (n : Nat) (p : SetTable.Probe), p.dummy = none → (L2.nth m p n).dummy = none
  | 0, _, h => h
  | n + 1, p, h => nth_plain m n _ (by unfold L2.adv; split <;> exact h)
/-- where a key's way begins -/
abbrev beg (t : SetTable) (h : Int) : SetTable.Probe := L2.runAt t.mask (SetTable.bits h % (t.mask + 1)) (SetTable.bits h)
/-- the search, from the c-th step on -/
theorem seek (S : TSet P w s.heap a L es ep t) {x : Addr} {k : List Int} (hx : L2.IsT P w s.heap k x) (hu : A.units < cLine) {n : Nat} (few : n < 10 * SetTable.turns t.mask) (F : FirstAt t (L2.thash P w k) n) {Q : SetFound → Shared → Prop}
    (yes : k ∈ L.map (·.2) → Q (.there none) s) (no : k ∉ L.map (·.2) → Q (.free (L2.way t.mask (L2.thash P w k) n) false) s) :
    ∀ (f c : Nat) (st : Option SetTable.Probe), st.getD (t.probeStart (L2.thash P w k)) = L2.nth t.mask (beg t (L2.thash P w k)) c → c ≤ n → n < f + c →
      (∀ (i : Nat) p, L[i]? = some p → p.2 = k → ∃ d, c ≤ d ∧ d < n ∧ t.place.toList[i]? = some (L2.way t.mask (L2.thash P w k) d)) → wpAny (model P w) A (setSearchFrom a (.ref x) (L2.thash P w k) true f st) Q E s := by
  obtain ⟨o, at_, exact_, data_⟩ := S.obj
  have lp : t.place.toList.length = L.length := by rw [S.tab.same, List.length_map]
  have hash : ∀ (i : Nat) p, L[i]? = some p → (es[i]?.map (·.1)).getD 0 = L2.thash P w p.2 := fun i p hp => by rw [row_at S.rows hp]; rfl
  intro f
  induction f with
  | zero =>
    intro c st _ h1 h2 _
    omega
  | succ f ih =>
    intro c st hst hc hf todo
    have step : ∀ d, (L2.nth t.mask (L2.nth t.mask (beg t (L2.thash P w k)) c) d).j = L2.way t.mask (L2.thash P w k) (c + d) := fun d => congrArg SetTable.Probe.j (L2.nth_add t.mask c _ d).symm
    rw [L2.setSearchFrom_succ]
    refine wpAny_bind (wpAny_setState_of at_ data_ S.fits (L2.wp_if_neg (fun z => ?_) ?_))
    · unfold SetTable.gaveWay at z
      rw [S.tab.odd] at z
      cases z
    -- what is met next
    rcases L2.go_spec t S.tab.up S.tab.clean (fun i => (es[i]?.map (·.1)).getD 0) (L2.thash P w k) (10 * SetTable.turns t.mask) (n - c) _ (nth_plain t.mask c _ rfl) (by omega) (fun d hd => by rw [step]; exact F.2 _ (by omega)) (by rw [step, Nat.add_sub_cancel' hc]; exact F.1) with ⟨d, i, hd, hi, hh, past, met⟩ | ⟨past, met⟩
    · rw [step] at hi
      have met2 : t.probe (fun i => (es[i]?.map (·.1)).getD 0) (L2.thash P w k) (st.getD (t.probeStart (L2.thash P w k))) = some (.candidate (L2.way t.mask (L2.thash P w k) (c + d)) i (L2.nth t.mask (beg t (L2.thash P w k)) (c + (d + 1)))) := by
        rw [hst, ← step, L2.nth_add]
        exact met
      rw [met2]
      have il : i < L.length := by rw [← lp]; exact (List.getElem?_eq_some_iff.mp hi).1
      have hp : L[i]? = some L[i] := List.getElem?_eq_getElem il
      have there := S.tups _ (List.getElem_mem il)
      have alive := L2.slot_live S.tab.up hi
      have rest : wpAny (model P w) A (L2.searchRest a (.ref x) (L2.thash P w k) true f es t (L2.way t.mask (L2.thash P w k) (c + d)) i (L2.nth t.mask (beg t (L2.thash P w k)) (c + (d + 1)))) Q E s := by
        unfold L2.searchRest
        rw [row_at S.rows hp]
        refine wpAny_bind (wpAny_holding (wpAny_eqBool_tuple hu there hx (wpAny_bind (wpAny_setState_of at_ data_ S.fits ?_))))
        by_cases same : L[i].2 = k
        · exact L2.wp_if_pos (by simp [same]) (wpAny_pure (yes (List.mem_map.mpr ⟨_, List.getElem_mem il, same⟩)))
        · refine L2.wp_if_neg (by simp [same]) ?_
          rw [L2.sameMem]
          simp only [if_true, alive, row_at S.rows hp]
          refine (wpAny_bind (wpAny_isSame_ref_self (wpAny_bind (wpAny_pure ?_))))
          simp only [if_true]
          refine L2.wp_if_neg (by simp [same]) (ih (c + (d + 1)) _ rfl (by omega) (by omega) fun i2 p2 h2 k2 => ?_)
          obtain ⟨d2, q1, q2, q3⟩ := todo i2 p2 h2 k2
          have n1 : ¬ d2 < c + d := fun z => past (d2 - c) i2 (by omega) (by rw [step, Nat.add_sub_cancel' q1]; exact q3) ((hash i2 p2 h2).trans (by rw [k2]))
          have n2 : c + d ≠ d2 := fun z => by
            rw [← z] at q3
            have again := L2.slot_live S.tab.up q3
            rw [alive] at again
            injection again with again
            rw [← again, hp] at h2
            cases h2
            exact same k2
          exact ⟨d2, by omega, q2, q3⟩
      by_cases led : t.led = true
      · exact L2.wp_if_neg (by simp [led]) rest
      · refine L2.wp_if_pos (by simp [led]) (wpAny_bind (L2.seen_tup hx (fun y hy => ?_) (L2.wp_if_neg (by decide) rest)))
        obtain ⟨e, he, rfl⟩ := List.mem_map.mp hy
        have he : e ∈ es.toList := by
          simp at he
          simpa using he.1
        rw [S.rows] at he
        obtain ⟨p2, hp2, rfl⟩ := List.mem_map.mp he
        exact ⟨p2.2, p2.1, rfl, S.tups p2 hp2⟩
    · rw [step, Nat.add_sub_cancel' hc] at met
      have met2 : t.probe (fun i => (es[i]?.map (·.1)).getD 0) (L2.thash P w k) (st.getD (t.probeStart (L2.thash P w k))) = some (.empty (L2.way t.mask (L2.thash P w k) n) none) := by
        rw [hst]
        exact met
      rw [met2]
      refine wpAny_pure (no fun z => ?_)
      obtain ⟨p, hp, rfl⟩ := List.mem_map.mp z
      obtain ⟨i, il, rfl⟩ := List.getElem_of_mem hp
      obtain ⟨d, q1, q2, q3⟩ := todo i _ (List.getElem?_eq_getElem il) rfl
      exact past (d - c) i (by omega) (by rw [step, Nat.add_sub_cancel' q1]; exact q3) (hash i _ (List.getElem?_eq_getElem il))
theorem seek_all (S : TSet P w s.heap a L es ep t) {x : Addr} {k : List Int} (hx : L2.IsT P w s.heap k x) (hu : A.units < cLine) {Q : SetFound → Shared → Prop} (yes : k ∈ L.map (·.2) → Q (.there none) s)
    (no : ∀ n, k ∉ L.map (·.2) → FirstAt t (L2.thash P w k) n → Q (.free (L2.way t.mask (L2.thash P w k) n) false) s) : wpAny (model P w) A (setSearch a (.ref x) (L2.thash P w k) true) Q E s := by
  have room := S.wide
  obtain ⟨n, hn, F⟩ := S.tab.first (by rw [List.length_map]; omega) (L2.thash P w k)
  have lp : t.place.toList.length = L.length := by rw [S.tab.same, List.length_map]
  have big : n < 100000 := by
    unfold SetTable.turns at hn
    rcases S.size with e | e | e | e <;> rw [e] at hn <;> omega
  refine seek S hx hu hn F yes (fun z => no n z F) 100000 0 none rfl (Nat.zero_le _) (by omega) fun i p hp hk => ?_
  have il : i < L.length := (List.getElem?_eq_some_iff.mp hp).1
  have q : t.place.toList[i]? = some (t.place.toList[i]'(by omega)) := List.getElem?_eq_getElem _
  obtain ⟨d, hd, e⟩ := S.tab.ahead (j := t.place.toList[i]'(by omega)) F (List.mem_iff_getElem?.mpr ⟨i, by
    rw [List.getElem?_zip_eq_some]
    exact ⟨q, by rw [List.getElem?_map, hp, ← hk]; rfl⟩⟩)
  exact ⟨d, Nat.zero_le _, hd, by rw [q, e]⟩
end
end FB
-- SE1
set_option Elab.async false
set_option linter.all false
set_option maxRecDepth 100000
set_option maxHeartbeats 3900000
namespace FB
open PySem PySem.Spec PyProof.Rows L2 Evl
/-! ### set(l), l a list: the machine's part, whatever is put in -/
abbrev setO (w : World) : Obj := { cls := .type "set", dict := none, data := .set #[] 0 (.fresh 0 0 (!w.params.followText "set-order")) }
abbrev litO (l : Addr) : Obj := { cls := .type "list_iterator", data := .fields #[.ref l, .int 0 0] }
/-- all that stood stands -/
abbrev Kp (h h' : Heap) : Prop := ∀ b o, h.get? b = some o → h'.get? b = some o
section
variable {P : Program} {w : World} {A : Around} {E : Value → Shared → Prop} {s : Shared} {l : Addr} {items : Array Value} {Q : Value → Shared → Prop} {Fi : Heap → Prop}
/-- what __init__ comes to -/
theorem set_init_list (hl : s.heap.IsList l items) {R : Result → Shared → Prop}
    (loop : codeAny (model P w) A.in1.in1 (.builtin "set.update.loop" ⟨[.ref s.heap.objs.size, .ref (s.heap.push (setO w)).objs.size], []⟩) R { s with heap := (s.heap.push (setO w)).push (litO l) })
    (hR : ∀ r s', R r s' → r = .ok (.ret .none)) :
    wpAny (model P w) A.in1.in1 (Builtin.«set.__init__» ⟨[.ref s.heap.objs.size, .ref l], []⟩) (fun fl s' => fl = .done (.ret .none) ∧ R (.ok (.ret .none)) s') E { s with heap := s.heap.push (setO w) } := by
  obtain ⟨⟨cl, dc, dt, sl⟩, at_, c1, n, c2⟩ := hl
  simp only at c1 c2
  subst c1 c2
  have hS : (s.heap.push (setO w)).get? s.heap.objs.size = some (setO w) := Heap.get?_push_size _ rfl
  have isSet : Shared.TypeIs { s with heap := s.heap.push (setO w) } (.ref s.heap.objs.size) "set" := ⟨_, hS, rfl⟩
  have at2 : (s.heap.push (setO w)).get? l = some { cls := .type "list", dict := dc, data := .seq items n, slots := sl } := Heap.get?_push_of_some _ at_
  have a1 := PySem.F.sub_list_set
  have a2 := PySem.F.sub_list_frozenset
  have a3 : (Value.type "list" == Value.type "dict") = false := by decide
  have isL : (s.heap.push (setO w)).IsList l items := ⟨_, at2, rfl, n, rfl⟩
  (unfold Builtin.«set.__init__» noKeywords Builtin.Frozenset.updateFrom)
  generalize it : pyIter = walk
  wp_walk
  subst it
  refine wpAny_pyIter_list isL (wpAny_bind (wpAny_runValue (codeAny_mono loop fun r s' z => ?_)))
  obtain rfl := hR r s' z
  exact wpAny_pure (wpAny_pure ⟨rfl, z⟩)
/-- set(l) -/
theorem set_of_list (hl : s.heap.IsList l items)
    (loop : ∀ R : Result → Shared → Prop, (∀ h' tk, Kp s.heap h' → Fi h' → R (.ok (.ret .none)) { s with heap := h', toks := tk }) → codeAny (model P w) A.in1.in1 (.builtin "set.update.loop" ⟨[.ref s.heap.objs.size, .ref (s.heap.push (setO w)).objs.size], []⟩) R { s with heap := (s.heap.push (setO w)).push (litO l) })
    (h : ∀ h' tk, Kp s.heap h' → Fi h' → Q (.ref s.heap.objs.size) { s with heap := h', toks := tk }) : wpAny (model P w) A (call (.type "set") [.ref l]) Q E s := by
  obtain ⟨c0, tl0, b1⟩ := PySem.F.called_set.mro
  have b2 := PySem.F.called_set.made
  have b3 := PySem.F.called_set.sub
  have b4 := PySem.F.called_set.notType
  have b5 := PySem.F.called_set.canCreate
  have b6 := PySem.F.typeCall_set_1 (.ref l)
  refine wpAny_call (codeAny_of_tree (wpAny_pure ⟨Code.quiet_builtin _ (by decide +kernel), codeAny_builtin PySem.F.entry_type_call ?_⟩))
  (rw [Around.under_plain (weight_type_call_type "set" [.ref l] []) rfl])
  repeat any_goals (first | assumption | wp_step)
  refine codeAny_mono (L2.code_set_led1 (.ref l) (E := E) (Q₁ := fun v s1 => v = .ref s.heap.objs.size ∧ s1 = { s with heap := s.heap.push (setO w) }) ⟨rfl, rfl⟩) fun r s1 z => ?_
  match r, z with
  | .error e, z => exact z
  | .ok (.ret v), z =>
    obtain ⟨rfl, rfl⟩ := z
    have hS : (s.heap.push (setO w)).get? s.heap.objs.size = some (setO w) := Heap.get?_push_size _ rfl
    have isSet : Shared.TypeIs { s with heap := s.heap.push (setO w) } (.ref s.heap.objs.size) "set" := ⟨_, hS, rfl⟩
    have b7 := PySem.F.called_set.init.lookup
    have b8 := PySem.F.called_set.init.bind (.ref s.heap.objs.size)
    repeat any_goals (first | assumption | wp_step)
    refine codeAny_mono (codeAny_call_builtin (R := fun r s2 => r = .ok (.ret .none) ∧ ∃ h' tk, s2 = { s with heap := h', toks := tk } ∧ Kp s.heap h' ∧ Fi h') PySem.F.called_set.init.plain PySem.F.entry_set_init (check_set_init_1 isSet ?_)) fun r s2 z => ?_
    · refine wpAny_mono (set_init_list (E := fun _ _ => False) hl (loop (fun r s2 => r = .ok (.ret .none) ∧ ∃ h' tk, s2 = { s with heap := h', toks := tk } ∧ Kp s.heap h' ∧ Fi h') fun h' tk z1 z2 => ⟨rfl, h', tk, rfl, z1, z2⟩) fun r s2 z => z.1) (fun fl s2 z => ?_) fun _ _ z => z.elim
      obtain ⟨rfl, z⟩ := z
      exact z
    · obtain ⟨rfl, h', tk, rfl, z1, z2⟩ := z
      repeat any_goals (first | assumption | wp_step)
      exact h h' tk z1 z2
end
end FB
-- S4
set_option Elab.async false
set_option linter.all false
set_option maxRecDepth 100000
set_option maxHeartbeats 3900000
namespace FB
open PySem PySem.Spec PyProof.Rows L2 Evl
theorem big5 : SetTable.sizeAbove (SetTable.grown 5) = 32 := by decide +kernel
theorem big19 : SetTable.sizeAbove (SetTable.grown 19) = 128 := by decide +kernel
theorem big77 : SetTable.sizeAbove (SetTable.grown 77) = 512 := by decide +kernel
section
variable {P : Program} {w : World} {A : Around} {E : Value → Shared → Prop} {s : Shared} {a : Addr} {L : List (Addr × List Int)} {es : Array (Int × Value)} {ep : Nat} {t : SetTable}
/-- laid anew, four times as large -/
theorem tset_grow {o : Obj} {M : Nat} (at_ : s.heap.get? a = some o) (ex : o.ExactSet) (dt : o.data = .set es ep t) (rows : es.toList = L2.rowsOf P w L) (T : Tb t (L.map fun p => L2.thash P w p.2)) (le : L.length ≤ t.mask) (once : (L.map (·.2)).Nodup) (tups : ∀ p ∈ L, L2.IsT P w s.heap p.2 p.1)
    (pl : t.plain = true) (led : w.params.followText "set-order" = true ∨ t.led = true) (hM : SetTable.sizeAbove (SetTable.grown L.length) = M + 1) (rd : Round M) (odd : M % 2 = 1) (fit : L.length * 5 < M * 3) (sz : M = 7 ∨ M = 31 ∨ M = 127 ∨ M = 511) {Q : Unit → Shared → Prop}
    (hQ : ∀ h' L' es' ep' t', Heap.SameBut a s.heap h' → TSet P w h' a L' es' ep' t' → L'.Perm L → Q () { s with heap := h' }) : wpAny (model P w) A (setRelay a (SetTable.grown L.length)) Q E s := by
  have sl := rows_len rows
  obtain ⟨t2, order, e, pm, T2, em, el, epl⟩ := relaid_tb t (hs := es.map (·.1)) (wanted := SetTable.grown L.length) (M := M) (by rw [hM]; rfl) rd odd (by rw [Array.size_map, sl]; omega)
  rw [Array.size_map, sl] at pm
  obtain ⟨L2', r1, r2, r3⟩ := L2.order_rows L es order rows pm
  rw [← r3] at T2
  have sl2 := rows_len r1
  have small : SetTable.sizeAbove (SetTable.grown L.length) ≤ sizeLine := by
    rw [hM, sizeLine_eq]
    rcases sz with z | z | z | z <;> omega
  rw [L2.setRelay_eq]
  refine wpAny_bind (wpAny_setState_of at_ dt (fits_of T rows le) (L2.wp_if_neg (Nat.not_lt.mpr small) ?_))
  rw [e]
  refine wpAny_bind (L2.wp_if_neg (by rw [sl2, r2.length_eq, sl]; simp) (wpAny_pure ?_))
  have sb := Heap.SameBut.update s.heap a (Obj.putSet (order.filterMap fun i => es[i]?) t2)
  refine wpAny_storeSet_of at_ dt (hQ _ L2' _ (ep + 1) t2 sb ⟨⟨_, L2.store_at at_ dt, ⟨ex.1, ex.2.1, ex.2.2⟩, rfl⟩, r1, T2, (r2.map (·.2)).nodup_iff.mpr once, fun p hp => L2.isT_same (tups p (r2.mem_iff.mp hp)) at_ dt sb, by rw [epl]; exact pl, by rw [el]; exact led, by rw [r2.length_eq, em]; exact fit, by rw [em]; exact sz⟩ r2) ?_
  rw [sl2, r2.length_eq, sizeLine_eq]
  rcases sz with z | z | z | z <;> omega
/-- one more -/
theorem tset_add (S : TSet P w s.heap a L es ep t) {x : Addr} {k : List Int} (hx : L2.IsT P w s.heap k x) (hu : A.units < cLine) (few : L.length < 300) {Q : Bool → Shared → Prop}
    (hQ : ∀ b h' L' es' ep' t', Heap.SameBut a s.heap h' → TSet P w h' a L' es' ep' t' → (k ∈ L.map (·.2) → L' = L) → (k ∉ L.map (·.2) → L'.Perm ((x, k) :: L)) → Q b { s with heap := h' }) : wpAny (model P w) A (setAddHashed a (.ref x) (L2.thash P w k)) Q E s := by
  obtain ⟨o, at_, ex, dt⟩ := S.obj
  have room := S.wide
  have sl := rows_len S.rows
  unfold setAddHashed
  rw [show (100000 : Nat) = 99999 + 1 from rfl, L2.setAddHashedIn_succ]
  refine wpAny_holding (wpAny_bind (wpAny_setState_of at_ dt S.fits (L2.wp_if_neg (by simp [byScan, Value.scannable]) (wpAny_bind (seek_all S hx hu (fun z => ?_) fun n z F => ?_)))))
  · exact wpAny_pure (hQ false s.heap L es ep t (Heap.SameBut.refl ..) S (fun _ => rfl) fun z2 => absurd z z2)
  refine wpAny_bind (wpAny_setState_of at_ dt S.fits ?_)
  have T2 := S.tab.put F
  -- the new rows
  obtain ⟨q, hq⟩ : ∃ q, q = SetTable.below t.place (L2.way t.mask (L2.thash P w k) n) := ⟨_, rfl⟩
  rw [← hq] at T2
  have pm := L2.put_perm L q (x, k)
  have rows2 : (SetTable.insertAt es q (L2.thash P w k, Value.ref x)).toList = L2.rowsOf P w (L.take q ++ (x, k) :: L.drop q) := by rw [SetTable.toList_insertAt, L2.rows_put, S.rows]
  rw [show (L.map fun p => L2.thash P w p.2).take q ++ L2.thash P w k :: (L.map fun p => L2.thash P w p.2).drop q = (L.take q ++ (x, k) :: L.drop q).map fun p => L2.thash P w p.2 by rw [List.map_append, List.map_cons, List.map_take, List.map_drop]] at T2
  have eput : t.put (L2.way t.mask (L2.thash P w k) n) = ((t.put (L2.way t.mask (L2.thash P w k) n)).1, q) := by rw [hq]; rfl
  have pl2 : (t.put (L2.way t.mask (L2.thash P w k) n)).1.plain = true := S.plain
  have led2 : w.params.followText "set-order" = true ∨ (t.put (L2.way t.mask (L2.thash P w k) n)).1.led = true := S.ordered
  have mask2 : (t.put (L2.way t.mask (L2.thash P w k) n)).1.mask = t.mask := rfl
  have fill2 : (t.put (L2.way t.mask (L2.thash P w k) n)).1.fill = L.length + 1 := by
    have e1 := T2.same
    rw [List.length_map, pm.length_eq, List.length_cons, Array.length_toList] at e1
    unfold SetTable.fill
    rw [T2.clean, e1]
    rfl
  have once2 : ((L.take q ++ (x, k) :: L.drop q).map (·.2)).Nodup := (pm.map (·.2)).nodup_iff.mpr (List.nodup_cons.mpr ⟨z, S.once⟩)
  dsimp only
  rw [eput]
  generalize (t.put (L2.way t.mask (L2.thash P w k) n)).1 = t2 at T2 pl2 led2 mask2 fill2 ⊢
  generalize hL2 : L.take q ++ (x, k) :: L.drop q = L2' at T2 rows2 pm once2
  have len2 : L2'.length = L.length + 1 := pm.length_eq
  have sl2 := rows_len rows2
  dsimp only
  refine L2.wp_if_pos pl2 (wpAny_bind (L2.hashBy_tup hx ?_))
  simp only [if_true]
  refine wpAny_bind (wpAny_storeSet_of at_ dt ?_ (by rw [sl2, len2, sizeLine_eq]; omega))
  have sb := Heap.SameBut.update s.heap a (Obj.putSet (SetTable.insertAt es q (L2.thash P w k, Value.ref x)) t2)
  have at2 := L2.store_at (es' := SetTable.insertAt es q (L2.thash P w k, Value.ref x)) (t' := t2) at_ dt
  have tups2 : ∀ p ∈ L2', L2.IsT P w (s.heap.update a (Obj.putSet (SetTable.insertAt es q (L2.thash P w k, Value.ref x)) t2)) p.2 p.1 := fun p hp => by
    rcases List.mem_cons.mp (pm.mem_iff.mp hp) with rfl | old
    · exact L2.isT_same hx at_ dt sb
    · exact L2.isT_same (S.tups p old) at_ dt sb
  cases full : t2.tooFull with
  | false =>
    refine L2.wp_if_neg (by simp) (wpAny_pure (hQ true _ L2' _ (ep + 1) t2 sb ⟨⟨_, at2, ⟨ex.1, ex.2.1, ex.2.2⟩, rfl⟩, rows2, T2, once2, tups2, pl2, led2, ?_, by rw [mask2]; exact S.size⟩ (fun z2 => absurd z2 z) fun _ => pm))
    unfold SetTable.tooFull at full
    have := of_decide_eq_false full
    rw [fill2] at this
    omega
  | true =>
    have over : (L.length + 1) * 5 ≥ t.mask * 3 := by
      have := of_decide_eq_true (show decide (t2.fill * 5 ≥ t2.mask * 3) = true from full)
      rw [fill2, mask2] at this
      exact this
    have go : ∀ M, SetTable.sizeAbove (SetTable.grown L2'.length) = M + 1 → Round M → M % 2 = 1 → L2'.length * 5 < M * 3 → (M = 7 ∨ M = 31 ∨ M = 127 ∨ M = 511) →
        wpAny (model P w) A (setRelay a (SetTable.grown (es.size + 1))) (fun _ s2 => wpAny (model P w) A (pure true) Q E s2) E { s with heap := s.heap.update a (Obj.putSet (SetTable.insertAt es q (L2.thash P w k, Value.ref x)) t2) } := fun M h1 h2 h3 h4 h5 => by
      rw [show es.size + 1 = L2'.length by rw [sl, len2]]
      exact tset_grow (s := { s with heap := s.heap.update a (Obj.putSet (SetTable.insertAt es q (L2.thash P w k, Value.ref x)) t2) }) at2 ⟨ex.1, ex.2.1, ex.2.2⟩ rfl rows2 T2 (by rw [len2, mask2]; rcases S.size with e | e | e | e <;> omega) once2 tups2 pl2 led2 h1 h2 h3 h4 h5 fun h' L3 es3 ep3 t3 sb3 S3 pm3 => wpAny_pure (hQ true h' L3 es3 ep3 t3 (sb.trans sb3) S3 (fun z2 => absurd z2 z) fun _ => pm3.trans pm)
    refine L2.wp_if_pos (by simp) (wpAny_bind ?_)
    rcases S.size with e | e | e | e
    · have l5 : L2'.length = 5 := by omega
      exact go 31 (by rw [l5]; exact big5) (round_few (.inr (.inl rfl))) rfl (by omega) (by decide)
    · have l19 : L2'.length = 19 := by omega
      exact go 127 (by rw [l19]; exact big19) (round_few (.inr (.inr rfl))) rfl (by omega) (by decide)
    · have l77 : L2'.length = 77 := by omega
      exact go 511 (by rw [l77]; exact big77) round511 rfl (by omega) (by decide)
    · exfalso
      omega
end
end FB
-- S5
set_option Elab.async false
set_option linter.all false
set_option maxRecDepth 100000
set_option maxHeartbeats 3900000
namespace FB
open PySem PySem.Spec PyProof.Rows L2 Evl
section
variable {P : Program}
variable {w : World} {A : Around} {E : Value → Shared → Prop} {s : Shared}
theorem isT_kp {h h' : Heap} {k : List Int} {b : Addr} (x : L2.IsT P w h k b) (kp : Kp h h') : L2.IsT P w h' k b := by
  obtain ⟨o, its, n, at_, r⟩ := x
  exact ⟨o, its, n, kp b o at_, r⟩
/-- what the loop knows behind its i-th turn: over the heap h0 in which the tuples stand -/
structure Turn (P : Program) (w : World) (h0 : Heap) (S : Addr) (ks : List (Addr × List Int)) (i : Nat) (h : Heap) : Prop where
  kp : Kp h0 h
  set : ∃ L es ep t, TSet P w h S L es ep t ∧ L2.Got ks i L
theorem Turn.move {h0 h h' : Heap} {S : Addr} {ks : List (Addr × List Int)} {i : Nat} (T : Turn P w h0 S ks i h) (hk : ∀ p ∈ ks, L2.IsT P w h0 p.2 p.1) (kp : Kp h0 h') (at_ : ∀ o, h.get? S = some o → h'.get? S = some o) : Turn P w h0 S ks i h' := by
  obtain ⟨L, es, ep, t, X, G⟩ := T.set
  obtain ⟨o, z1, z2⟩ := X.obj
  exact ⟨kp, L, es, ep, t, ⟨⟨o, at_ o z1, z2⟩, X.rows, X.tab, X.once, fun p hp => isT_kp (hk p (List.mem_of_mem_take (G.sub p hp))) kp, X.plain, X.ordered, X.wide, X.size⟩, G⟩
theorem loop_tups {I : Addr} {fp wr : List Addr} {G : Array GenState → Array GenState → Prop} {n : Nat} {Pv : Nat → Value → Prop} {St : Nat → Shared → Prop} {R : Result → Shared → Prop} {S : Addr} {h0 : Heap} {ks : List (Addr × List Int)} (W : WalksS P w A.in1 I fp wr G n Pv St) (out : S ∉ fp) (hn : n = ks.length) (few : ks.length ≤ 300)
    (val : ∀ i v, Pv i v → ∃ p, ks[i]? = some p ∧ v = .ref p.1) (hk : ∀ p ∈ ks, L2.IsT P w h0 p.2 p.1) (s0 : h0.get? S = none) (w0 : ∀ b ∈ wr, h0.get? b = none) (hu : A.in1.units < cLine)
    (hR : ∀ s2, Moved (S :: wr) G s s2 → Turn P w h0 S ks n s2.heap → R (.ok (.ret .none)) s2) :
    ∀ (d i : Nat) (s1 : Shared), i + d = n → St i s1 → Moved (S :: wr) G s s1 → Turn P w h0 S ks i s1.heap → codeAny (model P w) A (.builtin "set.update.loop" ⟨[.ref S, .ref I], []⟩) R s1 := by
  have nw : S ∉ wr := fun z => out (W.sub _ z)
  have wider : ∀ {u v : Shared}, Moved wr G u v → Moved (S :: wr) G u v := fun m => m.mono fun b hb => List.mem_cons_of_mem _ hb
  have kept : ∀ {u v : Shared}, Moved wr G u v → Kp h0 u.heap → Kp h0 v.heap := fun m k b o e => m.heap b o (fun z => by rw [w0 b z] at e; cases e) (k b o e)
  intro d
  induction d with
  | zero =>
    intro i s1 hi st mv T
    obtain rfl : i = n := hi
    refine (codeAny_builtin PyProof.Rows.F.entry_set_update_loop ?_)
    rw [Around.under_plainId PyProof.Rows.F.plain_set_update_loop]
    refine wpAny_bind (W.done s1 _ _ st fun s2 m => wpAny_pure (hR s2 (Moved.trans W.gtrans mv (wider m)) (T.move hk (kept m T.kp) fun o e => m.heap S o nw e)))
  | succ d ih =>
    intro i s1 hi st mv T
    refine (codeAny_builtin PyProof.Rows.F.entry_set_update_loop ?_)
    rw [Around.under_plainId PyProof.Rows.F.plain_set_update_loop]
    refine wpAny_bind (W.item i s1 _ _ (by omega) st fun v s2 hv st2 m => ?_)
    obtain ⟨p, hp, rfl⟩ := val i v hv
    have T2 := T.move hk (kept m T.kp) fun o e => m.heap S o nw e
    obtain ⟨L, es, ep, t, X, Gt⟩ := T2.set
    have isp := isT_kp (hk p (List.mem_of_getElem? hp)) T2.kp
    refine (wpAny_bind (wpAny_holding ?_))
    unfold setAdd
    refine wpAny_holding (wpAny_bind (wpAny_pyHash_tuple hu isp ?_))
    have lt : i < ks.length := (List.getElem?_eq_some_iff.mp hp).1
    refine tset_add (s := { s2 with toks := s2.toks + (p.2.length + 1) }) X isp hu (by have := Gt.len; omega) fun b h' L' es' ep' t' sb X' c1 c2 => ?_
    have G2 : L2.Got ks (i + 1) L' := by
      by_cases c : p.2 ∈ L.map (·.2)
      · rw [c1 c]
        exact Gt.same hp c
      · exact Gt.more hp (c2 c)
    have kp2 : Kp h0 h' := fun b o e => (sb.2 b fun z => by rw [z, s0] at e; cases e).trans (T2.kp b o e)
    refine wpAny_pure ⟨plainId_quiet PyProof.Rows.F.plain_set_update_loop _, ih (i + 1) _ (by omega) (W.frame _ s2 _ _ st2 (Nat.le_add_right ..) fun b hb o e => (sb.2 b fun z => out (z ▸ hb)).trans e) (Moved.trans W.gtrans mv ((wider m).then_heap (Nat.le_add_right ..) fun b o hb e => (sb.2 b fun z => hb (by rw [z]; exact List.mem_cons_self ..)).trans e)) ⟨kp2, L', es', ep', t', X', G2⟩⟩
/-- set(l) of a list of tuples of whole numbers -/
theorem set_of_tups {l : Addr} {items : Array Value} {Q : Value → Shared → Prop} (ks : List (Addr × List Int)) (hh : A.handled = none) (hl : s.heap.IsList l items) (hi : items.toList = ks.map fun p => Value.ref p.1) (hk : ∀ p ∈ ks, L2.IsT P w s.heap p.2 p.1) (few : ks.length ≤ 300) (hu : A.units + 3 < cLine)
    (h : ∀ h' tk, Kp s.heap h' → Turn P w s.heap s.heap.objs.size ks ks.length h' → Q (.ref s.heap.objs.size) { s with heap := h', toks := tk }) : wpAny (model P w) A (call (.type "set") [.ref l]) Q E s := by
  have sz : items.size = ks.length := by rw [← Array.length_toList, hi, List.length_map]
  have lS : l < s.heap.objs.size := by
    obtain ⟨o, at_, _⟩ := hl
    exact Heap.lt_size at_
  have z1 : (s.heap.push (setO w)).objs.size = s.heap.objs.size + 1 := Heap.size_push ..
  have none_ : ∀ b, s.heap.objs.size ≤ b → s.heap.get? b = none := fun b hb => Heap.get?_none_of_le hb
  refine set_of_list (Fi := Turn P w s.heap s.heap.objs.size ks ks.length) hl (fun R hR => ?_) h
  have lI : l ≠ (s.heap.push (setO w)).objs.size := by rw [z1]; exact Nat.ne_of_lt (Nat.lt_succ_of_lt lS)
  have h3 : A.in1.in1.in1.handled = none := hh
  have isL : (s.heap.push (setO w)).IsList l items := hl.push _
  have W := (Walks.list (prog := P) (w := w) h3 (s.heap.push (setO w)).objs.size l lI items).toS
  have fresh : TSet P w ((s.heap.push (setO w)).push (litO l)) s.heap.objs.size [] #[] 0 (.fresh 0 0 (!w.params.followText "set-order")) := by
    refine ⟨⟨_, Heap.get?_push_of_some _ (Heap.get?_push_size _ rfl), ⟨rfl, rfl, rfl⟩, rfl⟩, rfl, ⟨List.Pairwise.nil, rfl, rfl, round_few (.inl rfl), show 7 % 2 = 1 from rfl, fun x z => (nomatch z), fun p z => nomatch z⟩, List.nodup_nil, fun p z => (nomatch z), rfl, ?_, show 0 * 5 < 7 * 3 by decide, .inl rfl⟩
    show w.params.followText "set-order" = true ∨ (!w.params.followText "set-order") = true
    cases (w.params.followText "set-order")
    · exact .inr rfl
    · exact .inl rfl
  refine loop_tups (s := { s with heap := (s.heap.push (setO w)).push (litO l) }) (h0 := s.heap) (ks := ks) W (fun z => ?_) sz few (fun i v hv => ?_) hk (none_ _ (Nat.le_refl _)) (fun b hb => none_ b ?_) hu (fun s2 mv T => ?_) items.size 0 _ (Nat.zero_add _) ⟨⟨_, Heap.get?_push_size _ rfl, rfl, rfl⟩, isL.push _⟩ ⟨fun b o _ e => e, W.grefl _, rfl, rfl, Nat.le_refl _⟩ ⟨fun b o e => Heap.get?_push_of_some _ (Heap.get?_push_of_some _ e), [], #[], 0, _, fresh, L2.Got.zero ks⟩
  · obtain z | z := List.mem_cons.mp z
    · rw [z1] at z
      exact Nat.ne_of_lt (Nat.lt_succ_self _) z
    · exact Nat.ne_of_gt lS (List.mem_singleton.mp z)
  · have hv : items[i]? = some v := hv
    rw [← Array.getElem?_toList, hi, List.getElem?_map] at hv
    rcases Option.map_eq_some_iff.mp hv with ⟨p, hp, rfl⟩
    exact ⟨p, hp, rfl⟩
  · rw [List.mem_singleton.mp hb, z1]
    exact Nat.le_succ _
  · have e2 : s2 = { s with heap := s2.heap, toks := s2.toks } := by
      obtain ⟨a1, a2, a3, a4, a5⟩ := s2
      obtain ⟨b1, b2, b3, b4, b5⟩ := s
      have m1 := mv.gens
      have m2 := mv.drawn
      have m3 := mv.os
      dsimp only at m1 m2 m3 ⊢
      rw [m1, m2, m3]
    rw [sz] at T
    rw [e2]
    exact hR s2.heap s2.toks T.kp T
end
/-- len(set(e)), e a list of tuples of whole numbers: how many there are, and whether one is there twice -/
def tLenSetW (K : PySem.W.Frag) (ta : TE) : TE := fun σ H Q => ta σ H fun x H1 => ∃ (l : Addr) (ks : List (Addr × List Int)), x = V.ref l ∧ SqL K H1 l (ks.map fun p => V.ref p.1) ∧ (∀ p ∈ ks, SqT K H1 p.1 (p.2.map V.int)) ∧ ks.length ≤ 300 ∧ ∀ n : Nat, n ≤ ks.length → (n = ks.length ↔ (ks.map (·.2)).Nodup) → Q (.int n) H1
theorem got_len {ks L : List (Addr × List Int)} (G : L2.Got ks ks.length L) (nd : (L.map (·.2)).Nodup) : L.length ≤ ks.length ∧ (L.length = ks.length ↔ (ks.map (·.2)).Nodup) := by
  have sub : ∀ p ∈ L, p ∈ ks := fun p hp => List.mem_of_mem_take (G.sub p hp)
  have all : ∀ p ∈ ks, p.2 ∈ L.map (·.2) := fun p hp => G.all p (by rw [List.take_length]; exact hp)
  have key : ∀ {a b : List (List Int)}, a.Nodup → (∀ x ∈ a, x ∈ b) → a.length ≤ b.length := by
    intro a
    induction a with
    | nil => exact fun _ _ => Nat.zero_le _
    | cons x a ih =>
      intro b n s
      obtain ⟨n1, n2⟩ := List.nodup_cons.mp n
      have hx := s x (List.mem_cons_self ..)
      have := ih (b := b.erase x) n2 fun y hy => (List.mem_erase_of_ne (fun (e : y = x) => n1 (by rw [← e]; exact hy))).mpr (s y (List.mem_cons_of_mem _ hy))
      rw [List.length_erase_of_mem hx] at this
      have pos := List.length_pos_of_mem hx
      rw [List.length_cons]
      omega
  have le : L.length ≤ ks.length := by
    have := key nd (b := ks.map (·.2)) fun x hx => by
      obtain ⟨p, hp, rfl⟩ := List.mem_map.mp hx
      exact List.mem_map.mpr ⟨p, sub p hp, rfl⟩
    simpa using this
  refine ⟨le, fun e => ?_, fun n => ?_⟩
  · apply Classical.byContradiction
    intro bad
    have : ∀ {a : List (List Int)}, ¬ a.Nodup → ∃ b : List (List Int), b.length < a.length ∧ ∀ x ∈ a, x ∈ b := by
      intro a
      induction a with
      | nil => exact fun z => absurd List.nodup_nil z
      | cons x a ih =>
        intro z
        by_cases c : x ∈ a
        · exact ⟨a, Nat.lt_succ_self _, fun y hy => (List.mem_cons.mp hy).elim (fun e => by rw [e]; exact c) id⟩
        · obtain ⟨b, h1, h2⟩ := ih fun n => z (List.nodup_cons.mpr ⟨c, n⟩)
          exact ⟨x :: b, Nat.succ_lt_succ h1, fun y hy => (List.mem_cons.mp hy).elim (fun e => by rw [e]; exact List.mem_cons_self ..) fun h => List.mem_cons_of_mem _ (h2 y h)⟩
    obtain ⟨b, h1, h2⟩ := this bad
    have := key nd (b := b) fun x hx => by
      obtain ⟨p, hp, rfl⟩ := List.mem_map.mp hx
      exact h2 _ (List.mem_map.mpr ⟨p, sub p hp, rfl⟩)
    simp only [List.length_map] at this h1
    omega
  · have := key n (b := L.map (·.2)) fun x hx => by
      obtain ⟨p, hp, rfl⟩ := List.mem_map.mp hx
      exact all p hp
    simp only [List.length_map] at this
    omega
theorem pe_lenSetW {X : Cx} {j : Nat} {a : Expr} {ta : TE} {p p2 q pos : Pos} (hc : X.calm = true) (hr : Room j X.A) (hm : X.mg "len" = none) (hm2 : X.mg "set" = none) (ha : PE X a ta) (hg : Gl X "len" := by rfl) (hg2 : Gl X "set" := by rfl)
    (na : starEach [a] X.env = (false, eval a X.env) :: starEach [] X.env := by rfl) : PE X (.Call (.Name "len" p) [.Call (.Name "set" p2) [a] [] q] [] pos) (tLenSetW X.K ta) := by
  refine ⟨fun pins s σ H Q J h => Call_ (ld_blt J hg hm PySem.boot_len (PyProof.Rows.callWith_builtin1 (PyProof.Rows.args_cons (Call_ (ld_blt J hg2 hm2 PyProof.Rows.boot_set (PyProof.Rows.callWith_type1 (PyProof.Rows.args_cons (thn (ha.run pins s σ H _ J h) fun v s1 ⟨x, H1, J1, r1, q1⟩ => PyProof.Rows.args_nil ?_) na) na rfl))) rfl) rfl rfl))⟩
  obtain ⟨l, ks, rfl, hq, ht, few, q2⟩ := q1
  cases r1
  obtain ⟨its, rv, pl, hz⟩ := J1.list hq
  refine set_of_tups ks (J1.ok.hd hc) pl.isList (by simpa using L2.refs_of_vals rv) (fun p hp => J1.isT (ht p hp)) few (by have := hr.un; omega) fun h' tk kp T => PyProof.Rows.args_nil ?_
  obtain ⟨L, es, ep, t, X', G⟩ := T.set
  obtain ⟨o, at_, ex, dt⟩ := X'.obj
  have J2 : Inv X pins σ H1 { s1 with heap := h', toks := tk } := J1.kept kp
  obtain ⟨le, iff_⟩ := got_len G X'.once
  have sl := rows_len X'.rows
  exact call_len_set at_ ex dt (X'.fits (s := { s1 with heap := h' })) (by rw [sl]; omega) ⟨.int L.length, H1, J2.tok _, ⟨_, by rw [sl]⟩, q2 L.length le iff_⟩
end FB
-- H1
set_option Elab.async false
set_option linter.all false
set_option maxRecDepth 100000
set_option maxHeartbeats 3900000
namespace FB
open PySem PySem.Spec PyProof.Rows L2 Evl
section
variable {K : PySem.W.Frag} {mg : Str → Option Value} {P : Program} {base : Heap} {w : World}
abbrev s_has_name_twice : Stmt := topS 104
abbrev N_has_name_twice : List Str := ["fees", "names", "fee"]
theorem sc_has_name_twice : FnScope N_has_name_twice ["fees"] (defScope s_has_name_twice) := ⟨rfl, rfl, rfl, by decide +kernel, rfl, by decide +kernel, by decide +kernel⟩
def twiceM (ms : List FeeM) : Bool := !decide ((ms.map (·.name)).Nodup)
def sp_has_name_twice (K : PySem.W.Frag) : Sp := fun vs H Q _ => ∃ (p : Addr) (ms : List FeeM) (xs : List V), vs = [.ref p] ∧ SqL K H p xs ∧ Paired (fun m v => ∃ b, v = V.ref b ∧ FeeAt K H m b) ms xs ∧ ms.length ≤ 300 ∧ RetV (.bl (twiceM ms)) H Q
theorem paired_split {α : Type} {R : α → Addr → Prop} {ms : List α} {xs : List V} (h : Paired (fun m v => ∃ b, v = V.ref b ∧ R m b) ms xs) : ∃ ks : List (α × Addr), ms = ks.map (·.1) ∧ xs = ks.map (fun q => V.ref q.2) ∧ ∀ q ∈ ks, R q.1 q.2 := by
  induction h with
  | nil => exact ⟨[], rfl, rfl, fun q hq => nomatch hq⟩
  | @cons m v l1 l2 h t ih =>
    obtain ⟨b, rfl, hb⟩ := h
    obtain ⟨ks, rfl, rfl, hk⟩ := ih
    refine ⟨(m, b) :: ks, rfl, rfl, fun q hq => ?_⟩
    rcases List.mem_cons.mp hq with rfl | later
    · exact hb
    · exact hk q later
theorem q_asgR {α : Type} {σ : L2.St} {H : Hp} {te : TE} {tz : TS} {D : Ends} {j : Nat} {Pr : α → V → Addr → Hp → Prop} {l : List α} (h : EvR te σ H Pr l) (k : ∀ p xs H2, H p = none → Ex H H2 → H2 p = some (.lst xs) → Paired (fun a v => Pr a v p H2) l xs → tz D (σ.set j (some (.ref p))) H2) : tSeq (tAsg te (gName j)) tz D σ H :=
  h H (Ex.refl H) _ fun p xs H2 hp e h2 hs => k p xs H2 hp e h2 hs
theorem ok_has_name_twice (T : Tx K mg) : Own P w K mg base CX0 1 "has_name_twice" ["fees"] (sp_has_name_twice K) := by
  refine own_mk T.d_has_name_twice T.g_has_name_twice (fun _ _ _ _ _ _ us hl => match us, hl with | [_], _ => rfl) fun fd F => ?_
  refine F.ok sc_has_name_twice (fun vs H Q E h => by obtain ⟨a, ms, xs, rfl, _⟩ := h; rfl) (fun cdv A outer s H vs Q E hr h => ⟨_, PSs.nox
    (pss_cons (ps_setLc (i := 1) (own := [("fee", 2)]) (g := gName 2) (tt := tYes) rfl sc_has_name_twice.nd rfl rfl (sw_true rfl rfl rfl (by decide +kernel)) (pi_list (pv 0)) (blkOk_by (N := N_has_name_twice) (sc := defScope s_has_name_twice) (by decide +kernel)) (fun _ _ _ _ _ => by exact (pg_name (i := 2) sc_has_name_twice.nd rfl (Or.inl rfl))) (fun _ _ _ _ _ => by exact pts_nil) (fun _ _ _ _ _ => by exact (pe_callTy (T := "tuple") (call_tupleK (K := K) rfl) (by rfl) T.b_tuple (by decide +kernel) (pa_cons (pe_fldK (K := K) rfl (pv 2) (by rfl)) pa_nil))))
    (pss_one (ps_ret (pe_cmpR op_lt (pe_lenSetW rfl hr T.b_len T.b_set (pv 1)) (pe_callB call_len_seq (by rfl) T.b_len PySem.boot_len (pa_cons (pv 1) pa_nil)) (nomark _))))), ?_⟩)
  obtain ⟨a, ms, xs, rfl, hS, hp, hz, k⟩ := h
  obtain ⟨ks, rfl, rfl, hk⟩ := paired_split hp
  rw [List.length_map] at hz
  refine q_asgR (l := ks) (Pr := fun q v D H => ∃ t, v = V.ref t ∧ t ≠ D ∧ H t = some (.tup (q.1.name.map V.int))) (er_map (P0 := fun q v H1 H2 => ∃ t, v = V.ref t ∧ H1 t = none ∧ H2 t = some (.tup (q.1.name.map V.int))) (fun q => V.ref q.2) (fun q v H1 H2 D hD _ _ h => ?_) (fun q v D H H' eb h => ?_)
    (by rw [← List.length_map (fun q : FeeM × Addr => V.ref q.2)]; exact ei_list (ev_var rfl) hS) (fun _ _ h => h) (by omega) (fun _ => rfl) (fun q H1 e1 hq => ?_)) fun p ts H1 hp0 e1 h1 hts => ?_
  · obtain ⟨t, rfl, h1, h2⟩ := h
    exact ⟨t, rfl, fun z => hD (by rw [← z]; exact h1), h2⟩
  · obtain ⟨t, rfl, h1, h2⟩ := h
    exact ⟨t, rfl, h1, eb t _ h1 h2⟩
  · obtain ⟨dx, l, h1, h2⟩ := (hk q hq).stay e1
    have hn : (feeNames.zip (feeV l q.1)).lookup ("name" : Str) = some (.ref l) := lk_here
    intro H2 e2 Q' q'
    refine (ev_fld (ev_var rfl) h1 T.k_Fee T.n_Fee_name hn) H2 e2 _ fun H3 e3 => ⟨l, _, rfl, .inl ⟨sq_of ((e2.trans e3) _ _ h2), fun t ht => q' _ _ (e3.trans (Ex.new ht)) ⟨t, rfl, fresh_back e3 ht, upd_same⟩⟩⟩
  · obtain ⟨js, hjs, rfl, hj⟩ := paired_split (R := fun (q : FeeM × Addr) t => t ≠ p ∧ H1 t = some (.tup (q.1.name.map V.int))) (Paired.mono (fun q v h => by obtain ⟨t, rfl, h1, h2⟩ := h; exact ⟨t, rfl, h1, h2⟩) hts)
    subst hjs
    have hz' : js.length ≤ 300 := by simpa using hz
    have en : (js.map fun j => (j.2, j.1.1.name)).map (·.2) = ((js.map (·.1)).map (·.1)).map FeeM.name := by
      rw [List.map_map, List.map_map, List.map_map]
      rfl
    refine ⟨_, rfl, p, js.map fun j => (j.2, j.1.1.name), rfl, ?_, fun q hq => ?_, by rw [List.length_map]; exact hz', fun n hn hiff => ⟨_, rfl, p, _, rfl, .inl (sq_of h1), _, _, rfl, rfl, ?_⟩⟩
    · rw [List.map_map]
      exact sq_of h1
    · obtain ⟨j, hj1, rfl⟩ := List.mem_map.mp hq
      exact st_of (hj j hj1).2
    · rw [List.length_map] at hn hiff ⊢
      rw [en] at hiff
      have ev : decide ((n : Int) < (js.length : Int)) = twiceM ((js.map (·.1)).map (·.1)) := by
        unfold twiceM
        by_cases c : n = js.length
        · rw [decide_eq_true (hiff.mp c), c, decide_eq_false (by omega)]
          rfl
        · rw [decide_eq_false (fun q => c (hiff.mpr q)), decide_eq_true (by omega)]
          rfl
      show Q (.bl (decide ((n : Int) < (js.length : Int)))) H1
      rw [ev]
      exact k H1 e1
end
end FB
-- T1
set_option Elab.async false
set_option linter.all false
set_option maxRecDepth 100000
set_option maxHeartbeats 3900000
namespace FB
open PySem PySem.Spec PyProof.Rows L2 Evl
/-! ### a heap without the objects that may change -/
def hid (S : List Addr) (H : Hp) : Hp := fun b => if b ∈ S then none else H b
section
variable {S : List Addr} {H H' : Hp} {a b : Addr} {o : HO}
theorem hid_at (h : b ∉ S) : hid S H b = H b := if_neg h
theorem hid_in (h : b ∈ S) : hid S H b = none := if_pos h
theorem hid_of (h : hid S H b = some o) : b ∉ S ∧ H b = some o := by
  by_cases c : b ∈ S
  · rw [hid_in c] at h
    cases h
  · rw [hid_at c] at h
    exact ⟨c, h⟩
theorem hid_le : Ex (hid S H) H := fun b o h => (hid_of h).2
theorem hid_mono (e : Ex H H') : Ex (hid S H) (hid S H') := fun b o h => by
  obtain ⟨h1, h2⟩ := hid_of h
  rw [hid_at h1]
  exact e b o h2
theorem hid_upd (h : a ∈ S) : hid S (upd H a o) = hid S H := funext fun b => by
  by_cases c : b ∈ S
  · rw [hid_in c, hid_in c]
  · rw [hid_at c, hid_at c, upd_ne (fun z => c (by rw [z]; exact h))]
/-- all but S stands -/
def ExS (S : List Addr) (H H' : Hp) : Prop := Ex (hid S H) (hid S H')
theorem ExS.refl : ExS S H H := Ex.refl _
theorem ExS.trans {H'' : Hp} (e : ExS S H H') (f : ExS S H' H'') : ExS S H H'' := Ex.trans e f
theorem ExS.of (e : Ex H H') : ExS S H H' := hid_mono e
theorem ExS.upd (e : ExS S H H') (h : a ∈ S) : ExS S H (upd H' a o) := by
  show Ex (hid S H) (hid S (L2.upd H' a o))
  rw [hid_upd h]
  exact e
theorem ExS.get (e : ExS S H H') (h : b ∉ S) (hb : H b = some o) : H' b = some o := by
  have := e b o (by rw [hid_at h]; exact hb)
  exact (hid_of this).2
theorem exS_B (e : ExB a H H') (h : a ∈ S) : ExS S H H' := fun b o hb => by
  obtain ⟨h1, h2⟩ := hid_of hb
  rw [hid_at h1]
  exact e b o (fun z => h1 (by rw [z]; exact h)) h2
end
/-! ### dict readings -/
section
variable {K : PySem.W.Frag} {σ : L2.St} {H : Hp} {td ty tx tv te : TE} {d : Addr} {kvs : List (Key × V)} {k : Key} {v x : V} {D : Ends} {tz : TS}
theorem ev_dget (hd : Ev td σ H (.ref d)) (hy : Ev ty σ H (kV k)) (h : H d = some (.dK kvs)) (l : valV kvs k = some v) : Ev (tDGet td ty) σ H v := fun H1 e Q q => hd H1 e _ fun H2 e2 => hy H2 (e.trans e2) _ fun H3 e3 =>
  ⟨d, v, rfl, by rw [← l]; exact DGet.k (((e.trans e2).trans e3) _ _ h), q H3 (e2.trans e3)⟩
theorem ev_dget1 (hd : Ev td σ H (.ref d)) (hy : Ev ty σ H (kV k)) (h : H d = some (.dK kvs)) : Ev (tDGet1 td ty) σ H ((valV kvs k).getD .non) := fun H1 e Q q => hd H1 e _ fun H2 e2 => ⟨d, rfl, .inl ⟨kvs, .inl ((e.trans e2) _ _ h)⟩, hy H2 (e.trans e2) _ fun H3 e3 =>
  ⟨_, DGet.k (((e.trans e2).trans e3) _ _ h), q H3 (e2.trans e3)⟩⟩
theorem ev_dget2 (hd : Ev td σ H (.ref d)) (hy : Ev ty σ H (kV k)) (hx : Ev tx σ H x) (h : H d = some (.dK kvs)) : Ev (tDGet2 td ty tx) σ H ((valV kvs k).getD x) := fun H1 e Q q => hd H1 e _ fun H2 e2 => ⟨d, rfl, .inl ⟨kvs, .inl ((e.trans e2) _ _ h)⟩, hy H2 (e.trans e2) _ fun H3 e3 => hx H3 ((e.trans e2).trans e3) _ fun H4 e4 =>
  ⟨_, DGet.k ((((e.trans e2).trans e3).trans e4) _ _ h), q H4 ((e2.trans e3).trans e4)⟩⟩
theorem ev_din (hy : Ev ty σ H (kV k)) (hd : Ev td σ H (.ref d)) (h : H d = some (.dK kvs)) : Ev (tDIn ty td) σ H (.bl (valV kvs k).isSome) := fun H1 e Q q => hy H1 e _ fun H2 e2 => hd H2 (e.trans e2) _ fun H3 e3 =>
  ⟨d, _, rfl, DGet.k (((e.trans e2).trans e3) _ _ h), q H3 (e2.trans e3)⟩
theorem ev_dnin (hy : Ev ty σ H (kV k)) (hd : Ev td σ H (.ref d)) (h : H d = some (.dK kvs)) : Ev (tDNotIn ty td) σ H (.bl (!(valV kvs k).isSome)) := fun H1 e Q q => hy H1 e _ fun H2 e2 => hd H2 (e.trans e2) _ fun H3 e3 =>
  ⟨d, _, rfl, DGet.k (((e.trans e2).trans e3) _ _ h), q H3 (e2.trans e3)⟩
theorem ev_lenD (hd : Ev td σ H (.ref d)) (h : H d = some (.dK kvs)) : Ev (tCB (fun xs H Q => ∃ a kvs, xs = [V.ref a] ∧ H a = some (.dK kvs) ∧ Q (.int kvs.length) H) (tCons td tNil)) σ H (.int (kvs.length : Nat)) := fun H1 e Q q =>
  hd H1 e _ fun H2 e2 => ⟨d, kvs, rfl, (e.trans e2) _ _ h, q H2 e2⟩
/-- d[k] = e -/
theorem q_dput (hv : Ev tv σ H v) (hd : Ev td σ H (.ref d)) (hy : Ev ty σ H (kV k)) (h : H d = some (.dK kvs)) (hl : kvs.length < sizeLine) (c : ∀ H1, Ex H H1 → tz D σ (upd H1 d (.dK (putK kvs k v)))) : tSeq (sDPut td ty tv) tz D σ H :=
  hv H (Ex.refl H) _ fun H1 e1 => hd H1 e1 _ fun H2 e2 => hy H2 (e1.trans e2) _ fun H3 e3 => ⟨d, _, rfl, DPut.k (((e1.trans e2).trans e3) _ _ h) hl, c H3 ((e1.trans e2).trans e3)⟩
theorem q_dputQ {Pr : V → Hp → Hp → Prop} (hv : EvQ tv σ H Pr) (hd : Ev td σ H (.ref d)) (hy : Ev ty σ H (kV k)) (h : H d = some (.dK kvs)) (hl : kvs.length < sizeLine) (c : ∀ v H1 H2, Ex H H1 → Pr v H H1 → Ex H1 H2 → tz D σ (upd H2 d (.dK (putK kvs k v)))) : tSeq (sDPut td ty tv) tz D σ H :=
  hv H (Ex.refl H) _ fun v H1 e1 hp => hd H1 e1 _ fun H2 e2 => hy H2 (e1.trans e2) _ fun H3 e3 => ⟨d, _, rfl, DPut.k (((e1.trans e2).trans e3) _ _ h) hl, c v H1 H3 e1 hp (e2.trans e3)⟩
/-- d.pop(k), there -/
theorem q_dpop (hd : Ev td σ H (.ref d)) (hy : Ev ty σ H (kV k)) (h : H d = some (.dK kvs)) (l : valV kvs k = some v) (c : ∀ H1, Ex H H1 → tz D σ (upd H1 d (.dK (dropK kvs k)))) : tSeq (tDrop (tDPop1 td ty)) tz D σ H :=
  hd H (Ex.refl H) _ fun H1 e1 => ⟨d, rfl, .inl ⟨kvs, .inl (e1 _ _ h)⟩, hy H1 e1 _ fun H2 e2 => ⟨kvs, k, v, (e1.trans e2) _ _ h, rfl, l, c H2 (e1.trans e2)⟩⟩
theorem ev_neg {i : Int} (h : Ev te σ H (.int i)) : Ev (tUn (rU fun i => .int (-i)) te) σ H (.int (-i)) := ev_un h fun H1 e Q q => ⟨i, rfl, q H1 (Ex.refl H1)⟩
end
/-! ### what a call tells, by its names -/
def tl (told : List (Str × Int)) (x : Str) : Option Int := (told.find? fun q => decide (q.1 = x)).map (·.2)
theorem valV_told (x : Str) : ∀ told : List (Str × Int), valV (told.map fun q => ((Sum.inr q.1 : Key), V.int q.2)) (Sum.inr x) = (tl told x).map V.int
  | [] => rfl
  | q :: r => by
    rw [List.map_cons]
    unfold tl
    by_cases c : q.1 = x
    · rw [valV_pos (p := ((Sum.inr q.1 : Key), V.int q.2)) (by rw [c]), List.find?_cons_of_pos (by rw [c]; exact decide_eq_true rfl)]
      rfl
    · rw [valV_neg (p := ((Sum.inr q.1 : Key), V.int q.2)) (fun z => c (Sum.inr.inj z)), List.find?_cons_of_neg (by rw [decide_eq_false c]; decide)]
      exact valV_told x r
theorem getD_told (told : List (Str × Int)) (x : Str) (i : Int) : (valV (told.map fun q => ((Sum.inr q.1 : Key), V.int q.2)) (Sum.inr x)).getD (.int i) = .int ((tl told x).getD i) := by
  rw [valV_told]
  cases tl told x <;> rfl
/-- an event as the program keeps it -/
structure EvM where
  kind : Int
  number : Int
  day : Int
  account : Int
  source : Int
  owner : Int
  amount : Int
  units : Int
  about : Int
  name : List Int
  deriving DecidableEq
def evOf (c : CallM) : EvM := ⟨c.n, (tl c.told "event").getD 0, (tl c.told "day").getD 0, (tl c.told "account").getD 0, (tl c.told "source").getD 0, (tl c.told "owner").getD 0, (tl c.told "amount").getD 0, (tl c.told "units").getD 0, (tl c.told "about").getD 0, c.row⟩
abbrev eventNames : List Str := ["kind", "number", "day", "account", "source", "owner", "amount", "units", "about", "name"]
def evV (r : Addr) (m : EvM) : List V := [.int m.kind, .int m.number, .int m.day, .int m.account, .int m.source, .int m.owner, .int m.amount, .int m.units, .int m.about, .ref r]
section
variable {K : PySem.W.Frag} {mg : Str → Option Value} {P : Program} {base : Heap} {w : World}
abbrev s_Event___init__ : Stmt := inClass (topS 23) 0
abbrev N_Event___init__ : List Str := ["self", "kind", "told", "name"]
theorem sc_Event___init__ : FnScope N_Event___init__ ["self", "kind", "told", "name"] (defScope s_Event___init__) := ⟨rfl, rfl, rfl, by decide +kernel, rfl, by decide +kernel, by decide +kernel⟩
def sp_Event (K : PySem.W.Frag) : Sp := fun vs H Q _ => ∃ (p dx d r : Addr) (c : CallM), vs = [.ref p, .int c.n, .ref d, .ref r] ∧ H p = some (.ins (He.ga K "Event") dx []) ∧ H d = some (.dK (c.told.map fun q => (Sum.inr q.1, V.int q.2))) ∧ (tl c.told "event").isSome = true ∧ (tl c.told "day").isSome = true ∧
  ∀ H2, ExB p H H2 → H2 p = some (.ins (He.ga K "Event") dx (eventNames.zip (evV r (evOf c)))) → Q .non H2
theorem mk_Event (T : Tx K mg) : OwnC P w K mg base 1 "Event" ["self", "kind", "told", "name"] (sp_Event K) := by
  refine ownC_mk T.d_Event___init__ T.g_Event T.i_Event (fun _ _ _ _ _ _ us hl => match us, hl with | [_, _, _, _], _ => rfl) fun fd F => ?_
  refine F.ok sc_Event___init__ (fun vs H Q E h => by obtain ⟨p, dx, d, r, c, rfl, _⟩ := h; rfl) (fun cdv A outer s H vs Q E hr h => ⟨_, PSs.nox
    (pss_cons (ps_fld (pv 0) (pv 1) rfl)
    (pss_cons (ps_fld (pv 0) (pe_dget (hu_of hr) (pv 2) pe_str (fun _ _ => rfl)) rfl)
    (pss_cons (ps_fld (pv 0) (pe_dget (hu_of hr) (pv 2) pe_str (fun _ _ => rfl)) rfl)
    (pss_cons (ps_fld (pv 0) (pe_dget2 (hu_of hr) (pv 2) pe_str pe_int (by exact ⟨rfl, rfl, rfl, rfl⟩)) rfl)
    (pss_cons (ps_fld (pv 0) (pe_dget2 (hu_of hr) (pv 2) pe_str pe_int (by exact ⟨rfl, rfl, rfl, rfl⟩)) rfl)
    (pss_cons (ps_fld (pv 0) (pe_dget2 (hu_of hr) (pv 2) pe_str pe_int (by exact ⟨rfl, rfl, rfl, rfl⟩)) rfl)
    (pss_cons (ps_fld (pv 0) (pe_dget2 (hu_of hr) (pv 2) pe_str pe_int (by exact ⟨rfl, rfl, rfl, rfl⟩)) rfl)
    (pss_cons (ps_fld (pv 0) (pe_dget2 (hu_of hr) (pv 2) pe_str pe_int (by exact ⟨rfl, rfl, rfl, rfl⟩)) rfl)
    (pss_cons (ps_fld (pv 0) (pe_dget2 (hu_of hr) (pv 2) pe_str pe_int (by exact ⟨rfl, rfl, rfl, rfl⟩)) rfl)
    (pss_one (ps_fld (pv 0) (pv 3) rfl))))))))))), ?_⟩)
  obtain ⟨p, dx, d, r, c, rfl, hp, hd, he, hy, k⟩ := h
  have hdp : d ≠ p := fun z => by
    rw [z, hp] at hd
    cases hd
  obtain ⟨n, hn⟩ := Option.isSome_iff_exists.mp he
  obtain ⟨y, hy⟩ := Option.isSome_iff_exists.mp hy
  have vn : valV (c.told.map fun q => ((Sum.inr q.1 : Key), V.int q.2)) (Sum.inr "event") = some (.int ((tl c.told "event").getD 0)) := by rw [valV_told, hn]; rfl
  have vy : valV (c.told.map fun q => ((Sum.inr q.1 : Key), V.int q.2)) (Sum.inr "day") = some (.int ((tl c.told "day").getD 0)) := by rw [valV_told, hy]; rfl
  refine q_fldNew (ev_var rfl) (ev_var rfl) hp T.k_Event T.n_Event_kind fun H1 e1 => ?_
  have b1 : ExB p H (upd H1 p (HO.ins (He.ga K "Event") dx (([] : List (Str × V)) ++ [(("kind" : Str), V.int c.n)]))) := exB_upd (fun b o _ h => e1 b o h)
  refine q_fldNew (ev_dget (k := Sum.inr "event") (ev_var rfl) ev_c (b1 _ _ hdp hd) vn) (ev_var rfl) upd_same T.k_Event T.n_Event_number fun H2 e2 => ?_
  have b2 := exB_upd (o := HO.ins (He.ga K "Event") dx ((([] : List (Str × V)) ++ [(("kind" : Str), V.int c.n)]) ++ [(("number" : Str), V.int ((tl c.told "event").getD 0))])) (exB_ex b1 e2)
  refine q_fldNew (ev_dget (k := Sum.inr "day") (ev_var rfl) ev_c (b2 _ _ hdp hd) vy) (ev_var rfl) upd_same T.k_Event T.n_Event_day fun H3 e3 => ?_
  have b3 := fun o => exB_upd (o := o) (exB_ex b2 e3)
  refine q_fldNew (ev_is (ev_dget2 (k := Sum.inr "account") (ev_var rfl) ev_c ev_c (b3 _ _ _ hdp hd)) (getD_told _ _ _)) (ev_var rfl) upd_same T.k_Event T.n_Event_account fun H4 e4 => ?_
  have b4 := fun o => exB_upd (o := o) (exB_ex (b3 _) e4)
  refine q_fldNew (ev_is (ev_dget2 (k := Sum.inr "source") (ev_var rfl) ev_c ev_c (b4 _ _ _ hdp hd)) (getD_told _ _ _)) (ev_var rfl) upd_same T.k_Event T.n_Event_source fun H5 e5 => ?_
  have b5 := fun o => exB_upd (o := o) (exB_ex (b4 _) e5)
  refine q_fldNew (ev_is (ev_dget2 (k := Sum.inr "owner") (ev_var rfl) ev_c ev_c (b5 _ _ _ hdp hd)) (getD_told _ _ _)) (ev_var rfl) upd_same T.k_Event T.n_Event_owner fun H6 e6 => ?_
  have b6 := fun o => exB_upd (o := o) (exB_ex (b5 _) e6)
  refine q_fldNew (ev_is (ev_dget2 (k := Sum.inr "amount") (ev_var rfl) ev_c ev_c (b6 _ _ _ hdp hd)) (getD_told _ _ _)) (ev_var rfl) upd_same T.k_Event T.n_Event_amount fun H7 e7 => ?_
  have b7 := fun o => exB_upd (o := o) (exB_ex (b6 _) e7)
  refine q_fldNew (ev_is (ev_dget2 (k := Sum.inr "units") (ev_var rfl) ev_c ev_c (b7 _ _ _ hdp hd)) (getD_told _ _ _)) (ev_var rfl) upd_same T.k_Event T.n_Event_units fun H8 e8 => ?_
  have b8 := fun o => exB_upd (o := o) (exB_ex (b7 _) e8)
  refine q_fldNew (ev_is (ev_dget2 (k := Sum.inr "about") (ev_var rfl) ev_c ev_c (b8 _ _ _ hdp hd)) (getD_told _ _ _)) (ev_var rfl) upd_same T.k_Event T.n_Event_about fun H9 e9 => ?_
  refine s_fldNew (ev_var rfl) (ev_var rfl) upd_same T.k_Event T.n_Event_name fun H10 e10 => ?_
  exact k _ (exB_upd (exB_ex (exB_upd (exB_ex (b8 _) e9)) e10)) upd_same
abbrev s_Record___init__ : Stmt := inClass (topS 24) 0
abbrev N_Record___init__ : List Str := ["self"]
theorem sc_Record___init__ : FnScope N_Record___init__ ["self"] (defScope s_Record___init__) := ⟨rfl, rfl, rfl, by decide +kernel, rfl, by decide +kernel, by decide +kernel⟩
abbrev recordNames : List Str := ["schedules", "small", "weights", "events"]
def sp_Record (K : PySem.W.Frag) : Sp := fun vs H Q _ => ∃ (p dx : Addr), vs = [.ref p] ∧ H p = some (.ins (He.ga K "Record") dx []) ∧
  ∀ H2 ds dm lw de, ExB p H H2 → H ds = none → H dm = none → H lw = none → H de = none → ds ≠ dm → ds ≠ de → dm ≠ de → H2 ds = some (.dK []) → H2 dm = some (.dK []) → H2 de = some (.dK []) → H2 lw = some (.lst [.int 1]) →
    H2 p = some (.ins (He.ga K "Record") dx (recordNames.zip ([.ref ds, .ref dm, .ref lw, .ref de] : List V))) → Q .non H2
theorem eq_dnew {σ : L2.St} {H : Hp} : EvQ tDNewK σ H (fun v H1 H2 => ∃ d, v = .ref d ∧ H1 d = none ∧ H2 d = some (.dK [])) := fun H1 e Q q d hd => q _ _ (Ex.new hd) ⟨d, rfl, hd, upd_same⟩
theorem q_fldQ {σ : L2.St} {H : Hp} {ta tv : TE} {D : Ends} {tz : TS} {p C dx : Addr} {fs : List (Str × V)} {f : Str} {Pr : V → Hp → Hp → Prop} (hv : EvQ tv σ H Pr) (ho : Ev ta σ H (.ref p)) (hp : H p = some (.ins C dx fs)) (cl : Cls K C) (no : NoAttr K C f) (k : ∀ v H1 H2, Ex H H1 → Pr v H H1 → Ex H1 H2 → tz D σ (upd H2 p (.ins C dx (fs ++ [(f, v)]))))
    (hn : (fs.all fun q => !decide (q.1 = f)) = true := by kernel_rfl) (hl : Nat.blt fs.length 1000 = true := by rfl) : tSeq (sFld K ta tv f) tz D σ H :=
  hv H (Ex.refl H) _ fun v H1 e1 h1 => ho H1 e1 _ fun H2 e2 => ⟨p, C, dx, fs, rfl, e2 _ _ (e1 _ _ hp), cl, no, Nat.le_of_ble_eq_true hl, by
    rw [putF_new hn]
    exact k v H1 H2 e1 h1 e2⟩
theorem s_fldQ {σ : L2.St} {H : Hp} {ta tv : TE} {D : Ends} {p C dx : Addr} {fs : List (Str × V)} {f : Str} {Pr : V → Hp → Hp → Prop} (hv : EvQ tv σ H Pr) (ho : Ev ta σ H (.ref p)) (hp : H p = some (.ins C dx fs)) (cl : Cls K C) (no : NoAttr K C f) (k : ∀ v H1 H2, Ex H H1 → Pr v H H1 → Ex H1 H2 → D.nx σ (upd H2 p (.ins C dx (fs ++ [(f, v)]))))
    (hn : (fs.all fun q => !decide (q.1 = f)) = true := by kernel_rfl) (hl : Nat.blt fs.length 1000 = true := by rfl) : sFld K ta tv f D σ H :=
  hv H (Ex.refl H) _ fun v H1 e1 h1 => ho H1 e1 _ fun H2 e2 => ⟨p, C, dx, fs, rfl, e2 _ _ (e1 _ _ hp), cl, no, Nat.le_of_ble_eq_true hl, by
    rw [putF_new hn]
    exact k v H1 H2 e1 h1 e2⟩
theorem mk_Record (T : Tx K mg) : OwnC P w K mg base 1 "Record" ["self"] (sp_Record K) := by
  refine ownC_mk T.d_Record___init__ T.g_Record T.i_Record (fun _ _ _ _ _ _ us hl => match us, hl with | [_], _ => rfl) fun fd F => ?_
  refine F.ok sc_Record___init__ (fun vs H Q E h => by obtain ⟨p, dx, rfl, _⟩ := h; rfl) (fun cdv A outer s H vs Q E hr h => ⟨_, PSs.nox
    (pss_cons (ps_fld (pv 0) pe_dnewK rfl)
    (pss_cons (ps_fld (pv 0) pe_dnewK rfl)
    (pss_cons (ps_fld (pv 0) (pe_lst (pa_cons pe_int pa_nil)) rfl)
    (pss_one (ps_fld (pv 0) pe_dnewK rfl))))), ?_⟩)
  obtain ⟨p, dx, rfl, hp, k⟩ : ∃ (p dx : Addr), _ := h
  have fr : ∀ {H0 : Hp} {d : Addr} {o : HO}, H0 p = some o → H0 d = none → d ≠ p := fun h1 h2 z => by
    rw [z, h1] at h2
    cases h2
  have bk : ∀ {H1 : Hp} {d : Addr}, ExB p H H1 → H1 d = none → d ≠ p → H d = none := fun {H1 d} b h n => by
    cases q : H d with
    | none => rfl
    | some o =>
      rw [b d o n q] at h
      cases h
  refine q_fldQ eq_dnew (ev_var rfl) hp T.k_Record T.n_Record_schedules fun v H1 H2 e1 hv e2 => ?_
  obtain ⟨ds, rfl, n1, h1⟩ := hv
  have p1 := fr hp n1
  have b2 : ExB p H (upd H2 p (HO.ins (He.ga K "Record") dx (([] : List (Str × V)) ++ [(("schedules" : Str), V.ref ds)]))) := exB_upd fun b o _ h => e2 b o (e1 b o h)
  have h2 : upd H2 p (HO.ins (He.ga K "Record") dx (([] : List (Str × V)) ++ [(("schedules" : Str), V.ref ds)])) ds = some (.dK []) := by rw [upd_ne p1]; exact e2 _ _ h1
  refine q_fldQ eq_dnew (ev_var rfl) upd_same T.k_Record T.n_Record_small fun v H3 H4 e3 hv e4 => ?_
  obtain ⟨dm, rfl, n3, h3⟩ := hv
  have p3 := fr upd_same n3
  have d3 : ds ≠ dm := ne_of_none h2 n3
  have b4 := fun o => exB_upd (o := o) (exB_ex (exB_ex b2 e3) e4)
  have h4 := (e3.trans e4) _ _ h2
  have h5 := e4 _ _ h3
  have m3 := bk b2 n3 p3
  refine q_fldQ (eq_L (el_lst (ea_cons ev_c ea_nil) (by decide))) (ev_var rfl) upd_same T.k_Record T.n_Record_weights fun v H5 H6 e5 hv e6 => ?_
  obtain ⟨lw, rfl, n5, h6⟩ := hv
  have p5 := fr upd_same n5
  have b6 := fun o => exB_upd (o := o) (exB_ex (exB_ex (b4 _) e5) e6)
  have m5 := bk (b4 _) n5 p5
  have h7 := e6 _ _ h6
  have h8 := (e5.trans e6) _ _ (show upd H4 p _ ds = some (.dK []) by rw [upd_ne p1]; exact h4)
  have h9 := (e5.trans e6) _ _ (show upd H4 p _ dm = some (.dK []) by rw [upd_ne p3]; exact h5)
  refine s_fldQ eq_dnew (ev_var rfl) upd_same T.k_Record T.n_Record_events fun v H7 H8 e7 hv e8 => ?_
  obtain ⟨de, rfl, n7, h10⟩ := hv
  have p7 := fr upd_same n7
  have b8 := fun o => exB_upd (o := o) (exB_ex (exB_ex (b6 _) e7) e8)
  have m7 := bk (b6 _) n7 p7
  have k1 : ds ≠ de := ne_of_none (by rw [upd_ne p1]; exact h8) n7
  have k2 : dm ≠ de := ne_of_none (by rw [upd_ne p3]; exact h9) n7
  refine k _ ds dm lw de (b8 _) n1 m3 m5 m7 d3 k1 k2 ?_ ?_ ?_ ?_ upd_same
  · rw [upd_ne p1]
    exact (e7.trans e8) _ _ (by rw [upd_ne p1]; exact h8)
  · rw [upd_ne p3]
    exact (e7.trans e8) _ _ (by rw [upd_ne p3]; exact h9)
  · rw [upd_ne p7]
    exact e8 _ _ h10
  · rw [upd_ne p5]
    exact (e7.trans e8) _ _ (by rw [upd_ne p5]; exact h7)
end
end FB
-- T2
set_option Elab.async false
set_option linter.all false
set_option maxRecDepth 100000
set_option maxHeartbeats 3900000
namespace FB
open PySem PySem.Spec PyProof.Rows L2 Evl
/-! ### the record -/
structure SchM where
  day : Int
  text : List Int
  fees : List FeeM
structure RecM where
  schedules : List SchM
  smalls : List (Int × Int)
  weights : List Int
  events : List EvM
structure RecA where
  R : Addr
  dx : Addr
  ds : Addr
  dm : Addr
  de : Addr
def RecA.S (A : RecA) : List Addr := [A.R, A.ds, A.dm, A.de]
theorem RecA.inR (A : RecA) : A.R ∈ A.S := List.mem_cons_self ..
theorem RecA.inS (A : RecA) : A.ds ∈ A.S := List.mem_cons_of_mem _ (List.mem_cons_self ..)
theorem RecA.inM (A : RecA) : A.dm ∈ A.S := List.mem_cons_of_mem _ (List.mem_cons_of_mem _ (List.mem_cons_self ..))
theorem RecA.inE (A : RecA) : A.de ∈ A.S := List.mem_cons_of_mem _ (List.mem_cons_of_mem _ (List.mem_cons_of_mem _ (List.mem_cons_self ..)))
def recV (A : RecA) (lw : Addr) : List V := [.ref A.ds, .ref A.dm, .ref lw, .ref A.de]
def EvAt (K : PySem.W.Frag) (H : Hp) (a : Addr) (m : EvM) : Prop := ∃ dx r, H a = some (.ins (He.ga K "Event") dx (eventNames.zip (evV r m))) ∧ H r = some (.lst (m.name.map V.int))
def SchAt (K : PySem.W.Frag) (H : Hp) (a : Addr) (s : SchM) : Prop := ∃ dx t f xs, H a = some (.ins (He.ga K "Schedule") dx (scheduleNames.zip ([.int s.day, .ref t, .ref f] : List V))) ∧ H t = some (.lst (s.text.map V.int)) ∧ H f = some (.lst xs) ∧ Paired (fun m v => ∃ b, v = V.ref b ∧ FeeAt K H m b) s.fees xs
section
variable {K : PySem.W.Frag} {H H' : Hp} {a : Addr}
theorem EvAt.stay {m : EvM} (e : Ex H H') (h : EvAt K H a m) : EvAt K H' a m := by
  obtain ⟨dx, r, h1, h2⟩ := h
  exact ⟨dx, r, e _ _ h1, e _ _ h2⟩
theorem SchAt.stay {s : SchM} (e : Ex H H') (h : SchAt K H a s) : SchAt K H' a s := by
  obtain ⟨dx, t, f, xs, h1, h2, h3, h4⟩ := h
  exact ⟨dx, t, f, xs, e _ _ h1, e _ _ h2, e _ _ h3, Paired.mono (fun m v h => by obtain ⟨b, rfl, hb⟩ := h; exact ⟨b, rfl, hb.stay e⟩) h4⟩
/-- a table of the record: keys, values -/
abbrev Tabl {α : Type} (key : α → Key) (R : α → V → Prop) (l : List α) (kvs : List (Key × V)) : Prop := Paired (fun (m : α) (kv : Key × V) => kv.1 = key m ∧ R m kv.2) l kvs
def evR (K : PySem.W.Frag) (H : Hp) (m : EvM) (v : V) : Prop := ∃ a, v = .ref a ∧ EvAt K H a m
def schR (K : PySem.W.Frag) (H : Hp) (m : SchM) (v : V) : Prop := ∃ a, v = .ref a ∧ SchAt K H a m
def evK (m : EvM) : Key := Sum.inl m.number
def schK (m : SchM) : Key := Sum.inl m.day
def smlK (l : List (Int × Int)) : List (Key × V) := l.map fun q => (Sum.inl q.1, V.int q.2)
structure RecAt (K : PySem.W.Frag) (A : RecA) (H : Hp) (m : RecM) : Prop where
  obj : ∃ lw, H A.R = some (.ins (He.ga K "Record") A.dx (recordNames.zip (recV A lw))) ∧ hid A.S H lw = some (.lst (m.weights.map V.int))
  sch : ∃ kvs, H A.ds = some (.dK kvs) ∧ Tabl schK (schR K (hid A.S H)) m.schedules kvs
  sml : H A.dm = some (.dK (smlK m.smalls))
  evs : ∃ kvs, H A.de = some (.dK kvs) ∧ Tabl evK (evR K (hid A.S H)) m.events kvs
  sm : A.ds ≠ A.dm
  se : A.ds ≠ A.de
  me : A.dm ≠ A.de
theorem Tabl.mono {α : Type} {key : α → Key} {R R' : α → V → Prop} {l : List α} {kvs : List (Key × V)} (h : ∀ m v, R m v → R' m v) (t : Tabl key R l kvs) : Tabl key R' l kvs := Paired.mono (fun m kv z => ⟨z.1, h m kv.2 z.2⟩) t
theorem evR.stay {m : EvM} {v : V} (e : Ex H H') (h : evR K H m v) : evR K H' m v := by
  obtain ⟨a, rfl, h⟩ := h
  exact ⟨a, rfl, h.stay e⟩
theorem schR.stay {m : SchM} {v : V} (e : Ex H H') (h : schR K H m v) : schR K H' m v := by
  obtain ⟨a, rfl, h⟩ := h
  exact ⟨a, rfl, h.stay e⟩
variable {A : RecA} {m : RecM}
theorem RecAt.stay (e : Ex H H') (h : RecAt K A H m) : RecAt K A H' m := by
  obtain ⟨⟨lw, h1, h2⟩, ⟨k1, h3, h4⟩, h5, ⟨k2, h6, h7⟩, n1, n2, n3⟩ := h
  exact ⟨⟨lw, e _ _ h1, hid_mono e _ _ h2⟩, ⟨k1, e _ _ h3, h4.mono fun m v => schR.stay (hid_mono e)⟩, e _ _ h5, ⟨k2, e _ _ h6, h7.mono fun m v => evR.stay (hid_mono e)⟩, n1, n2, n3⟩
theorem RecAt.neR (h : RecAt K A H m) : A.ds ≠ A.R ∧ A.dm ≠ A.R ∧ A.de ≠ A.R := by
  obtain ⟨⟨lw, h1, h2⟩, ⟨k1, h3, h4⟩, h5, ⟨k2, h6, h7⟩, n1, n2, n3⟩ := h
  refine ⟨fun z => ?_, fun z => ?_, fun z => ?_⟩
  · rw [z, h1] at h3
    cases h3
  · rw [z, h1] at h5
    cases h5
  · rw [z, h1] at h6
    cases h6
/-- the table of events changes -/
theorem RecAt.putE {es : List EvM} {kvs : List (Key × V)} (h : RecAt K A H m) (t : Tabl evK (evR K (hid A.S H)) es kvs) : RecAt K A (upd H A.de (.dK kvs)) { m with events := es } := by
  obtain ⟨q1, q2, q3⟩ := h.neR
  obtain ⟨⟨lw, h1, h2⟩, ⟨k1, h3, h4⟩, h5, ⟨k2, h6, h7⟩, n1, n2, n3⟩ := h
  have e := hid_upd (H := H) (o := .dK kvs) A.inE
  exact ⟨⟨lw, by rw [upd_ne (Ne.symm q3)]; exact h1, by rw [e]; exact h2⟩, ⟨k1, by rw [upd_ne n2]; exact h3, by rw [e]; exact h4⟩, by rw [upd_ne n3]; exact h5, ⟨kvs, upd_same, by rw [e]; exact t⟩, n1, n2, n3⟩
theorem RecAt.putS {ss : List SchM} {kvs : List (Key × V)} (h : RecAt K A H m) (t : Tabl schK (schR K (hid A.S H)) ss kvs) : RecAt K A (upd H A.ds (.dK kvs)) { m with schedules := ss } := by
  obtain ⟨q1, q2, q3⟩ := h.neR
  obtain ⟨⟨lw, h1, h2⟩, ⟨k1, h3, h4⟩, h5, ⟨k2, h6, h7⟩, n1, n2, n3⟩ := h
  have e := hid_upd (H := H) (o := .dK kvs) A.inS
  exact ⟨⟨lw, by rw [upd_ne (Ne.symm q1)]; exact h1, by rw [e]; exact h2⟩, ⟨kvs, upd_same, by rw [e]; exact t⟩, by rw [upd_ne (Ne.symm n1)]; exact h5, ⟨k2, by rw [upd_ne (Ne.symm n2)]; exact h6, by rw [e]; exact h7⟩, n1, n2, n3⟩
theorem RecAt.putM {l : List (Int × Int)} (h : RecAt K A H m) : RecAt K A (upd H A.dm (.dK (smlK l))) { m with smalls := l } := by
  obtain ⟨q1, q2, q3⟩ := h.neR
  obtain ⟨⟨lw, h1, h2⟩, ⟨k1, h3, h4⟩, h5, ⟨k2, h6, h7⟩, n1, n2, n3⟩ := h
  have e := hid_upd (H := H) (o := .dK (smlK l)) A.inM
  exact ⟨⟨lw, by rw [upd_ne (Ne.symm q2)]; exact h1, by rw [e]; exact h2⟩, ⟨k1, by rw [upd_ne n1]; exact h3, by rw [e]; exact h4⟩, upd_same, ⟨k2, by rw [upd_ne (Ne.symm n3)]; exact h6, by rw [e]; exact h7⟩, n1, n2, n3⟩
theorem RecAt.putW {l : List Int} {lw : Addr} (h : RecAt K A H m) (hl : hid A.S H lw = some (.lst (l.map V.int))) : RecAt K A (upd H A.R (.ins (He.ga K "Record") A.dx (recordNames.zip (recV A lw)))) { m with weights := l } := by
  obtain ⟨q1, q2, q3⟩ := h.neR
  obtain ⟨⟨lw0, h1, h2⟩, ⟨k1, h3, h4⟩, h5, ⟨k2, h6, h7⟩, n1, n2, n3⟩ := h
  have e := hid_upd (H := H) (o := .ins (He.ga K "Record") A.dx (recordNames.zip (recV A lw))) A.inR
  exact ⟨⟨lw, upd_same, by rw [e]; exact hl⟩, ⟨k1, by rw [upd_ne q1]; exact h3, by rw [e]; exact h4⟩, by rw [upd_ne q2]; exact h5, ⟨k2, by rw [upd_ne q3]; exact h6, by rw [e]; exact h7⟩, n1, n2, n3⟩
/-- looked up -/
theorem Tabl.find {α : Type} {key : α → Key} {R : α → V → Prop} (k : Key) {l : List α} {kvs : List (Key × V)} (t : Tabl key R l kvs) :
    (valV kvs k = none ∧ l.find? (fun m => decide (key m = k)) = none) ∨ ∃ m v, l.find? (fun m => decide (key m = k)) = some m ∧ valV kvs k = some v ∧ R m v := by
  induction t with
  | nil => exact Or.inl (And.intro rfl rfl)
  | @cons m kv l kvs h t ih =>
    by_cases c : key m = k
    · exact .inr ⟨m, kv.2, List.find?_cons_of_pos (decide_eq_true c), valV_pos (h.1.trans c), h.2⟩
    · rw [valV_neg (fun z => c (h.1.symm.trans z)), List.find?_cons_of_neg (by rw [decide_eq_false c]; decide)]
      exact ih
theorem Tabl.put {α : Type} {key : α → Key} {R : α → V → Prop} {l : List α} {kvs : List (Key × V)} {x : α} {v : V} (t : Tabl key R l kvs) (hn : valV kvs (key x) = none) (hv : R x v) : Tabl key R (l ++ [x]) (putK kvs (key x) v) := by
  rw [putK_new v hn]
  exact Paired.snoc t ⟨rfl, hv⟩
theorem Tabl.drop {α : Type} {key : α → Key} {R : α → V → Prop} (k : Key) {l : List α} {kvs : List (Key × V)} (t : Tabl key R l kvs) : Tabl key R (l.filter fun m => decide (key m ≠ k)) (dropK kvs k) := by
  unfold dropK
  induction t with
  | nil => exact .nil
  | @cons m kv l kvs h t ih =>
    by_cases c : key m = k
    · rw [List.filter_cons_of_neg (by rw [decide_eq_false (fun z => z c)]; decide), List.filter_cons_of_neg (by rw [decide_eq_false (fun z => z (h.1.trans c))]; decide)]
      exact ih
    · rw [List.filter_cons, List.filter_cons, if_pos (decide_eq_true c), if_pos (decide_eq_true (show kv.1 ≠ k from fun z => c (h.1.symm.trans z)))]
      exact .cons h ih
theorem Tabl.len {α : Type} {key : α → Key} {R : α → V → Prop} {l : List α} {kvs : List (Key × V)} (t : Tabl key R l kvs) : kvs.length = l.length := (Paired.length t).symm
/-- small[o] = x -/
def putI (l : List (Int × Int)) (o x : Int) : List (Int × Int) := if (l.any fun q => decide (q.1 = o)) = true then l.map (fun q => if q.1 = o then (q.1, x) else q) else l ++ [(o, x)]
theorem put_sml (l : List (Int × Int)) (o x : Int) : putK (smlK l) (Sum.inl o) (.int x) = smlK (putI l o x) := by
  unfold putK putI smlK
  have e : ((l.map fun q => ((Sum.inl q.1 : Key), V.int q.2)).any fun kv => decide (kv.1 = (Sum.inl o : Key))) = l.any fun q => decide (q.1 = o) := by
    rw [List.any_map]
    congr 1
    funext q
    by_cases c : q.1 = o
    · show decide ((Sum.inl q.1 : Key) = Sum.inl o) = decide (q.1 = o)
      rw [c, decide_eq_true rfl, decide_eq_true rfl]
    · show decide ((Sum.inl q.1 : Key) = Sum.inl o) = decide (q.1 = o)
      rw [decide_eq_false c, decide_eq_false (fun z => c (Sum.inl.inj z))]
  rw [e]
  split
  · rw [List.map_map, List.map_map]
    congr 1
    funext q
    show (if (Sum.inl q.1 : Key) = Sum.inl o then ((Sum.inl q.1 : Key), V.int x) else ((Sum.inl q.1 : Key), V.int q.2)) = _
    by_cases c : q.1 = o
    · rw [if_pos (by rw [c])]
      show _ = ((Sum.inl (if q.1 = o then (q.1, x) else q).1 : Key), V.int (if q.1 = o then (q.1, x) else q).2)
      rw [if_pos c]
    · rw [if_neg (fun z => c (Sum.inl.inj z))]
      show _ = ((Sum.inl (if q.1 = o then (q.1, x) else q).1 : Key), V.int (if q.1 = o then (q.1, x) else q).2)
      rw [if_neg c]
  · rw [List.map_append]
    rfl
end
/-! ### reading the record, a call -/
def CallI (K : PySem.W.Frag) (H : Hp) (c d r : Addr) (m : CallM) : Prop := ∃ dx, H c = some (.ins (He.ga K "Call") dx (callNames.zip ([.int m.n, .ref d, .ref r] : List V))) ∧ H d = some (.dK (m.told.map fun q => (Sum.inr q.1, V.int q.2))) ∧ H r = some (.lst (m.row.map V.int))
section
variable {K : PySem.W.Frag} {mg : Str → Option Value} {σ : L2.St} {H H' : Hp} {ta : TE} {A : RecA} {m : RecM} {c d r : Addr} {cm : CallM}
theorem CallI.stay (e : Ex H H') (h : CallI K H c d r cm) : CallI K H' c d r cm := by
  obtain ⟨dx, h1, h2, h3⟩ := h
  exact ⟨dx, e _ _ h1, e _ _ h2, e _ _ h3⟩
theorem rd_events (T : Tx K mg) (h : RecAt K A H m) (ho : Ev ta σ H (.ref A.R)) : Ev (tFld K ta "events") σ H (.ref A.de) := by
  obtain ⟨lw, h1, _⟩ := h.obj
  exact ev_fld ho h1 T.k_Record T.n_Record_events ((lk_past (by decide)).trans ((lk_past (by decide)).trans ((lk_past (by decide)).trans lk_here)))
theorem rd_schedules (T : Tx K mg) (h : RecAt K A H m) (ho : Ev ta σ H (.ref A.R)) : Ev (tFld K ta "schedules") σ H (.ref A.ds) := by
  obtain ⟨lw, h1, _⟩ := h.obj
  exact ev_fld ho h1 T.k_Record T.n_Record_schedules lk_here
theorem rd_small (T : Tx K mg) (h : RecAt K A H m) (ho : Ev ta σ H (.ref A.R)) : Ev (tFld K ta "small") σ H (.ref A.dm) := by
  obtain ⟨lw, h1, _⟩ := h.obj
  exact ev_fld ho h1 T.k_Record T.n_Record_small ((lk_past (by decide)).trans lk_here)
theorem cl_number (T : Tx K mg) (h : CallI K H c d r cm) (ho : Ev ta σ H (.ref c)) : Ev (tFld K ta "number") σ H (.int cm.n) := by
  obtain ⟨dx, h1, _⟩ := h
  exact ev_fld ho h1 T.k_Call T.n_Call_number lk_here
theorem cl_told (T : Tx K mg) (h : CallI K H c d r cm) (ho : Ev ta σ H (.ref c)) : Ev (tFld K ta "told") σ H (.ref d) := by
  obtain ⟨dx, h1, _⟩ := h
  exact ev_fld ho h1 T.k_Call T.n_Call_told ((lk_past (by decide)).trans lk_here)
theorem cl_row (T : Tx K mg) (h : CallI K H c d r cm) (ho : Ev ta σ H (.ref c)) : Ev (tFld K ta "row") σ H (.ref r) := by
  obtain ⟨dx, h1, _⟩ := h
  exact ev_fld ho h1 T.k_Call T.n_Call_row ((lk_past (by decide)).trans ((lk_past (by decide)).trans lk_here))
/-- call.told[x] -/
theorem cl_tl (T : Tx K mg) (h : CallI K H c d r cm) (ho : Ev ta σ H (.ref c)) {x : Str} {n : Int} (hx : tl cm.told x = some n) : Ev (tDGet (tFld K ta "told") (tC (.str x))) σ H (.int n) := by
  refine ev_dget (k := Sum.inr x) (cl_told T h ho) ev_c (by obtain ⟨dx, _, h2, _⟩ := h; exact h2) ?_
  rw [valV_told, hx]
  rfl
end
end FB
-- T3
set_option Elab.async false
set_option linter.all false
set_option maxRecDepth 100000
set_option maxHeartbeats 3900000
namespace FB
open PySem PySem.Spec PyProof.Rows L2 Evl
section
variable {K : PySem.W.Frag} {mg : Str → Option Value} {P : Program} {base : Heap} {w : World}
/-- C(..): a new instance; the arguments' objects stand -/
theorem eq_makeE {σ : L2.St} {H : Hp} {C : Addr} {E : XK} {t : TA} {vs : List V} {sp : Sp} {fs : List (Str × V)} (ht : EvA t σ H vs) (hsp : ∀ x dx H1 Q, Ex H H1 → H1 x = some (.ins C dx []) → (∀ H2, ExB x H1 H2 → H2 x = some (.ins C dx fs) → Q .non H2) → sp (.ref x :: vs) H1 Q E) :
    EvQ (tMake C sp [] E t) σ H (fun v H1 H2 => ∃ x dx, v = .ref x ∧ H1 x = none ∧ H2 x = some (.ins C dx fs)) := fun H1 e Q q => ht H1 e _ fun H2 e2 x dx nx nd ne => by
  rw [List.append_nil]
  have e3 : Ex H2 (upd (upd H2 dx (.own x)) x (.ins C dx [])) := fun b o hb => by
    rw [upd_ne (ne_of_none hb nx), upd_ne (ne_of_none hb nd)]
    exact hb
  refine hsp x dx _ _ ((e.trans e2).trans e3) upd_same fun H3 e4 h3 => ⟨rfl, q _ H3 (fun b o hb => ?_) ⟨x, dx, rfl, fresh_back e2 nx, h3⟩⟩
  have hb2 := e2 b o hb
  exact e4 b o (ne_of_none hb2 nx) (e3 b o hb2)
/-- a teller's promise: what it answers, what the record is behind it -/
def spTell (K : PySem.W.Frag) (ok : RecM → CallM → Prop) (f : RecM → CallM → Int × RecM) : Sp := fun vs H Q _ => ∃ (A : RecA) (m : RecM) (c d r : Addr) (cm : CallM), vs = [.ref A.R, .ref c] ∧ RecAt K A H m ∧ CallI K (hid A.S H) c d r cm ∧ ok m cm ∧
  ∀ H2, ExS A.S H H2 → RecAt K A H2 (f m cm).2 → Q (.int (f m cm).1) H2
abbrev s_tell_small : Stmt := topS 113
abbrev N_tell_small : List Str := ["record", "call"]
theorem sc_tell_small : FnScope N_tell_small ["record", "call"] (defScope s_tell_small) := ⟨rfl, rfl, rfl, by decide +kernel, rfl, by decide +kernel, by decide +kernel⟩
def okSmall (m : RecM) (c : CallM) : Prop := (tl c.told "owner").isSome = true ∧ (tl c.told "yes").isSome = true ∧ m.smalls.length < 100000
def tellSmall (m : RecM) (c : CallM) : Int × RecM := (0, { m with smalls := putI m.smalls ((tl c.told "owner").getD 0) ((tl c.told "yes").getD 0) })
theorem some_getD {x : Option Int} (h : x.isSome = true) : x = some (x.getD 0) := by
  cases x with
  | none => cases h
  | some i => rfl
theorem ok_tell_small (T : Tx K mg) : Own P w K mg base CX0 1 "tell_small" ["record", "call"] (spTell K okSmall tellSmall) := by
  refine own_mk T.d_tell_small T.g_tell_small (fun _ _ _ _ _ _ us hl => match us, hl with | [_, _], _ => rfl) fun fd F => ?_
  refine F.ok sc_tell_small (fun vs H Q E h => by obtain ⟨A, m, c, d, r, cm, rfl, _⟩ := h; rfl) (fun cdv A outer s H vs Q E hr h => ⟨_, PSs.nox
    (pss_cons (ps_dput (hu_of hr) (pe_fld (pv 0) rfl) (pe_dget (hu_of hr) (pe_fld (pv 1) rfl) pe_str (fun _ _ => rfl)) (pe_dget (hu_of hr) (pe_fld (pv 1) rfl) pe_str (fun _ _ => rfl)) rfl)
    (pss_one (ps_ret pe_int))), ?_⟩)
  obtain ⟨A, m, c, d, r, cm, rfl, hR, hC, ⟨ho, hy, hl⟩, k⟩ := h
  have hC0 := hC.stay hid_le
  refine q_dput (k := Sum.inl ((tl cm.told "owner").getD 0)) (cl_tl T hC0 (ev_var rfl) (some_getD hy)) (rd_small T hR (ev_var rfl)) (cl_tl T hC0 (ev_var rfl) (some_getD ho)) hR.sml (Nat.lt_trans (by unfold smlK; rw [List.length_map]; exact hl) (by decide)) fun H1 e1 => ?_
  rw [put_sml]
  exact s_ret ev_c fun H2 e2 => k H2 (((ExS.of e1).upd A.inM).trans (ExS.of e2)) (((hR.stay e1).putM).stay e2)
abbrev s_tell_event : Stmt := topS 115
abbrev N_tell_event : List Str := ["record", "call", "event"]
theorem sc_tell_event : FnScope N_tell_event ["record", "call"] (defScope s_tell_event) := ⟨rfl, rfl, rfl, by decide +kernel, rfl, by decide +kernel, by decide +kernel⟩
def okEvent (m : RecM) (c : CallM) : Prop := (tl c.told "event").isSome = true ∧ (tl c.told "day").isSome = true ∧ m.events.length ≤ 1000
def tellEvent (m : RecM) (c : CallM) : Int × RecM :=
  if (m.events.find? fun e => decide (evK e = evK (evOf c))).isSome = true then (-6, m) else if 60 ≤ m.events.length then (-9, m) else ((m.events.length : Int) + 1, { m with events := m.events ++ [evOf c] })
theorem ok_tell_event (T : Tx K mg) : Own P w K mg base CX0 3 "tell_event" ["record", "call"] (spTell K okEvent tellEvent) := by
  refine own_mk T.d_tell_event T.g_tell_event (fun _ _ _ _ _ _ us hl => match us, hl with | [_, _], _ => rfl) fun fd F => ?_
  refine F.ok sc_tell_event (fun vs H Q E h => by obtain ⟨A, m, c, d, r, cm, rfl, _⟩ := h; rfl) (fun cdv A outer s H vs Q E hr h => ⟨_, PSs.nox
    (pss_cons (ps_set (i := 2) sc_tell_event.nd rfl (Or.inl rfl) (pe_ownMk (mk_Event T) hr (by decide) pass0 (pa_cons (pe_fld (pv 1) rfl) (pa_cons (pe_fld (pv 1) rfl) (pa_cons (pe_fld (pv 1) rfl) pa_nil)))))
    (pss_cons (ps_if (pt_cmp (pc_din (hu_of hr) (pe_fld (pv 2) rfl) (pe_fld (pv 0) rfl)))
      (pss_one (ps_ret (pe_un un_neg pe_int)))
      pss_nil)
    (pss_cons (ps_if (pt_cmpR op_ge (pe_callB call_lenD (by rfl) T.b_len PySem.boot_len (pa_cons (pe_fld (pv 0) rfl) pa_nil)) (pe_cint T.c_MOST_EVENTS) (nomark _))
      (pss_one (ps_ret (pe_un un_neg pe_int)))
      pss_nil)
    (pss_cons (ps_dput (hu_of hr) (pe_fld (pv 0) rfl) (pe_fld (pv 2) rfl) (pv 2) rfl)
    (pss_one (ps_ret (pe_callB call_lenD (by rfl) T.b_len PySem.boot_len (pa_cons (pe_fld (pv 0) rfl) pa_nil)))))))), ?_⟩)
  obtain ⟨A, m, c, d, r, cm, rfl, hR, hC, ⟨he, hy, hl⟩, k⟩ := h
  have hC0 := hC.stay hid_le
  obtain ⟨dxc, c1, c2, c3⟩ := hC
  refine q_asgQ (eq_makeE (fs := eventNames.zip (evV r (evOf cm))) (ea_cons (cl_number T hC0 (ev_var rfl)) (ea_cons (cl_told T hC0 (ev_var rfl)) (ea_cons (cl_row T hC0 (ev_var rfl)) ea_nil))) (fun x dx H1 Q e1 h1 q => ⟨x, dx, d, r, cm, rfl, h1, e1 _ _ (hid_le _ _ c2), he, hy, q⟩)) fun v H1 e1 hv => ?_
  obtain ⟨x, dx, rfl, hx, hx1⟩ := hv
  have hR1 := hR.stay e1
  obtain ⟨kvs, hk, ht⟩ := hR1.evs
  have xS : x ∉ A.S := fun z => by
    obtain ⟨lw, o1, _⟩ := hR.obj
    obtain ⟨_, o2, _⟩ := hR.sch
    obtain ⟨_, o4, _⟩ := hR.evs
    have o3 := hR.sml
    unfold RecA.S at z
    simp only [List.mem_cons, List.not_mem_nil, or_false] at z
    rcases z with z | z | z | z
    · rw [z, o1] at hx
      cases hx
    · rw [z, o2] at hx
      cases hx
    · rw [z, o3] at hx
      cases hx
    · rw [z, o4] at hx
      cases hx
  have hn : (eventNames.zip (evV r (evOf cm))).lookup ("number" : Str) = some (.int (evOf cm).number) := (lk_past (by decide)).trans lk_here
  have evn : ∀ {H2 : Hp}, Ex H1 H2 → Ev (tFld K (tVar 2) "number") (List.set [some (V.ref A.R), some (V.ref c), none] 2 (some (V.ref x))) H2 (kV (evK (evOf cm))) := fun e2 => ev_fld (ev_var rfl) (e2 _ _ hx1) T.k_Event T.n_Event_number hn
  have evt : EvAt K (hid A.S H1) x (evOf cm) := ⟨dx, r, by rw [hid_at xS]; exact hx1, hid_mono e1 _ _ c3⟩
  unfold tellEvent at k
  refine q_when (et_B (ev_din (evn (Ex.refl _)) (rd_events T hR1 (ev_var rfl)) hk)) (fun hb H2 e2 => ?_) (fun hb H2 e2 => ?_)
  · rcases ht.find (evK (evOf cm)) with ⟨h1, h2⟩ | ⟨m0, v, h1, h2, h3⟩
    · rw [h1] at hb
      cases hb
    · rw [h1] at k
      exact s_ret (ev_neg ev_c) fun H3 e3 => k H3 (ExS.of ((e1.trans e2).trans e3)) (hR.stay ((e1.trans e2).trans e3))
  have hnone : valV kvs (evK (evOf cm)) = none := by
    cases q : valV kvs (evK (evOf cm)) with
    | none => rfl
    | some v =>
      rw [q] at hb
      cases hb
  have hfind : m.events.find? (fun e => decide (evK e = evK (evOf cm))) = none := by
    rcases ht.find (evK (evOf cm)) with ⟨h1, h2⟩ | ⟨m0, v, h1, h2, h3⟩
    · exact h2
    · rw [h2] at hnone
      cases hnone
  rw [hfind] at k
  have hlen : (kvs.length : Int) = (m.events.length : Int) := by rw [ht.len]
  have hR2 := hR1.stay e2
  refine q_when (et_test (ev_op (ev_is (ev_lenD (rd_events T hR2 (ev_var rfl)) (e2 _ _ hk)) (congrArg V.int hlen)) ev_c rv_cmp)) (fun hb2 H3 e3 => ?_) (fun hb2 H3 e3 => ?_)
  · have h60 : 60 ≤ m.events.length := by
      have := of_decide_eq_true hb2
      omega
    rw [if_neg (by decide), if_pos h60] at k
    have ee := ((e1.trans e2).trans e3)
    exact s_ret (ev_neg ev_c) fun H4 e4 => k H4 (ExS.of (ee.trans e4)) (hR.stay (ee.trans e4))
  · have h60 : ¬ 60 ≤ m.events.length := by
      have := of_decide_eq_false hb2
      omega
    rw [if_neg (by decide), if_neg h60] at k
    have ee := (e2.trans e3)
    have hR3 := hR2.stay e3
    refine q_dput (k := evK (evOf cm)) (ev_var rfl) (rd_events T hR3 (ev_var rfl)) (evn ee) (ee _ _ hk) (Nat.lt_of_le_of_lt (by rw [ht.len]; exact hl) (by decide)) fun H4 e4 => ?_
    have hR4 := (hR3.stay e4).putE (es := m.events ++ [evOf cm]) (kvs := putK kvs (evK (evOf cm)) (.ref x)) (Tabl.put (Tabl.mono (fun m v => evR.stay (hid_mono (ee.trans e4))) ht) hnone ⟨x, rfl, evt.stay (hid_mono (ee.trans e4))⟩)
    have hl4 : ((putK kvs (evK (evOf cm)) (V.ref x)).length : Int) = (m.events.length : Int) + 1 := by
      rw [putK_new _ hnone, List.length_append, List.length_singleton, ht.len]
      omega
    refine s_ret (ev_is (ev_lenD (rd_events T hR4 (ev_var rfl)) upd_same) (congrArg V.int hl4)) fun H5 e5 => ?_
    exact k H5 (((ExS.of (e1.trans (ee.trans e4))).upd A.inE).trans (ExS.of e5)) (hR4.stay e5)
end
end FB
-- T4
set_option Elab.async false
set_option linter.all false
set_option maxRecDepth 100000
set_option maxHeartbeats 3900000
namespace FB
open PySem PySem.Spec PyProof.Rows L2 Evl
section
variable {K : PySem.W.Frag} {mg : Str → Option Value} {P : Program} {base : Heap} {w : World}
abbrev s_has_follower : Stmt := topS 116
abbrev N_has_follower : List Str := ["record", "number", "event"]
theorem sc_has_follower : FnScope N_has_follower ["record", "number"] (defScope s_has_follower) := ⟨rfl, rfl, rfl, by decide +kernel, rfl, by decide +kernel, by decide +kernel⟩
def followM (m : RecM) (n : Int) : Bool := (m.events.map fun e => decide (e.about = n)).any id
def sp_has_follower (K : PySem.W.Frag) : Sp := fun vs H Q _ => ∃ (A : RecA) (m : RecM) (n : Int), vs = [.ref A.R, .int n] ∧ RecAt K A H m ∧ m.events.length ≤ 1000 ∧ RetV (.bl (followM m n)) H Q
theorem fl_about {r : Addr} {e : EvM} : (eventNames.zip (evV r e)).lookup ("about" : Str) = some (.int e.about) := (lk_past (by decide)).trans ((lk_past (by decide)).trans ((lk_past (by decide)).trans ((lk_past (by decide)).trans ((lk_past (by decide)).trans ((lk_past (by decide)).trans ((lk_past (by decide)).trans ((lk_past (by decide)).trans lk_here)))))))
theorem fl_kind {r : Addr} {e : EvM} : (eventNames.zip (evV r e)).lookup ("kind" : Str) = some (.int e.kind) := lk_here
theorem fl_day {r : Addr} {e : EvM} : (eventNames.zip (evV r e)).lookup ("day" : Str) = some (.int e.day) := (lk_past (by decide)).trans ((lk_past (by decide)).trans lk_here)
theorem paired_zip {α β : Type} {R : α → β → Prop} {l : List α} {xs : List β} (h : Paired R l xs) : ∃ ks : List (α × β), l = ks.map (·.1) ∧ xs = ks.map (·.2) ∧ ∀ q ∈ ks, R q.1 q.2 := by
  induction h with
  | nil => exact ⟨[], rfl, rfl, fun q hq => nomatch hq⟩
  | @cons a b l xs h t ih =>
    obtain ⟨ks, rfl, rfl, hk⟩ := ih
    refine ⟨(a, b) :: ks, rfl, rfl, fun q hq => ?_⟩
    rcases List.mem_cons.mp hq with rfl | later
    · exact h
    · exact hk q later
theorem ok_has_follower (T : Tx K mg) : Own P w K mg base CX0 1 "has_follower" ["record", "number"] (sp_has_follower K) := by
  refine own_mk T.d_has_follower T.g_has_follower (fun _ _ _ _ _ _ us hl => match us, hl with | [_, _], _ => rfl) fun fd F => ?_
  refine F.ok sc_has_follower (fun vs H Q E h => by obtain ⟨A, m, n, rfl, _⟩ := h; rfl) (fun cdv A outer s H vs Q E hr h => ⟨_, PSs.nox
    (pss_one (ps_ret (pe_callB (cr_any rfl) (by rfl) T.b_any (by decide +kernel) (pa_cons (pe_lock (pe_lc (own := [("event", 2)]) (g := gName 2) (tt := tYes) rfl sc_has_follower.nd (pi_values (pe_fld (pv 0) rfl)) (blkOk_by (N := N_has_follower) (sc := defScope s_has_follower) (by decide +kernel)) (fun _ _ _ _ _ => by exact (pg_name (i := 2) sc_has_follower.nd rfl (Or.inl rfl))) (fun _ _ _ _ _ => by exact pts_nil) (fun _ _ _ _ _ => by exact (pe_cmpR op_eq (pe_fldK (K := K) rfl (pv 2) (by rfl)) (pv 1) (nomark _))))) pa_nil)))), ?_⟩)
  obtain ⟨A, m, n, rfl, hR, hl, k⟩ := h
  obtain ⟨kvs, hk, ht⟩ := hR.evs
  obtain ⟨ks, h1, h2, h3⟩ := paired_zip ht
  obtain ⟨lw, ho, _⟩ := hR.obj
  unfold followM at k
  rw [h1] at k hl
  rw [List.length_map] at hl
  subst h2
  refine s_ret (ev_anyN (bs := (ks.map (fun q : EvM × (Key × V) => q.1)).map fun (e : EvM) => decide (e.about = n)) (el_lock hk fun od HL hL eb => ?_)) k
  have hRL : HL A.R = some (.ins (He.ga K "Record") A.dx (recordNames.zip (recV A lw))) := eb _ _ (Ne.symm hR.neR.2.2) ho
  simp only [List.map_map]
  have hi := ei_vals (σ := L2.start N_has_follower [V.ref A.R, V.int n]) (td := tFld K (tVar 0) "events") (H := HL) (ev_fld (ev_var rfl) hRL T.k_Record T.n_Record_events ((lk_past (by decide)).trans ((lk_past (by decide)).trans ((lk_past (by decide)).trans lk_here)))) hL
  rw [List.length_map] at hi
  refine el_map (l := ks) (fun q => q.2.2) _ hi (fun i x h => by rw [List.map_map] at h; exact h) (by omega) (fun _ => rfl) fun q H1 e1 hq => ?_
  obtain ⟨_, a, ha, dx, r, g1, _⟩ := h3 q hq
  have g2 : H1 a = some (.ins (He.ga K "Event") dx (eventNames.zip (evV r q.1))) := e1 _ _ (eb _ _ (fun z => (hid_of g1).1 (by rw [z]; exact A.inE)) (hid_of g1).2)
  exact ev_op (ev_fld (ev_is (ev_var rfl) ha) g2 T.k_Event T.n_Event_about fl_about) (ev_var rfl) rv_eqI
abbrev s_target_refusal : Stmt := topS 25
abbrev N_target_refusal : List Str := ["record", "call", "kind", "target"]
theorem sc_target_refusal : FnScope N_target_refusal ["record", "call", "kind"] (defScope s_target_refusal) := ⟨rfl, rfl, rfl, by decide +kernel, rfl, by decide +kernel, by decide +kernel⟩
def refusalM (m : RecM) (c : CallM) (kind : Int) : Int := match m.events.find? fun e => decide (evK e = Sum.inl ((tl c.told "about").getD 0)) with
  | none => -5
  | some e => if (!decide (e.kind = kind)) = true then -5 else if (tl c.told "day").getD 0 < e.day then -7 else 0
def sp_target_refusal (K : PySem.W.Frag) : Sp := fun vs H Q _ => ∃ (A : RecA) (m : RecM) (c d r : Addr) (cm : CallM) (kind : Int), vs = [.ref A.R, .ref c, .int kind] ∧ RecAt K A H m ∧ CallI K H c d r cm ∧ (tl cm.told "about").isSome = true ∧ (tl cm.told "day").isSome = true ∧ RetV (.int (refusalM m cm kind)) H Q
theorem ok_target_refusal (T : Tx K mg) : Own P w K mg base CX0 1 "target_refusal" ["record", "call", "kind"] (sp_target_refusal K) := by
  refine own_mk T.d_target_refusal T.g_target_refusal (fun _ _ _ _ _ _ us hl => match us, hl with | [_, _, _], _ => rfl) fun fd F => ?_
  refine F.ok sc_target_refusal (fun vs H Q E h => by obtain ⟨A, m, c, d, r, cm, kind, rfl, _⟩ := h; rfl) (fun cdv A outer s H vs Q E hr h => ⟨_, PSs.nox
    (pss_cons (ps_set (i := 3) sc_target_refusal.nd rfl (Or.inl rfl) (pe_dget1 (hu_of hr) (pe_fld (pv 0) rfl) (pe_dget (hu_of hr) (pe_fld (pv 1) rfl) pe_str (fun _ _ => rfl)) (by exact ⟨rfl, rfl, rfl, rfl⟩)))
    (pss_cons (ps_if (PW.pt (pw_or (pt_cmpR op_isN (pv 3) pe_non (nomark _)) (pw_or1 (pt_cmpR op_ne (pe_fld (pv 3) rfl) (pv 2) (nomark _)))))
      (pss_one (ps_ret (pe_un un_neg pe_int)))
      pss_nil)
    (pss_cons (ps_if (pt_cmpR op_lt (pe_dget (hu_of hr) (pe_fld (pv 1) rfl) pe_str (fun _ _ => rfl)) (pe_fld (pv 3) rfl) (nomark _))
      (pss_one (ps_ret (pe_un un_neg pe_int)))
      pss_nil)
    (pss_one (ps_ret pe_int))))), ?_⟩)
  obtain ⟨A, m, c, d, r, cm, kind, rfl, hR, hC, ha, hy, k⟩ := h
  obtain ⟨kvs, hk, ht⟩ := hR.evs
  refine q_asg (ev_dget1 (k := Sum.inl ((tl cm.told "about").getD 0)) (rd_events T hR (ev_var rfl)) (cl_tl T hC (ev_var rfl) (some_getD ha)) hk) fun H1 e1 => ?_
  unfold refusalM at k
  have isN : ∀ {H2 : Hp} {v : V}, RV (fun x y H Q => y = .non ∧ Q (.bl (decide (x = .non))) H) v .non H2 (.bl (decide (v = .non))) := fun H3 e3 Q q => ⟨rfl, q H3 (Ex.refl H3)⟩
  rcases ht.find (Sum.inl ((tl cm.told "about").getD 0)) with ⟨f1, f2⟩ | ⟨e, v, f1, f2, a, rfl, hE⟩
  · rw [f2] at k
    rw [f1]
    refine q_when (et_is (et_or (et_test (ev_op (ev_var rfl) ev_c isN)) (b := false) fun h => nomatch h) (b := true) rfl) (fun _ H2 e2 => ?_) (fun h => Bool.noConfusion h)
    exact s_ret (ev_neg ev_c) fun H3 e3 => k H3 ((e1.trans e2).trans e3)
  · rw [f1] at k
    rw [f2]
    obtain ⟨dx, rr, g1, _⟩ := hE
    have g2 := e1 _ _ (hid_of g1).2
    dsimp only at k
    refine q_when (et_is (et_or (et_test (ev_op (ev_var rfl) ev_c isN)) fun _ => et_test (ev_op (ev_fld (ev_var rfl) g2 T.k_Event T.n_Event_kind fl_kind) (ev_var rfl) rv_neI)) (b := !decide (e.kind = kind)) rfl) (fun hb H2 e2 => ?_) (fun hb H2 e2 => ?_)
    · rw [if_pos hb] at k
      exact s_ret (ev_neg ev_c) fun H3 e3 => k H3 ((e1.trans e2).trans e3)
    · rw [if_neg (by rw [hb]; decide)] at k
      refine q_when (et_test (ev_op (cl_tl T (hC.stay (e1.trans e2)) (ev_var rfl) (some_getD hy)) (ev_fld (ev_var rfl) (e2 _ _ g2) T.k_Event T.n_Event_day fl_day) rv_cmp)) (fun hb H3 e3 => ?_) (fun hb H3 e3 => ?_)
      · rw [if_pos (of_decide_eq_true hb)] at k
        exact s_ret (ev_neg ev_c) fun H4 e4 => k H4 (((e1.trans e2).trans e3).trans e4)
      · rw [if_neg (of_decide_eq_false hb)] at k
        exact s_ret ev_c fun H4 e4 => k H4 (((e1.trans e2).trans e3).trans e4)
end
end FB
-- T5
set_option Elab.async false
set_option linter.all false
set_option maxRecDepth 100000
set_option maxHeartbeats 3900000
namespace FB
open PySem PySem.Spec PyProof.Rows L2 Evl
section
variable {K : PySem.W.Frag} {mg : Str → Option Value} {P : Program} {base : Heap} {w : World}
theorem s_retC {σ : L2.St} {H : Hp} {D : Ends} {sp : Sp} {E : XK} {t : TA} {vs : List V} (ht : EvA t σ H vs) (h : ∀ H1, Ex H H1 → sp vs H1 D.rt E) : tRet (tCall sp [] E t) D σ H := ht H (Ex.refl H) _ fun H1 e1 => by
  rw [List.append_nil]
  exact h H1 e1
theorem spV_follow {σ : L2.St} {H : Hp} {A : RecA} {m : RecM} {n : Int} (hR : RecAt K A H m) (hl : m.events.length ≤ 1000) : SpV (sp_has_follower K) [.ref A.R, .int n] H (.bl (followM m n)) := fun H1 e Q q E => ⟨A, m, n, rfl, hR.stay e, hl, fun H2 e2 => q H2 e2⟩
theorem spV_refusal {H : Hp} {A : RecA} {m : RecM} {c d r : Addr} {cm : CallM} {kind : Int} (hR : RecAt K A H m) (hC : CallI K H c d r cm) (ha : (tl cm.told "about").isSome = true) (hy : (tl cm.told "day").isSome = true) : SpV (sp_target_refusal K) [.ref A.R, .ref c, .int kind] H (.int (refusalM m cm kind)) := fun H1 e Q q E =>
  ⟨A, m, c, d, r, cm, kind, rfl, hR.stay e, hC.stay e, ha, hy, fun H2 e2 => q H2 e2⟩
/-- a teller that ends in another -/
theorem tell_on {f : RecM → CallM → Int × RecM} {ok : RecM → CallM → Prop} {H H1 : Hp} {A : RecA} {m : RecM} {c d r : Addr} {cm : CallM} {Q : VK} {E : XK} (hR : RecAt K A H m) (hC : CallI K (hid A.S H) c d r cm) (ho : ok m cm) (e : Ex H H1) (k : ∀ H2, ExS A.S H H2 → RecAt K A H2 (f m cm).2 → Q (.int (f m cm).1) H2) : spTell K ok f [.ref A.R, .ref c] H1 Q E :=
  ⟨A, m, c, d, r, cm, rfl, hR.stay e, hC.stay (hid_mono e), ho, fun H2 e2 h2 => k H2 ((ExS.of e).trans e2) h2⟩
abbrev s_tell_bounce : Stmt := topS 117
abbrev N_tell_bounce : List Str := ["record", "call", "refusal"]
theorem sc_tell_bounce : FnScope N_tell_bounce ["record", "call"] (defScope s_tell_bounce) := ⟨rfl, rfl, rfl, by decide +kernel, rfl, by decide +kernel, by decide +kernel⟩
def okBounce (m : RecM) (c : CallM) : Prop := okEvent m c ∧ (tl c.told "about").isSome = true
def tellBounce (m : RecM) (c : CallM) : Int × RecM := if refusalM m c 3 < 0 then (refusalM m c 3, m) else if followM m ((tl c.told "about").getD 0) = true then (-8, m) else tellEvent m c
theorem ok_tell_bounce (T : Tx K mg) : Own P w K mg base CX0 4 "tell_bounce" ["record", "call"] (spTell K okBounce tellBounce) := by
  refine own_mk T.d_tell_bounce T.g_tell_bounce (fun _ _ _ _ _ _ us hl => match us, hl with | [_, _], _ => rfl) fun fd F => ?_
  refine F.ok sc_tell_bounce (fun vs H Q E h => by obtain ⟨A, m, c, d, r, cm, rfl, _⟩ := h; rfl) (fun cdv A outer s H vs Q E hr h => ⟨_, PSs.nox
    (pss_cons (ps_set (i := 2) sc_tell_bounce.nd rfl (Or.inl rfl) (pe_own (ok_target_refusal T) hr (by decide) pass0 (pa_cons (pv 0) (pa_cons (pv 1) (pa_cons (pe_cint T.c_DEPOSIT) pa_nil)))))
    (pss_cons (ps_if (pt_cmpR op_lt (pv 2) pe_int (nomark _))
      (pss_one (ps_ret (pv 2)))
      pss_nil)
    (pss_cons (ps_if (pt_val (pe_own (ok_has_follower T) hr (by decide) pass0 (pa_cons (pv 0) (pa_cons (pe_dget (hu_of hr) (pe_fld (pv 1) rfl) pe_str (fun _ _ => rfl)) pa_nil))))
      (pss_one (ps_ret (pe_un un_neg pe_int)))
      pss_nil)
    (pss_one (ps_ret (pe_own (ok_tell_event T) hr (by decide) pass0 (pa_cons (pv 0) (pa_cons (pv 1) pa_nil)))))))), ?_⟩)
  obtain ⟨A, m, c, d, r, cm, rfl, hR, hC, ⟨ho, ha⟩, k⟩ := h
  have hC0 := hC.stay hid_le
  refine q_asg (ev_call (ea_cons (ev_var rfl) (ea_cons (ev_var rfl) (ea_cons ev_c ea_nil))) (spV_refusal hR hC0 ha ho.2.1)) fun H1 e1 => ?_
  unfold tellBounce at k
  refine q_when (et_test (ev_op (ev_var rfl) ev_c rv_cmp)) (fun hb H2 e2 => ?_) (fun hb H2 e2 => ?_)
  · rw [if_pos (of_decide_eq_true hb)] at k
    exact s_ret (ev_var rfl) fun H3 e3 => k H3 (ExS.of ((e1.trans e2).trans e3)) (hR.stay ((e1.trans e2).trans e3))
  rw [if_neg (of_decide_eq_false hb)] at k
  have e12 := e1.trans e2
  refine q_when (et_B (ev_call (ea_cons (ev_var rfl) (ea_cons (cl_tl T (hC0.stay e12) (ev_var rfl) (some_getD ha)) ea_nil)) (spV_follow (σ := []) (hR.stay e12) ho.2.2))) (fun hb H3 e3 => ?_) (fun hb H3 e3 => ?_)
  · rw [if_pos hb] at k
    exact s_ret (ev_neg ev_c) fun H4 e4 => k H4 (ExS.of ((e12.trans e3).trans e4)) (hR.stay ((e12.trans e3).trans e4))
  rw [if_neg (by rw [hb]; decide)] at k
  exact s_retC (ea_cons (ev_var rfl) (ea_cons (ev_var rfl) ea_nil)) fun H4 e4 => tell_on hR hC ho ((e12.trans e3).trans e4) k
abbrev s_tell_refund : Stmt := topS 119
abbrev N_tell_refund : List Str := ["record", "call", "refusal"]
theorem sc_tell_refund : FnScope N_tell_refund ["record", "call"] (defScope s_tell_refund) := ⟨rfl, rfl, rfl, by decide +kernel, rfl, by decide +kernel, by decide +kernel⟩
def tellRefund (m : RecM) (c : CallM) : Int × RecM := if refusalM m c 5 < 0 then (refusalM m c 5, m) else tellEvent m c
theorem ok_tell_refund (T : Tx K mg) : Own P w K mg base CX0 4 "tell_refund" ["record", "call"] (spTell K okBounce tellRefund) := by
  refine own_mk T.d_tell_refund T.g_tell_refund (fun _ _ _ _ _ _ us hl => match us, hl with | [_, _], _ => rfl) fun fd F => ?_
  refine F.ok sc_tell_refund (fun vs H Q E h => by obtain ⟨A, m, c, d, r, cm, rfl, _⟩ := h; rfl) (fun cdv A outer s H vs Q E hr h => ⟨_, PSs.nox
    (pss_cons (ps_set (i := 2) sc_tell_refund.nd rfl (Or.inl rfl) (pe_own (ok_target_refusal T) hr (by decide) pass0 (pa_cons (pv 0) (pa_cons (pv 1) (pa_cons (pe_cint T.c_CHARGE) pa_nil)))))
    (pss_cons (ps_if (pt_cmpR op_lt (pv 2) pe_int (nomark _))
      (pss_one (ps_ret (pv 2)))
      pss_nil)
    (pss_one (ps_ret (pe_own (ok_tell_event T) hr (by decide) pass0 (pa_cons (pv 0) (pa_cons (pv 1) pa_nil))))))), ?_⟩)
  obtain ⟨A, m, c, d, r, cm, rfl, hR, hC, ⟨ho, ha⟩, k⟩ := h
  have hC0 := hC.stay hid_le
  refine q_asg (ev_call (ea_cons (ev_var rfl) (ea_cons (ev_var rfl) (ea_cons ev_c ea_nil))) (spV_refusal hR hC0 ha ho.2.1)) fun H1 e1 => ?_
  unfold tellRefund at k
  refine q_when (et_test (ev_op (ev_var rfl) ev_c rv_cmp)) (fun hb H2 e2 => ?_) (fun hb H2 e2 => ?_)
  · rw [if_pos (of_decide_eq_true hb)] at k
    exact s_ret (ev_var rfl) fun H3 e3 => k H3 (ExS.of ((e1.trans e2).trans e3)) (hR.stay ((e1.trans e2).trans e3))
  rw [if_neg (of_decide_eq_false hb)] at k
  exact s_retC (ea_cons (ev_var rfl) (ea_cons (ev_var rfl) ea_nil)) fun H4 e4 => tell_on hR hC ho ((e1.trans e2).trans e4) k
abbrev s_tell_charge : Stmt := topS 118
abbrev N_tell_charge : List Str := ["record", "call"]
theorem sc_tell_charge : FnScope N_tell_charge ["record", "call"] (defScope s_tell_charge) := ⟨rfl, rfl, rfl, by decide +kernel, rfl, by decide +kernel, by decide +kernel⟩
def okCharge (m : RecM) (c : CallM) : Prop := okEvent m c ∧ c.row.length ≤ 40000
def tellCharge (m : RecM) (c : CallM) : Int × RecM := if isNam c.row = true then tellEvent m c else (-4, m)
theorem ok_tell_charge (T : Tx K mg) : Own P w K mg base CX0 4 "tell_charge" ["record", "call"] (spTell K okCharge tellCharge) := by
  refine own_mk T.d_tell_charge T.g_tell_charge (fun _ _ _ _ _ _ us hl => match us, hl with | [_, _], _ => rfl) fun fd F => ?_
  refine F.ok sc_tell_charge (fun vs H Q E h => by obtain ⟨A, m, c, d, r, cm, rfl, _⟩ := h; rfl) (fun cdv A outer s H vs Q E hr h => ⟨_, PSs.nox
    (pss_cons (ps_if (pt_not (pt_val (pe_own (ok_is_name T) hr (by decide) pass0 (pa_cons (pe_fld (pv 1) rfl) pa_nil))))
      (pss_one (ps_ret (pe_un un_neg pe_int)))
      pss_nil)
    (pss_one (ps_ret (pe_own (ok_tell_event T) hr (by decide) pass0 (pa_cons (pv 0) (pa_cons (pv 1) pa_nil)))))), ?_⟩)
  obtain ⟨A, m, c, d, r, cm, rfl, hR, hC, ⟨ho, hz⟩, k⟩ := h
  have hC0 := hC.stay hid_le
  unfold tellCharge at k
  refine q_when (et_not (et_B (ev_call (z := .bl (isNam cm.row)) (ea_cons (cl_row T hC0 (ev_var rfl)) ea_nil) fun H1 e Q q E => ⟨r, cm.row, rfl, by obtain ⟨dx, _, _, h3⟩ := hC0; exact sq_of (e _ _ h3), hz, fun H2 e2 => q H2 e2⟩))) (fun hb H1 e1 => ?_) (fun hb H1 e1 => ?_)
  · rw [if_neg (by intro z; rw [z] at hb; cases hb)] at k
    exact s_ret (ev_neg ev_c) fun H3 e3 => k H3 (ExS.of (e1.trans e3)) (hR.stay (e1.trans e3))
  · rw [if_pos (by cases q : isNam cm.row with | true => rfl | false => (rw [q] at hb; cases hb))] at k
    exact s_retC (ea_cons (ev_var rfl) (ea_cons (ev_var rfl) ea_nil)) fun H4 e4 => tell_on hR hC ho (e1.trans e4) k
abbrev s_tell_undo : Stmt := topS 120
abbrev N_tell_undo : List Str := ["record", "call", "number"]
theorem sc_tell_undo : FnScope N_tell_undo ["record", "call"] (defScope s_tell_undo) := ⟨rfl, rfl, rfl, by decide +kernel, rfl, by decide +kernel, by decide +kernel⟩
def okUndo (m : RecM) (c : CallM) : Prop := (tl c.told "undone").isSome = true ∧ m.events.length ≤ 1000
def tellUndo (m : RecM) (c : CallM) : Int × RecM := if (m.events.find? fun e => decide (evK e = Sum.inl ((tl c.told "undone").getD 0))).isSome = true then (if followM m ((tl c.told "undone").getD 0) = true then (-7, m) else
    (((m.events.filter fun e => decide (evK e ≠ Sum.inl ((tl c.told "undone").getD 0))).length : Int), { m with events := m.events.filter fun e => decide (evK e ≠ Sum.inl ((tl c.told "undone").getD 0)) })) else (-5, m)
theorem ok_tell_undo (T : Tx K mg) : Own P w K mg base CX0 2 "tell_undo" ["record", "call"] (spTell K okUndo tellUndo) := by
  refine own_mk T.d_tell_undo T.g_tell_undo (fun _ _ _ _ _ _ us hl => match us, hl with | [_, _], _ => rfl) fun fd F => ?_
  refine F.ok sc_tell_undo (fun vs H Q E h => by obtain ⟨A, m, c, d, r, cm, rfl, _⟩ := h; rfl) (fun cdv A outer s H vs Q E hr h => ⟨_, PSs.nox
    (pss_cons (ps_set (i := 2) sc_tell_undo.nd rfl (Or.inl rfl) (pe_dget (hu_of hr) (pe_fld (pv 1) rfl) pe_str (fun _ _ => rfl)))
    (pss_cons (ps_if (pt_cmp (pc_dnotin (hu_of hr) (pv 2) (pe_fld (pv 0) rfl)))
      (pss_one (ps_ret (pe_un un_neg pe_int)))
      pss_nil)
    (pss_cons (ps_if (pt_val (pe_own (ok_has_follower T) hr (by decide) pass0 (pa_cons (pv 0) (pa_cons (pv 2) pa_nil))))
      (pss_one (ps_ret (pe_un un_neg pe_int)))
      pss_nil)
    (pss_cons (ps_expr (pe_dpop1 (pe_fld (pv 0) rfl) (pv 2) (by exact ⟨rfl, rfl, rfl, rfl⟩)))
    (pss_one (ps_ret (pe_callB call_lenD (by rfl) T.b_len PySem.boot_len (pa_cons (pe_fld (pv 0) rfl) pa_nil)))))))), ?_⟩)
  obtain ⟨A, m, c, d, r, cm, rfl, hR, hC, ⟨ha, hl⟩, k⟩ := h
  have hC0 := hC.stay hid_le
  obtain ⟨kvs, hk, ht⟩ := hR.evs
  refine q_asg (cl_tl T hC0 (ev_var rfl) (some_getD ha)) fun H1 e1 => ?_
  unfold tellUndo at k
  have hR1 := hR.stay e1
  refine q_when (et_B (ev_dnin (k := Sum.inl ((tl cm.told "undone").getD 0)) (ev_var rfl) (rd_events T hR1 (ev_var rfl)) (e1 _ _ hk))) (fun hb H2 e2 => ?_) (fun hb H2 e2 => ?_)
  · rcases ht.find (Sum.inl ((tl cm.told "undone").getD 0)) with ⟨f1, f2⟩ | ⟨e, v, f1, f2, f3⟩
    · rw [f2, if_neg (by decide)] at k
      exact s_ret (ev_neg ev_c) fun H3 e3 => k H3 (ExS.of ((e1.trans e2).trans e3)) (hR.stay ((e1.trans e2).trans e3))
    · rw [f2] at hb
      cases hb
  rcases ht.find (Sum.inl ((tl cm.told "undone").getD 0)) with ⟨f1, f2⟩ | ⟨e, v, f1, f2, f3⟩
  · rw [f1] at hb
    cases hb
  rw [f1, if_pos Option.isSome_some] at k
  have e12 := e1.trans e2
  refine q_when (et_B (ev_call (ea_cons (ev_var rfl) (ea_cons (ev_var rfl) ea_nil)) (spV_follow (σ := []) (hR.stay e12) hl))) (fun hb H3 e3 => ?_) (fun hb H3 e3 => ?_)
  · rw [if_pos hb] at k
    exact s_ret (ev_neg ev_c) fun H4 e4 => k H4 (ExS.of ((e12.trans e3).trans e4)) (hR.stay ((e12.trans e3).trans e4))
  rw [if_neg (by rw [hb]; decide)] at k
  have e13 := e12.trans e3
  refine q_dpop (k := Sum.inl ((tl cm.told "undone").getD 0)) (rd_events T (hR.stay e13) (ev_var rfl)) (ev_var rfl) (e13 _ _ hk) f2 fun H4 e4 => ?_
  have td := Tabl.drop (Sum.inl ((tl cm.told "undone").getD 0)) ht
  have hR4 := (hR.stay (e13.trans e4)).putE (Tabl.mono (fun m v => evR.stay (hid_mono (e13.trans e4))) td)
  have hl4 : ((dropK kvs (Sum.inl ((tl cm.told "undone").getD 0))).length : Int) = ((m.events.filter fun e => decide (evK e ≠ Sum.inl ((tl cm.told "undone").getD 0))).length : Int) := by rw [td.len]
  exact s_ret (ev_is (ev_lenD (rd_events T hR4 (ev_var rfl)) upd_same) (congrArg V.int hl4)) fun H5 e5 => k H5 (((ExS.of (e13.trans e4)).upd A.inE).trans (ExS.of e5)) (hR4.stay e5)
end
end FB
-- T6
set_option Elab.async false
set_option linter.all false
set_option maxRecDepth 100000
set_option maxHeartbeats 3900000
namespace FB
open PySem PySem.Spec PyProof.Rows L2 Evl
section
variable {K : PySem.W.Frag} {mg : Str → Option Value} {P : Program} {base : Heap} {w : World}
abbrev s_tell_lands : Stmt := topS 114
abbrev N_tell_lands : List Str := ["record", "call", "weights", "weight"]
theorem sc_tell_lands : FnScope N_tell_lands ["record", "call"] (defScope s_tell_lands) := ⟨rfl, rfl, rfl, by decide +kernel, rfl, by decide +kernel, by decide +kernel⟩
def okLands (m : RecM) (c : CallM) : Prop := c.row.length ≤ 40000
def tellLands (m : RecM) (c : CallM) : Int × RecM := if (!(decide (1 ≤ (c.row.length : Int)) && decide ((c.row.length : Int) ≤ 10))) = true then (-4, m) else if (!(c.row.map fun x => decide (0 ≤ x) && decide (x ≤ 1000)).all id) = true then (-4, m) else if c.row.sum = 0 then (-4, m) else (0, { m with weights := c.row })
theorem putF_w {A : RecA} {l0 l1 : Addr} : putF "weights" (.ref l1) (recordNames.zip (recV A l0)) = recordNames.zip (recV A l1) := by
  show putF "weights" (.ref l1) [("schedules", V.ref A.ds), ("small", V.ref A.dm), ("weights", V.ref l0), ("events", V.ref A.de)] = _
  unfold putF
  rw [if_neg (by decide)]
  unfold putF
  rw [if_neg (by decide)]
  unfold putF
  rw [if_pos rfl]
  rfl
/-- o.f = e, whatever the fields are -/
theorem q_fldPut {σ : L2.St} {H : Hp} {ta tv : TE} {D : Ends} {tz : TS} {p C dx : Addr} {fs fs' : List (Str × V)} {f : Str} {v : V} (hv : Ev tv σ H v) (ho : Ev ta σ H (.ref p)) (hp : H p = some (.ins C dx fs)) (cl : Cls K C) (no : NoAttr K C f) (hf : putF f v fs = fs') (hl : fs.length < 1000) (k : ∀ H1, Ex H H1 → tz D σ (upd H1 p (.ins C dx fs'))) : tSeq (sFld K ta tv f) tz D σ H :=
  hv H (Ex.refl H) _ fun H1 e1 => ho H1 e1 _ fun H2 e2 => ⟨p, C, dx, fs, rfl, e2 _ _ (e1 _ _ hp), cl, no, hl, by
    rw [hf]
    exact k H2 (e1.trans e2)⟩
theorem s_fldPut {σ : L2.St} {H : Hp} {ta tv : TE} {D : Ends} {p C dx : Addr} {fs fs' : List (Str × V)} {f : Str} {v : V} (hv : Ev tv σ H v) (ho : Ev ta σ H (.ref p)) (hp : H p = some (.ins C dx fs)) (cl : Cls K C) (no : NoAttr K C f) (hf : putF f v fs = fs') (hl : fs.length < 1000) (k : ∀ H1, Ex H H1 → D.nx σ (upd H1 p (.ins C dx fs'))) : sFld K ta tv f D σ H :=
  hv H (Ex.refl H) _ fun H1 e1 => ho H1 e1 _ fun H2 e2 => ⟨p, C, dx, fs, rfl, e2 _ _ (e1 _ _ hp), cl, no, hl, by
    rw [hf]
    exact k H2 (e1.trans e2)⟩
theorem ok_tell_lands (T : Tx K mg) : Own P w K mg base CX0 1 "tell_lands" ["record", "call"] (spTell K okLands tellLands) := by
  refine own_mk T.d_tell_lands T.g_tell_lands (fun _ _ _ _ _ _ us hl => match us, hl with | [_, _], _ => rfl) fun fd F => ?_
  refine F.ok sc_tell_lands (fun vs H Q E h => by obtain ⟨A, m, c, d, r, cm, rfl, _⟩ := h; rfl) (fun cdv A outer s H vs Q E hr h => ⟨_, PSs.nox
    (pss_cons (ps_set (i := 2) sc_tell_lands.nd rfl (Or.inl rfl) (pe_fld (pv 1) rfl))
    (pss_cons (ps_if (pt_not (pt_chain op_le op_le pe_int (pe_callB call_len_seq (by rfl) T.b_len PySem.boot_len (pa_cons (pv 2) pa_nil)) (pe_cint T.c_MOST_LANDS)))
      (pss_one (ps_ret (pe_un un_neg pe_int)))
      pss_nil)
    (pss_cons (ps_if (pt_not (pt_val (pe_callB (cr_all rfl) (by rfl) T.b_all (by decide +kernel) (pa_cons (pe_lc (own := [("weight", 3)]) (g := gName 3) (tt := tYes) rfl sc_tell_lands.nd (pi_list (pv 2)) (blkOk_by (N := N_tell_lands) (sc := defScope s_tell_lands) (by decide +kernel)) (fun _ _ _ _ _ => by exact (pg_name (i := 3) sc_tell_lands.nd rfl (Or.inl rfl))) (fun _ _ _ _ _ => by exact pts_nil) (fun _ _ _ _ _ => by exact (pe_chain op_le op_le pe_int (pv 3) (pe_cint T.c_MOST_WEIGHT)))) pa_nil))))
      (pss_one (ps_ret (pe_un un_neg pe_int)))
      pss_nil)
    (pss_cons (ps_if (pt_cmpR op_eq (pe_callB (cr_sum rfl) (by rfl) T.b_sum (by decide +kernel) (pa_cons (pv 2) pa_nil)) pe_int (nomark _))
      (pss_one (ps_ret (pe_un un_neg pe_int)))
      pss_nil)
    (pss_cons (ps_fld (pv 0) (pv 2) rfl)
    (pss_one (ps_ret pe_int))))))), ?_⟩)
  obtain ⟨A, m, c, d, r, cm, rfl, hR, hC, hz, k⟩ := h
  have hz : cm.row.length ≤ 40000 := hz
  have hC0 := hC.stay hid_le
  obtain ⟨dxc, c1, c2, c3⟩ := hC
  have hS : SqL K H r (cm.row.map V.int) := sq_of (hid_le _ _ c3)
  have hl : ((cm.row.map V.int).length : Int) = (cm.row.length : Int) := by rw [List.length_map]
  unfold tellLands at k
  refine q_asg (cl_row T hC0 (ev_var rfl)) fun H1 e1 => ?_
  refine q_when (et_not (et_test (ev_chain ev_c (ev_is (ev_lenL (ev_var rfl) (ex_l e1 hS)) (congrArg V.int hl)) ev_c))) (fun hb H2 e2 => ?_) (fun hb H2 e2 => ?_)
  · rw [if_pos hb] at k
    exact s_ret (ev_neg ev_c) fun H3 e3 => k H3 (ExS.of ((e1.trans e2).trans e3)) (hR.stay ((e1.trans e2).trans e3))
  rw [if_neg (by rw [hb]; decide)] at k
  have e12 := e1.trans e2
  refine q_when (et_not (et_B (ev_allN (bs := cm.row.map fun b => decide (0 ≤ b) && decide (b ≤ 1000)) (by
      rw [List.map_map]
      exact el_map V.int _ (by rw [← List.length_map V.int]; exact ei_list (ev_var rfl) (ex_l e12 hS)) (fun _ _ h => h) hz (fun _ => rfl) fun b H2 e2 _ => ev_chain ev_c (ev_var rfl) ev_c)))) (fun hb2 H3 e3 => ?_) (fun hb2 H3 e3 => ?_)
  · rw [if_pos hb2] at k
    exact s_ret (ev_neg ev_c) fun H4 e4 => k H4 (ExS.of ((e12.trans e3).trans e4)) (hR.stay ((e12.trans e3).trans e4))
  rw [if_neg (by rw [hb2]; decide)] at k
  have e13 := e12.trans e3
  refine q_when (et_test (ev_op (ev_sumL (ev_var rfl) (ex_l e13 hS)) ev_c rv_eqI)) (fun hb3 H4 e4 => ?_) (fun hb3 H4 e4 => ?_)
  · rw [if_pos (of_decide_eq_true hb3)] at k
    exact s_ret (ev_neg ev_c) fun H5 e5 => k H5 (ExS.of ((e13.trans e4).trans e5)) (hR.stay ((e13.trans e4).trans e5))
  rw [if_neg (of_decide_eq_false hb3)] at k
  have e14 := e13.trans e4
  have hR4 := hR.stay e14
  obtain ⟨lw, ho, _⟩ := hR4.obj
  refine q_fldPut (ev_var rfl) (ev_var rfl) ho T.k_Record T.n_Record_weights putF_w (show 4 < 1000 by decide) fun H6 e46 => ?_
  have hR6 := (hR4.stay e46).putW (l := cm.row) (lw := r) (hid_mono (e14.trans e46) _ _ c3)
  exact s_ret ev_c fun H7 e7 => k H7 (((ExS.of (e14.trans e46)).upd A.inR).trans (ExS.of e7)) (hR6.stay e7)
end
end FB
-- M1
set_option Elab.async false
set_option linter.all false
set_option maxRecDepth 100000
set_option maxHeartbeats 3900000
namespace FB
open PySem PySem.Spec PyProof.Rows L2 Evl
/-! ### the mathematics: the words and fees of the program are the specification's -/
def cI (b : List Nat) : List Int := b.map fun (c : Nat) => (c : Int)
def cW (wd : Nat × List Nat) : Wd := (wd.1, cI wd.2)
theorem cI_inj : ∀ {a b : List Nat}, cI a = cI b → a = b
  | [], [], _ => rfl
  | [], _ :: _, h => by cases h
  | _ :: _, [], h => by cases h
  | x :: a, y :: b, h => by
    have h1 : (x : Int) = (y : Int) := (List.cons.inj h).1
    have h2 := cI_inj (List.cons.inj h).2
    rw [h2, show x = y by omega]
theorem cut_plain : ∀ (cur : List Nat) (p : Nat), (∀ c ∈ cur, c ≠ 32 ∧ c ≠ 10) → Vbptai.cut p cur = [(p, cur)]
  | [], p, _ => rfl
  | c :: r, p, h => by
    obtain ⟨h1, h2⟩ := h c (List.mem_cons_self ..)
    rw [Vbptai.cut, if_neg h1, if_neg h2, cut_plain r (p + 1) fun x hx => h x (List.mem_cons_of_mem _ hx)]
theorem cut_sep : ∀ (cur : List Nat) (p : Nat) (s : Nat) (r : List Nat), (∀ c ∈ cur, c ≠ 32 ∧ c ≠ 10) → (s = 32 ∨ s = 10) →
    Vbptai.cut p (cur ++ s :: r) = (p, cur) :: ((if s = 10 then [(p + cur.length, [10])] else []) ++ Vbptai.cut (p + cur.length + 1) r)
  | [], p, s, r, _, hs => by
    show Vbptai.cut p (s :: r) = _
    rw [Vbptai.cut]
    rcases hs with rfl | rfl
    · rw [if_pos rfl]
      rfl
    · rw [if_neg (by decide), if_pos rfl]
      rfl
  | c :: cur, p, s, r, h, hs => by
    obtain ⟨h1, h2⟩ := h c (List.mem_cons_self ..)
    show Vbptai.cut p (c :: (cur ++ s :: r)) = _
    rw [Vbptai.cut, if_neg h1, if_neg h2, cut_sep cur (p + 1) s r (fun x hx => h x (List.mem_cons_of_mem _ hx)) hs]
    show (p, c :: cur) :: _ = _
    rw [List.length_cons, show p + 1 + cur.length = p + (cur.length + 1) by omega]
theorem drop_take_snoc {α : Type} (l : List α) (s n : Nat) (x : α) (h : l[n]? = some x) (hs : s ≤ n) : l.drop s = (l.drop s).take (n - s) ++ x :: l.drop (n + 1) := by
  have hn : n < l.length := (List.getElem?_eq_some_iff.mp h).1
  have e1 : (l.drop s).drop (n - s) = l.drop n := by rw [List.drop_drop, show s + (n - s) = n by omega]
  have e2 : l.drop n = x :: l.drop (n + 1) := by
    rw [List.drop_eq_getElem_cons hn]
    congr 1
    exact (List.getElem?_eq_some_iff.mp h).2
  calc l.drop s = (l.drop s).take (n - s) ++ (l.drop s).drop (n - s) := (List.take_append_drop _ _).symm
    _ = _ := by rw [e1, e2]
theorem take_len' {α : Type} (l : List α) (s n : Nat) (h1 : s ≤ n) (h2 : n ≤ l.length) : ((l.drop s).take (n - s)).length = n - s := by
  simp only [List.length_take, List.length_drop]
  omega
/-- between two turns: what is cut already, and the rest from the word's beginning on -/
theorem sw_inv (b : List Nat) : ∀ n, n ≤ b.length → (swRun (cI b) n).2 ++ (Vbptai.cut (swRun (cI b) n).1 (b.drop (swRun (cI b) n).1)).map cW = (Vbptai.cut 0 b).map cW ∧ (∀ c ∈ (b.drop (swRun (cI b) n).1).take (n - (swRun (cI b) n).1), c ≠ 32 ∧ c ≠ 10)
  | 0, _ => ⟨by simp [swRun], by simp [swRun]⟩
  | n + 1, h => by
    obtain ⟨ih1, ih2⟩ := sw_inv b n (by omega)
    have hle := swRun_le (cI b) n
    have hn : n < b.length := by omega
    have hx : b[n]? = some b[n] := List.getElem?_eq_getElem hn
    have hg : (cI b).getD n 0 = ((b[n] : Nat) : Int) := by
      refine (List.getD_eq_getElem?_getD ..).trans ?_
      show ((b.map _)[n]?).getD 0 = _
      rw [List.getElem?_map, hx]
      rfl
    have hc : ((cI b).drop (swRun (cI b) n).1).take (n - (swRun (cI b) n).1) = cI ((b.drop (swRun (cI b) n).1).take (n - (swRun (cI b) n).1)) := by
      unfold cI
      simp only [List.map_take, List.map_drop]
    have hlen := take_len' b _ n hle (by omega)
    have hcut := drop_take_snoc b (swRun (cI b) n).1 n _ hx hle
    show (swStep (cI b) (swRun (cI b) n) n ((cI b).getD n 0)).2 ++ _ = _ ∧ _
    rw [show swRun (cI b) (n + 1) = swStep (cI b) (swRun (cI b) n) n ((cI b).getD n 0) from rfl, hg]
    generalize hs : swRun (cI b) n = s at *
    generalize hbn : b[n] = x at *
    by_cases c10 : x = 10
    · subst c10
      have e : swStep (cI b) s n ((10 : Nat) : Int) = (n + 1, (s.2 ++ [(s.1, ((cI b).drop s.1).take (n - s.1))]) ++ [(n, [10])]) := rfl
      rw [e]
      dsimp only
      refine ⟨?_, by simp⟩
      rw [← ih1, hcut, cut_sep _ _ 10 _ ih2 (.inr rfl), hlen, hc, show s.1 + (n - s.1) = n by omega]
      simp [cW, cI]
    · by_cases c32 : x = 32
      · subst c32
        have e : swStep (cI b) s n ((32 : Nat) : Int) = (n + 1, s.2 ++ [(s.1, ((cI b).drop s.1).take (n - s.1))]) := rfl
        rw [e]
        dsimp only
        refine ⟨?_, by simp⟩
        rw [← ih1, hcut, cut_sep _ _ 32 _ ih2 (.inl rfl), hlen, hc, show s.1 + (n - s.1) = n by omega]
        simp [cW, cI]
      · have e : swStep (cI b) s n ((x : Nat) : Int) = s := by
          unfold swStep
          dsimp only
          rw [decide_eq_false (show ¬ ((x : Nat) : Int) = 32 by omega), decide_eq_false (show ¬ ((x : Nat) : Int) = 10 by omega)]
          rfl
        rw [e]
        refine ⟨ih1, ?_⟩
        rw [show n + 1 - s.1 = (n - s.1) + 1 by omega, take_one (show (b.drop s.1)[n - s.1]? = some x by rw [List.getElem?_drop, show s.1 + (n - s.1) = n by omega]; exact hx)]
        intro c hc'
        rcases List.mem_append.mp hc' with hc' | hc'
        · exact ih2 c hc'
        · rw [List.mem_singleton.mp hc']
          exact ⟨c32, c10⟩
theorem words_cut (b : List Nat) : wordsOf (cI b) = (Vbptai.cut 0 b).map cW := by
  have hl : (cI b).length = b.length := List.length_map ..
  obtain ⟨h1, h2⟩ := sw_inv b b.length (Nat.le_refl _)
  unfold wordsOf
  rw [hl, ← h1]
  have hle := swRun_le (cI b) b.length
  have e : (b.drop (swRun (cI b) b.length).1).take (b.length - (swRun (cI b) b.length).1) = b.drop (swRun (cI b) b.length).1 := List.take_of_length_le (by rw [List.length_drop]; exact Nat.le_refl _)
  rw [e] at h2
  rw [cut_plain _ _ h2]
  show _ ++ [_] = _ ++ [_]
  unfold cW cI
  rw [List.map_drop]
end FB
-- M2
set_option Elab.async false
set_option linter.all false
set_option maxRecDepth 100000
set_option maxHeartbeats 3900000
namespace FB
open PySem PySem.Spec PyProof.Rows L2 Evl
open Vbptai (Word Bytes)
theorem cI_len (b : List Nat) : (cI b).length = b.length := List.length_map ..
theorem all_id {α : Type} (l : List α) (g : α → Bool) : (l.map g).all id = l.all g := by
  rw [List.all_map]
  rfl
theorem kept_eq : kept.map codesOf = Vbptai.RESERVED.map cI := by decide +kernel
theorem isNam_eq (b : List Nat) : isNam (cI b) = Vbptai.isName b := by
  unfold isNam Vbptai.isName
  rw [all_id, kept_eq, cI_len]
  have e1 : ((cI b).all fun c => decide (97 ≤ c) && decide (c ≤ 122)) = b.all fun c => decide (97 ≤ c ∧ c ≤ 122) := by
    unfold cI
    rw [List.all_map]
    congr 1
    funext c
    show (decide ((97 : Int) ≤ (c : Int)) && decide ((c : Int) ≤ 122)) = decide (97 ≤ c ∧ c ≤ 122)
    by_cases h1 : 97 ≤ c <;> by_cases h2 : c ≤ 122 <;> simp [h1, h2] <;> omega
  have e2 : ((Vbptai.RESERVED.map cI).any fun z => decide (z = cI b)) = Vbptai.RESERVED.contains b := by
    rw [List.any_map, List.contains_eq_any_beq]
    congr 1
    funext z
    show decide (cI z = cI b) = (b == z)
    by_cases h : z = b
    · rw [h, decide_eq_true rfl]
      simp
    · rw [decide_eq_false (fun q => h (cI_inj q))]
      exact (beq_eq_false_iff_ne.mpr (Ne.symm h)).symm
  rw [e1, e2]
  have e3 : (decide ((1 : Int) ≤ (b.length : Int)) && decide ((b.length : Int) ≤ 12)) = decide (1 ≤ b.length ∧ b.length ≤ 12) := by
    by_cases h1 : 1 ≤ b.length <;> by_cases h2 : b.length ≤ 12 <;> simp [h1, h2] <;> omega
  rw [e3]
  cases decide (1 ≤ b.length ∧ b.length ≤ 12) <;> cases (b.all fun c => decide (97 ≤ c ∧ c ≤ 122)) <;> rfl
/-- the value of digits -/
def valW (b : List Nat) : Nat := b.foldl (fun n c => 10 * n + (c - 48)) 0
def digits (b : List Nat) : Bool := b.all fun c => decide (48 ≤ c ∧ c ≤ 57)
theorem num_fold : ∀ (b : List Nat) (n : Nat), digits b = true → (cI b).foldl (fun n b => n * 10 + b - 48) (n : Int) = ((b.foldl (fun n c => 10 * n + (c - 48)) n : Nat) : Int)
  | [], n, _ => rfl
  | c :: r, n, h => by
    have h2 : (decide (48 ≤ c ∧ c ≤ 57) && digits r) = true := h
    rw [Bool.and_eq_true, decide_eq_true_eq] at h2
    show (cI r).foldl _ ((n : Int) * 10 + (c : Int) - 48) = _
    rw [show (n : Int) * 10 + (c : Int) - 48 = ((10 * n + (c - 48) : Nat) : Int) by omega]
    exact num_fold r _ h2.2
theorem val_lt : ∀ (b : List Nat) (n : Nat), digits b = true → b.foldl (fun n c => 10 * n + (c - 48)) n < (n + 1) * 10 ^ b.length
  | [], n, _ => by simp
  | c :: r, n, h => by
    have h2 : (decide (48 ≤ c ∧ c ≤ 57) && digits r) = true := h
    rw [Bool.and_eq_true, decide_eq_true_eq] at h2
    have ih := val_lt r (10 * n + (c - 48)) h2.2
    refine Nat.lt_of_lt_of_le ih ?_
    rw [List.length_cons, Nat.pow_succ, show (n + 1) * (10 ^ r.length * 10) = (10 * (n + 1)) * 10 ^ r.length by rw [Nat.mul_comm (10 ^ r.length) 10, ← Nat.mul_assoc, Nat.mul_comm (n + 1) 10]]
    refine Nat.mul_le_mul_right _ ?_
    omega
theorem isNum_eq (b : List Nat) : isNum (cI b) = (decide (1 ≤ b.length ∧ b.length ≤ 9) && (digits b && (decide (b.length = 1) || !decide (b.headD 0 = 48)))) := by
  unfold isNum digits
  rw [all_id, cI_len]
  have e1 : ((cI b).all fun c => decide (48 ≤ c) && decide (c ≤ 57)) = b.all fun c => decide (48 ≤ c ∧ c ≤ 57) := by
    unfold cI
    rw [List.all_map]
    congr 1
    funext c
    show (decide ((48 : Int) ≤ (c : Int)) && decide ((c : Int) ≤ 57)) = decide (48 ≤ c ∧ c ≤ 57)
    by_cases h1 : 48 ≤ c <;> by_cases h2 : c ≤ 57 <;> simp [h1, h2] <;> omega
  have e3 : (decide ((1 : Int) ≤ (b.length : Int)) && decide ((b.length : Int) ≤ 9)) = decide (1 ≤ b.length ∧ b.length ≤ 9) := by
    by_cases h1 : 1 ≤ b.length <;> by_cases h2 : b.length ≤ 9 <;> simp [h1, h2] <;> omega
  have e4 : decide ((b.length : Int) = 1) = decide (b.length = 1) := by
    by_cases h : b.length = 1
    · rw [h]
      rfl
    · rw [decide_eq_false h, decide_eq_false (by omega)]
  have e5 : decide ((cI b).headD 0 = 48) = decide (b.headD 0 = 48) := by
    cases b with
    | nil => rfl
    | cons c r =>
      show decide ((c : Int) = 48) = decide (c = 48)
      by_cases h : c = 48
      · rw [h]
        rfl
      · rw [decide_eq_false h, decide_eq_false (by omega)]
  rw [e1, e3, e4, e5]
  cases decide (1 ≤ b.length ∧ b.length ≤ 9) <;> cases (b.all fun c => decide (48 ≤ c ∧ c ≤ 57)) <;> rfl
theorem numOf_eq {b : List Nat} (h : isNum (cI b) = true) : numOf (cI b) = (valW b : Int) ∧ valW b ≤ 999999999 := by
  rw [isNum_eq] at h
  simp only [decide_eq_true_eq, Bool.and_eq_true] at h
  refine ⟨num_fold b 0 h.2.1, ?_⟩
  have h1 := val_lt b 0 h.2.1
  have h2 : 10 ^ b.length ≤ 10 ^ 9 := Nat.pow_le_pow_right (by decide) h.1.2
  unfold valW
  omega
theorem numberOf_eq (most : Nat) (b : List Nat) : Vbptai.numberOf most b = if isNum (cI b) = true ∧ valW b ≤ most then some (valW b) else none := by
  unfold Vbptai.numberOf
  rw [isNum_eq]
  dsimp only
  have e : (1 ≤ b.length ∧ b.length ≤ 9 ∧ (b.all fun c => decide (48 ≤ c ∧ c ≤ 57)) = true ∧ (b.length = 1 ∨ b.headD 0 ≠ 48) ∧ valW b ≤ most) ↔ ((decide (1 ≤ b.length ∧ b.length ≤ 9) && (digits b && (decide (b.length = 1) || !decide (b.headD 0 = 48)))) = true ∧ valW b ≤ most) := by
    simp only [Bool.and_eq_true, Bool.or_eq_true, decide_eq_true_eq, Bool.not_eq_true', decide_eq_false_iff_not, digits]
    constructor
    · rintro ⟨a, b, c, d, e⟩
      exact ⟨⟨⟨a, b⟩, c, d⟩, e⟩
    · rintro ⟨⟨⟨a, b⟩, c, d⟩, e⟩
      exact ⟨a, b, c, d, e⟩
  by_cases h : 1 ≤ b.length ∧ b.length ≤ 9 ∧ (b.all fun c => decide (48 ≤ c ∧ c ≤ 57)) = true ∧ (b.length = 1 ∨ b.headD 0 ≠ 48) ∧ valW b ≤ most
  · rw [if_pos (e.mp h)]
    exact if_pos h
  · rw [if_neg (fun q => h (e.mpr q))]
    exact if_neg h
end FB
-- M3
set_option Elab.async false
set_option linter.all false
set_option maxRecDepth 100000
set_option maxHeartbeats 3900000
namespace FB
open PySem PySem.Spec PyProof.Rows L2 Evl
open Vbptai (Word Bytes)
theorem W_cI (s : String) (z : Str) (h : codesOf z = cI (Vbptai.W s)) : codesOf z = cI (Vbptai.W s) := h
/-- must, in the program's words -/
theorem must_eq (e : Nat) (b : Bytes) (hb : b ≠ []) (ws : List Word) : (∃ p, Vbptai.must e b ws = .error p ∧ wordW e (cI b) (ws.map cW) = .error p) ∨ (Vbptai.must e b ws = .ok ((), ws.drop 1) ∧ wordW e (cI b) (ws.map cW) = .ok ((), 1)) := by
  cases ws with
  | nil =>
    refine .inl ⟨e, rfl, ?_⟩
    unfold wordW
    rw [if_pos]
    · rfl
    · show (!decide (([] : List Int) = cI b)) = true
      cases b with
      | nil => exact absurd rfl hb
      | cons c r => rfl
  | cons wd r =>
    unfold Vbptai.must wordW
    by_cases h : wd.2 = b
    · refine .inr ⟨if_pos h, if_neg ?_⟩
      show ¬ ((!decide (cI wd.2 = cI b)) = true)
      rw [h, decide_eq_true rfl]
      decide
    · refine .inl ⟨wd.1, if_neg h, ?_⟩
      rw [if_pos]
      · rfl
      · show (!decide (cI wd.2 = cI b)) = true
        rw [decide_eq_false (fun q => h (cI_inj q))]
        rfl
theorem name_eq (e : Nat) (ws : List Word) : (∃ p, Vbptai.name e ws = .error p ∧ nameW e (ws.map cW) = .error p) ∨ (∃ b, Vbptai.name e ws = .ok (b, ws.drop 1) ∧ nameW e (ws.map cW) = .ok (cI b, 1)) := by
  cases ws with
  | nil => exact .inl ⟨e, rfl, rfl⟩
  | cons wd r =>
    unfold Vbptai.name nameW
    have e1 : isNam (peekW ((wd :: r).map cW)) = Vbptai.isName wd.2 := isNam_eq wd.2
    rw [e1]
    by_cases h : Vbptai.isName wd.2 = true
    · exact .inr ⟨wd.2, if_pos h, by rw [h]; rfl⟩
    · refine .inl ⟨wd.1, if_neg h, ?_⟩
      rw [Bool.not_eq_true] at h
      rw [h]
      rfl
/-- number, with nothing above most -/
theorem number_eq (e most : Nat) (ws : List Word) : (∃ p, Vbptai.number e most ws = .error p ∧ ((numW e (ws.map cW) = .error p) ∨ (∃ v, numW e (ws.map cW) = .ok ((v : Nat), 1) ∧ most < v ∧ v ≤ 999999999 ∧ hereW e (ws.map cW) = p))) ∨
    (∃ v, Vbptai.number e most ws = .ok (v, ws.drop 1) ∧ numW e (ws.map cW) = .ok (((v : Nat) : Int), 1) ∧ v ≤ most ∧ v ≤ 999999999) := by
  cases ws with
  | nil => exact .inl ⟨e, rfl, .inl rfl⟩
  | cons wd r =>
    unfold Vbptai.number numW
    dsimp only
    rw [numberOf_eq]
    have e1 : peekW ((wd :: r).map cW) = cI wd.2 := rfl
    rw [e1]
    by_cases h : isNum (cI wd.2) = true
    · obtain ⟨h1, h2⟩ := numOf_eq h
      have nb : ¬ ((!isNum (cI wd.2)) = true) := by rw [h]; decide
      rw [h1]
      simp only [if_neg nb]
      by_cases h3 : valW wd.2 ≤ most
      · rw [if_pos ⟨h, h3⟩]
        exact .inr ⟨_, rfl, rfl, h3, h2⟩
      · rw [if_neg (fun q => h3 q.2)]
        exact .inl ⟨_, rfl, .inr ⟨_, rfl, by omega, h2, rfl⟩⟩
    · have nb : (!isNum (cI wd.2)) = true := by
        rw [Bool.not_eq_true] at h
        rw [h]
        rfl
      have nc : ¬ (isNum (cI wd.2) = true ∧ valW wd.2 ≤ most) := fun q => h q.1
      simp only [if_neg nc, if_pos nb]
      exact .inl ⟨_, rfl, .inl rfl⟩
theorem ahead_eq (b : Bytes) (hb : b ≠ []) (ws : List Word) : decide (peekW (ws.map cW) = cI b) = Vbptai.ahead b ws := by
  cases ws with
  | nil =>
    cases b with
    | nil => exact absurd rfl hb
    | cons c r => rfl
  | cons wd r =>
    show decide (cI wd.2 = cI b) = (wd.2 == b)
    by_cases h : wd.2 = b
    · rw [h, decide_eq_true rfl]
      simp
    · rw [decide_eq_false (fun q => h (cI_inj q))]
      exact (beq_eq_false_iff_ne.mpr h).symm
theorem drop_map1 (ws : List Word) (n : Nat) : (ws.map cW).drop n = (ws.drop n).map cW := (List.map_drop ..).symm
theorem tail_eq (e most : Nat) (b : Bytes) (hb : b ≠ []) (ws : List Word) : (∃ p, Vbptai.tail e most b ws = .error p ∧ optW e (cI b) (most : Nat) (ws.map cW) = .error p) ∨
    (∃ (o : Option Nat) (c : Nat), Vbptai.tail e most b ws = .ok (o, ws.drop c) ∧ optW e (cI b) (most : Nat) (ws.map cW) = .ok (((o.getD 0 : Nat) : Int), c)) := by
  unfold Vbptai.tail optW
  rw [← ahead_eq b hb ws]
  by_cases h : decide (peekW (ws.map cW) = cI b) = true
  · rw [if_pos h, if_neg (by rw [h]; decide), drop_map1]
    have hm : Vbptai.must e b ws = .ok ((), ws.drop 1) := by
      rcases must_eq e b hb ws with ⟨p, _, h2⟩ | ⟨h1, _⟩
      · unfold wordW at h2
        rw [h] at h2
        cases h2
      · exact h1
    rw [hm]
    show (∃ p, (do let (n, ws) ← Vbptai.number e most (ws.drop 1); return (some n, ws)) = Except.error p ∧ _) ∨ (∃ o c, (do let (n, ws) ← Vbptai.number e most (ws.drop 1); return (some n, ws)) = Except.ok (o, ws.drop c) ∧ _)
    rcases number_eq e most (ws.drop 1) with ⟨p, h1, h2⟩ | ⟨v, h1, h2, h3, h4⟩
    · rw [h1]
      refine .inl ⟨p, rfl, ?_⟩
      rcases h2 with h2 | ⟨v, h2, h3, _, h4⟩
      · unfold numW at h2
        split at h2
        · rename_i c
          rw [if_pos c]
          exact h2
        · cases h2
      · unfold numW at h2
        split at h2
        · cases h2
        · rename_i c
          rw [if_neg c, if_pos]
          · rw [h4]
          · have := congrArg (fun z : Except Nat (Int × Nat) => match z with | .ok x => x.1 | .error _ => 0) h2
            dsimp only at this
            rw [this]
            refine decide_eq_true ?_
            omega
    · rw [h1]
      refine .inr ⟨some v, 2, ?_, ?_⟩
      · show Except.ok (some v, (ws.drop 1).drop 1) = _
        rw [List.drop_drop]
      · unfold numW at h2
        split at h2
        · cases h2
        · rename_i c
          have h5 := congrArg (fun z : Except Nat (Int × Nat) => match z with | .ok x => x.1 | .error _ => 0) h2
          dsimp only at h5
          rw [if_neg c, h5, if_neg (by rw [decide_eq_false (by omega)]; decide)]
          rfl
  · rw [if_neg h, if_pos (by rw [Bool.not_eq_true] at h; rw [h]; rfl)]
    exact .inr ⟨none, 0, rfl, rfl⟩
/-- a fee of the specification, as the program keeps it -/
def feeOf (F : Vbptai.Fee) : FeeM := ⟨cI F.name, F.amount, ((F.above.getD 0 : Nat) : Int), F.late, F.small, F.shared⟩
theorem codes_fee : codesOf "fee" = cI (Vbptai.W "fee") := by decide +kernel
theorem codes_above : codesOf "above" = cI (Vbptai.W "above") := by decide +kernel
theorem codes_late : codesOf "late" = cI (Vbptai.W "late") := by decide +kernel
theorem codes_small : codesOf "small" = cI (Vbptai.W "small") := by decide +kernel
theorem codes_shared : codesOf "shared" = cI (Vbptai.W "shared") := by decide +kernel
theorem shared_eq (ws : List Word) : sharedW (ws.map cW) = Vbptai.ahead (Vbptai.W "shared") ws := by
  unfold sharedW
  rw [codes_shared]
  exact ahead_eq _ (by decide) ws
theorem fee_eq (e : Nat) (ws : List Word) : (∃ p, Vbptai.fee e ws = .error p ∧ feeW e (ws.map cW) = .error p) ∨ (∃ F c, Vbptai.fee e ws = .ok (F, ws.drop c) ∧ feeW e (ws.map cW) = .ok (feeOf F, c)) := by
  unfold Vbptai.fee feeW
  rw [codes_fee, codes_above, codes_late, codes_small]
  rcases must_eq e (Vbptai.W "fee") (by decide) ws with ⟨p, h1, h2⟩ | ⟨h1, h2⟩
  · rw [h1, h2]
    exact .inl ⟨p, rfl, rfl⟩
  rw [h1, h2, drop_map1]
  rcases name_eq e (ws.drop 1) with ⟨p, h3, h4⟩ | ⟨nm, h3, h4⟩
  · refine .inl ⟨p, ?_, ?_⟩
    · show (Vbptai.name e (ws.drop 1) >>= _) = _
      rw [h3]
      rfl
    · dsimp only
      rw [h4]
  dsimp only
  rw [h4, drop_map1]
  dsimp only
  rcases number_eq e 999999999 (ws.drop 2) with ⟨p, h5, h6⟩ | ⟨am, h5, h6, _, _⟩
  · refine .inl ⟨p, ?_, ?_⟩
    · show (Vbptai.name e (ws.drop 1) >>= _) = _
      rw [h3]
      show (Vbptai.number e 999999999 ((ws.drop 1).drop 1) >>= _) = _
      rw [List.drop_drop, h5]
      rfl
    · rcases h6 with h6 | ⟨v, h6, h7, h8, _⟩
      · rw [h6]
      · omega
  rw [h6, drop_map1]
  dsimp only
  rcases tail_eq e 10000 (Vbptai.W "above") (by decide) (ws.drop 3) with ⟨p, h7, h8⟩ | ⟨o1, c1, h7, h8⟩
  · refine .inl ⟨p, ?_, ?_⟩
    · show (Vbptai.name e (ws.drop 1) >>= _) = _
      rw [h3]
      show (Vbptai.number e 999999999 ((ws.drop 1).drop 1) >>= _) = _
      rw [List.drop_drop, h5]
      show (Vbptai.tail e 10000 (Vbptai.W "above") ((ws.drop 2).drop 1) >>= _) = _
      rw [List.drop_drop, h7]
      rfl
    · rw [show ((10000 : Int)) = ((10000 : Nat) : Int) from rfl, h8]
  rw [show ((10000 : Int)) = ((10000 : Nat) : Int) from rfl, h8]
  dsimp only
  rw [drop_map1]
  rcases tail_eq e 100 (Vbptai.W "late") (by decide) (ws.drop (3 + c1)) with ⟨p, h9, h10⟩ | ⟨o2, c2, h9, h10⟩
  · refine .inl ⟨p, ?_, ?_⟩
    · show (Vbptai.name e (ws.drop 1) >>= _) = _
      rw [h3]
      show (Vbptai.number e 999999999 ((ws.drop 1).drop 1) >>= _) = _
      rw [List.drop_drop, h5]
      show (Vbptai.tail e 10000 (Vbptai.W "above") ((ws.drop 2).drop 1) >>= _) = _
      rw [List.drop_drop, h7]
      show (Vbptai.tail e 100 (Vbptai.W "late") ((ws.drop 3).drop c1) >>= _) = _
      rw [List.drop_drop, h9]
      rfl
    · rw [show ((100 : Int)) = ((100 : Nat) : Int) from rfl, h10]
  rw [show ((100 : Int)) = ((100 : Nat) : Int) from rfl, h10]
  dsimp only
  rw [drop_map1]
  rcases tail_eq e 100 (Vbptai.W "small") (by decide) (ws.drop (3 + c1 + c2)) with ⟨p, h11, h12⟩ | ⟨o3, c3, h11, h12⟩
  · refine .inl ⟨p, ?_, ?_⟩
    · show (Vbptai.name e (ws.drop 1) >>= _) = _
      rw [h3]
      show (Vbptai.number e 999999999 ((ws.drop 1).drop 1) >>= _) = _
      rw [List.drop_drop, h5]
      show (Vbptai.tail e 10000 (Vbptai.W "above") ((ws.drop 2).drop 1) >>= _) = _
      rw [List.drop_drop, h7]
      show (Vbptai.tail e 100 (Vbptai.W "late") ((ws.drop 3).drop c1) >>= _) = _
      rw [List.drop_drop, h9]
      show (Vbptai.tail e 100 (Vbptai.W "small") ((ws.drop (3 + c1)).drop c2) >>= _) = _
      rw [List.drop_drop, h11]
      rfl
    · rw [h12]
  rw [h12]
  dsimp only
  rw [drop_map1, shared_eq]
  refine .inr ⟨⟨nm, am, o1, o2.getD 0, o3.getD 0, Vbptai.ahead (Vbptai.W "shared") (ws.drop (3 + c1 + c2 + c3))⟩, 3 + c1 + c2 + c3 + (if Vbptai.ahead (Vbptai.W "shared") (ws.drop (3 + c1 + c2 + c3)) = true then 1 else 0), ?_, rfl⟩
  show (Vbptai.name e (ws.drop 1) >>= _) = _
  rw [h3]
  show (Vbptai.number e 999999999 ((ws.drop 1).drop 1) >>= _) = _
  rw [List.drop_drop, h5]
  show (Vbptai.tail e 10000 (Vbptai.W "above") ((ws.drop 2).drop 1) >>= _) = _
  rw [List.drop_drop, h7]
  show (Vbptai.tail e 100 (Vbptai.W "late") ((ws.drop 3).drop c1) >>= _) = _
  rw [List.drop_drop, h9]
  show (Vbptai.tail e 100 (Vbptai.W "small") ((ws.drop (3 + c1)).drop c2) >>= _) = _
  rw [List.drop_drop, h11]
  show Except.ok (_, if Vbptai.ahead (Vbptai.W "shared") ((ws.drop (3 + c1 + c2)).drop c3) = true then ((ws.drop (3 + c1 + c2)).drop c3).drop 1 else (ws.drop (3 + c1 + c2)).drop c3) = _
  rw [List.drop_drop]
  have hd : (if Vbptai.ahead (Vbptai.W "shared") (ws.drop (3 + c1 + c2 + c3)) = true then (ws.drop (3 + c1 + c2 + c3)).drop 1 else ws.drop (3 + c1 + c2 + c3)) = ws.drop (3 + c1 + c2 + c3 + (if Vbptai.ahead (Vbptai.W "shared") (ws.drop (3 + c1 + c2 + c3)) = true then 1 else 0)) := by
    split
    · rw [List.drop_drop]
    · rfl
  rw [hd]
def exMap {α β : Type} (f : α → β) : Except Nat α → Except Nat β
  | .error p => .error p
  | .ok a => .ok (f a)
def feeThen (e : Nat) (ws : List Wd) (acc : List FeeM) : Except Nat (List FeeM) := match feeW e ws with
  | .error p => .error p
  | .ok (m, c) => readLoop e (ws.drop c) (acc ++ [m])
theorem loop_eq (e : Nat) (ws : List Wd) (acc : List FeeM) (h : ws ≠ []) : readLoop e ws acc = match wordW e [10] ws with
    | .error p => .error p
    | .ok _ => feeThen e (ws.drop 1) acc := by
  rw [readLoop, dif_neg h]
  unfold feeThen
  cases wordW e [10] ws <;> rfl
/-- all fees, from any beginning: the program's loop and the specification -/
theorem fees_eq (e : Nat) : ∀ (f : Nat) (ws : List Word) (acc : List FeeM), ws.length < f → feeThen e (ws.map cW) acc = exMap (fun l => acc ++ l.map feeOf) (Vbptai.fees e f ws)
  | 0, ws, acc, h => absurd h (Nat.not_lt_zero _)
  | f + 1, ws, acc, h => by
    unfold Vbptai.fees feeThen
    rcases fee_eq e ws with ⟨p, h1, h2⟩ | ⟨F, c, h1, h2⟩
    · rw [h1, h2]
      rfl
    · rw [h1, h2]
      dsimp only
      rw [drop_map1]
      show _ = exMap (fun l => acc ++ l.map feeOf) (if (ws.drop c).isEmpty = true then pure [F] else (Vbptai.must e [10] (ws.drop c) >>= fun x => Vbptai.fees e f x.2 >>= fun l => pure (F :: l)))
      by_cases hn : ws.drop c = []
      · rw [readLoop, dif_pos (by rw [hn]; rfl), if_pos (by rw [hn]; rfl)]
        rfl
      · rw [loop_eq _ _ _ (fun q => hn (List.map_eq_nil_iff.mp q)), if_neg (by rw [List.isEmpty_iff]; exact hn)]
        have e10 : ([10] : List Int) = cI [10] := rfl
        rw [e10]
        rcases must_eq e [10] (by decide) (ws.drop c) with ⟨p, h3, h4⟩ | ⟨h3, h4⟩
        · rw [h3, h4]
          rfl
        · rw [h3, h4]
          dsimp only
          rw [drop_map1]
          have hl : ((ws.drop c).drop 1).length < f := by
            have : 0 < (ws.drop c).length := List.length_pos_iff.mpr hn
            rw [List.length_drop, List.length_drop] at *
            omega
          rw [fees_eq e f ((ws.drop c).drop 1) (acc ++ [feeOf F]) hl]
          show _ = exMap (fun l => acc ++ l.map feeOf) (Vbptai.fees e f ((ws.drop c).drop 1) >>= fun l => pure (F :: l))
          cases Vbptai.fees e f ((ws.drop c).drop 1) with
          | error p => rfl
          | ok l =>
            show Except.ok ((acc ++ [feeOf F]) ++ l.map feeOf) = Except.ok (acc ++ (F :: l).map feeOf)
            rw [List.append_assoc]
            rfl
/-- reading a schedule -/
theorem read_eq (b : Bytes) : readM (cI b) = exMap (fun l => l.map feeOf) (Vbptai.readFees b) := by
  have h := fees_eq b.length ((Vbptai.cut 0 b).length + 1) (Vbptai.cut 0 b) [] (Nat.lt_succ_self _)
  unfold readM Vbptai.readFees
  rw [words_cut, cI_len]
  exact h
end FB
-- M4
set_option Elab.async false
set_option linter.all false
set_option maxRecDepth 100000
set_option maxHeartbeats 3900000
namespace FB
open PySem PySem.Spec PyProof.Rows L2 Evl
/-! a text of so many bytes has at most so many fees -/
open Vbptai (Bytes Word)
def w1 (w : Bytes) : Nat := if w = [10] then 0 else w.length + 1
def wt : List Word → Nat
  | [] => 0
  | w :: r => w1 w.2 + wt r
theorem cut_wt : ∀ (b : Bytes) (p : Nat), (∃ w l, Vbptai.cut p b = w :: l ∧ w.2 ≠ [10]) ∧ wt (Vbptai.cut p b) = b.length + 1
  | [], p => ⟨⟨_, _, rfl, fun z => nomatch z⟩, rfl⟩
  | c :: r, p => by
    obtain ⟨⟨w, l, h1, h2⟩, h3⟩ := cut_wt r (p + 1)
    unfold Vbptai.cut
    by_cases c32 : c = 32
    · rw [if_pos c32]
      refine ⟨⟨_, _, rfl, fun z => nomatch z⟩, ?_⟩
      show 1 + wt (Vbptai.cut (p + 1) r) = r.length + 1 + 1
      omega
    · rw [if_neg c32]
      by_cases c10 : c = 10
      · rw [if_pos c10]
        refine ⟨⟨_, _, rfl, fun z => nomatch z⟩, ?_⟩
        show 1 + (0 + wt (Vbptai.cut (p + 1) r)) = r.length + 1 + 1
        omega
      · rw [if_neg c10, h1]
        rw [h1] at h3
        obtain ⟨q, w⟩ := w
        have n1 : (c :: w) ≠ [10] := fun z => c10 (List.cons.inj z).1
        refine ⟨⟨_, _, rfl, n1⟩, ?_⟩
        have h4 : w1 w + wt l = r.length + 1 := h3
        show w1 (c :: w) + wt l = r.length + 1 + 1
        unfold w1 at h4 ⊢
        rw [if_neg n1]
        rw [if_neg h2] at h4
        rw [List.length_cons]
        omega
theorem must_ok {e : Nat} {b : Bytes} {ws r : List Word} {u : Unit} (h : Vbptai.must e b ws = .ok (u, r)) : ∃ w, ws = w :: r ∧ w.2 = b := by
  cases ws with
  | nil => cases h
  | cons w l =>
    unfold Vbptai.must at h
    dsimp only at h
    by_cases c : w.2 = b
    · rw [if_pos c] at h
      cases h
      exact ⟨w, rfl, c⟩
    · rw [if_neg c] at h
      cases h
theorem name_ok {e : Nat} {n : Bytes} {ws r : List Word} (h : Vbptai.name e ws = .ok (n, r)) : ∃ w, ws = w :: r ∧ 2 ≤ w1 w.2 := by
  cases ws with
  | nil => cases h
  | cons w l =>
    unfold Vbptai.name at h
    dsimp only at h
    by_cases c : Vbptai.isName w.2 = true
    · rw [if_pos c] at h
      cases h
      refine ⟨w, rfl, ?_⟩
      unfold Vbptai.isName at c
      rw [Bool.and_eq_true, Bool.and_eq_true] at c
      obtain ⟨c1, c2, c3⟩ := c
      have c1 := of_decide_eq_true c1
      unfold w1
      rw [if_neg (fun z => by rw [z] at c2; revert c2; decide)]
      omega
    · rw [if_neg c] at h
      cases h
theorem number_ok {e most n : Nat} {ws r : List Word} (h : Vbptai.number e most ws = .ok (n, r)) : ∃ w, ws = w :: r ∧ 2 ≤ w1 w.2 := by
  cases ws with
  | nil => cases h
  | cons w l =>
    unfold Vbptai.number at h
    dsimp only at h
    cases hn : Vbptai.numberOf most w.2 with
    | none =>
      rw [hn] at h
      cases h
    | some k =>
      rw [hn] at h
      cases h
      refine ⟨w, rfl, ?_⟩
      unfold Vbptai.numberOf at hn
      dsimp only at hn
      split at hn
      · rename_i c
        obtain ⟨c1, c2, c3, _⟩ := c
        unfold w1
        rw [if_neg (fun z => by rw [z] at c3; revert c3; decide)]
        omega
      · cases hn
theorem ex_bind {α β : Type} {x : Except Nat α} {f : α → Except Nat β} {y : β} (h : (x >>= f) = .ok y) : ∃ a, x = .ok a ∧ f a = .ok y := by
  cases x with
  | error e => cases h
  | ok a => exact ⟨a, rfl, h⟩
theorem tail_wt {e most : Nat} {b : Bytes} {ws r : List Word} {o : Option Nat} (h : Vbptai.tail e most b ws = .ok (o, r)) : wt r ≤ wt ws := by
  unfold Vbptai.tail at h
  split at h
  · obtain ⟨⟨_, w2⟩, h1, h2⟩ := ex_bind h
    obtain ⟨⟨n, w3⟩, h3, h4⟩ := ex_bind h2
    cases h4
    obtain ⟨w, rfl, _⟩ := must_ok h1
    obtain ⟨v, rfl, _⟩ := number_ok h3
    show wt r ≤ w1 w.2 + (w1 v.2 + wt r)
    omega
  · cases h
    exact Nat.le_refl _
theorem fee_wt {e : Nat} {ws r : List Word} {x : Vbptai.Fee} (h : Vbptai.fee e ws = .ok (x, r)) : wt r + 8 ≤ wt ws := by
  unfold Vbptai.fee at h
  obtain ⟨⟨_, a1⟩, h1, g1⟩ := ex_bind h
  obtain ⟨⟨_, a2⟩, h2, g2⟩ := ex_bind g1
  obtain ⟨⟨_, a3⟩, h3, g3⟩ := ex_bind g2
  obtain ⟨⟨_, a4⟩, h4, g4⟩ := ex_bind g3
  obtain ⟨⟨_, a5⟩, h5, g5⟩ := ex_bind g4
  obtain ⟨⟨_, a6⟩, h6, g6⟩ := ex_bind g5
  dsimp only at h1 h2 h3 h4 h5 h6 g6
  have t4 := tail_wt h4
  have t5 := tail_wt h5
  have t6 := tail_wt h6
  obtain ⟨w, rfl, hw⟩ := must_ok h1
  obtain ⟨v, rfl, hv⟩ := name_ok h2
  obtain ⟨u, rfl, hu⟩ := number_ok h3
  have hr : wt r ≤ wt a6 := by
    have h7 : (if Vbptai.ahead (Vbptai.W "shared") a6 = true then a6.drop 1 else a6) = r := (Prod.mk.inj (Except.ok.inj g6)).2
    rw [← h7]
    split
    · cases a6 with
      | nil => exact Nat.le_refl _
      | cons z l =>
        show wt l ≤ w1 z.2 + wt l
        omega
    · exact Nat.le_refl _
  have hw4 : w1 w.2 = 4 := by rw [hw]; decide
  show wt r + 8 ≤ w1 w.2 + (w1 v.2 + (w1 u.2 + wt a3))
  omega
theorem fees_wt : ∀ {f e : Nat} {ws : List Word} {l : List Vbptai.Fee}, Vbptai.fees e f ws = .ok l → 8 * l.length ≤ wt ws
  | 0, _, _, _, h => by cases h
  | f + 1, e, ws, l, h => by
    unfold Vbptai.fees at h
    obtain ⟨⟨x, w2⟩, h1, h⟩ := ex_bind h
    have t := fee_wt h1
    dsimp only at h
    split at h
    · cases h
      show 8 * 1 ≤ _
      omega
    · obtain ⟨⟨_, w3⟩, h2, h⟩ := ex_bind h
      obtain ⟨l2, h3, h⟩ := ex_bind h
      cases h
      obtain ⟨w, rfl, hw⟩ := must_ok h2
      have ih := fees_wt h3
      have e1 : wt (w :: w3) = w1 w.2 + wt w3 := rfl
      rw [List.length_cons]
      dsimp only at ih
      omega
theorem read_bound {b : Bytes} {ms : List FeeM} (h : readM (cI b) = .ok ms) : 8 * ms.length ≤ b.length + 1 := by
  rw [read_eq] at h
  cases q : Vbptai.readFees b with
  | error p =>
    rw [q] at h
    cases h
  | ok l =>
    rw [q] at h
    cases h
    rw [List.length_map]
    have := fees_wt q
    rw [(cut_wt b 0).2] at this
    exact this
theorem cI_toNat : ∀ {l : List Int}, (∀ x ∈ l, 0 ≤ x) → cI (l.map Int.toNat) = l
  | [], _ => rfl
  | x :: l, h => by
    show ((x.toNat : Nat) : Int) :: cI (l.map Int.toNat) = x :: l
    rw [cI_toNat fun y hy => h y (List.mem_cons_of_mem _ hy), Int.toNat_of_nonneg (h x (List.mem_cons_self ..))]
theorem read_few {l : List Int} {ms : List FeeM} (hn : ∀ x ∈ l, 0 ≤ x) (hl : l.length ≤ 2000) (h : readM l = .ok ms) : ms.length ≤ 300 := by
  rw [← cI_toNat hn] at h
  have := read_bound h
  rw [List.length_map] at this
  omega
end FB
-- T7
set_option Elab.async false
set_option linter.all false
set_option maxRecDepth 100000
set_option maxHeartbeats 3900000
namespace FB
open PySem PySem.Spec PyProof.Rows L2 Evl
section
variable {K : PySem.W.Frag} {mg : Str → Option Value} {P : Program} {base : Heap} {w : World}
theorem RecAt.out {A : RecA} {H : Hp} {m : RecM} {b : Addr} {o : HO} (h : RecAt K A H m) (hb : H b = some o) (ho : (∀ kvs, o ≠ .dK kvs) ∧ ∀ C dx v fs, o ≠ .ins C dx (("schedules", v) :: fs)) : b ∉ A.S := fun z => by
  obtain ⟨lw, o1, _⟩ := h.obj
  obtain ⟨_, o2, _⟩ := h.sch
  obtain ⟨_, o4, _⟩ := h.evs
  have o3 := h.sml
  unfold RecA.S at z
  simp only [List.mem_cons, List.not_mem_nil, or_false] at z
  rcases z with z | z | z | z
  · rw [z, o1] at hb
    exact ho.2 _ _ _ _ (Option.some.inj hb).symm
  · rw [z, o2] at hb
    exact ho.1 _ (Option.some.inj hb).symm
  · rw [z, o3] at hb
    exact ho.1 _ (Option.some.inj hb).symm
  · rw [z, o4] at hb
    exact ho.1 _ (Option.some.inj hb).symm
theorem RecAt.outL {A : RecA} {H : Hp} {m : RecM} {b : Addr} {xs : List V} (h : RecAt K A H m) (hb : H b = some (.lst xs)) : hid A.S H b = some (.lst xs) := by
  rw [hid_at (h.out hb ⟨fun _ z => (nomatch z), fun _ _ _ _ z => nomatch z⟩)]
  exact hb
theorem RecAt.fee {A : RecA} {H : Hp} {m : RecM} {b : Addr} {f : FeeM} (h : RecAt K A H m) (hf : FeeAt K H f b) : FeeAt K (hid A.S H) f b := by
  obtain ⟨dx, l, h1, h2⟩ := hf
  refine ⟨dx, l, by rw [hid_at (h.out h1 ⟨fun _ z => (nomatch z), fun C dx v fs z => by injection z with _ _ z; injection z with z _; injection z with z _; exact absurd z (by decide)⟩)]; exact h1, ?_⟩
  exact h.outL h2
abbrev s_keep_schedule : Stmt := topS 111
abbrev N_keep_schedule : List Str := ["record", "day", "text", "fees"]
theorem sc_keep_schedule : FnScope N_keep_schedule ["record", "day", "text", "fees"] (defScope s_keep_schedule) := ⟨rfl, rfl, rfl, by decide +kernel, rfl, by decide +kernel, by decide +kernel⟩
def keepM (m : RecM) (day : Int) (text : List Int) (ms : List FeeM) : Int × RecM := if twiceM ms = true then (-2, m) else if 12 < (ms.length : Int) then (-4, m) else if (m.schedules.find? fun s => decide (schK s = Sum.inl day)).isSome = true then (-6, m) else if 8 ≤ m.schedules.length then (-9, m) else
  ((ms.length : Int), { m with schedules := m.schedules ++ [⟨day, text, ms⟩] })
def sp_keep_schedule (K : PySem.W.Frag) : Sp := fun vs H Q _ => ∃ (A : RecA) (m : RecM) (day : Int) (t p : Addr) (text : List Int) (ms : List FeeM) (xs : List V), vs = [.ref A.R, .int day, .ref t, .ref p] ∧ RecAt K A H m ∧ H t = some (.lst (text.map V.int)) ∧ H p = some (.lst xs) ∧ Paired (fun m v => ∃ b, v = V.ref b ∧ FeeAt K H m b) ms xs ∧ ms.length ≤ 300 ∧ m.schedules.length ≤ 1000 ∧
  ∀ H2, ExS A.S H H2 → RecAt K A H2 (keepM m day text ms).2 → Q (.int (keepM m day text ms).1) H2
theorem ok_keep_schedule (T : Tx K mg) : Own P w K mg base CX0 3 "keep_schedule" ["record", "day", "text", "fees"] (sp_keep_schedule K) := by
  refine own_mk T.d_keep_schedule T.g_keep_schedule (fun _ _ _ _ _ _ us hl => match us, hl with | [_, _, _, _], _ => rfl) fun fd F => ?_
  refine F.ok sc_keep_schedule (fun vs H Q E h => by obtain ⟨A, m, day, t, p, text, ms, xs, rfl, _⟩ := h; rfl) (fun cdv A outer s H vs Q E hr h => ⟨_, PSs.nox
    (pss_cons (ps_if (pt_val (pe_own (ok_has_name_twice T) hr (by decide) pass0 (pa_cons (pv 3) pa_nil)))
      (pss_one (ps_ret (pe_un un_neg pe_int)))
      pss_nil)
    (pss_cons (ps_if (pt_cmpR op_gt (pe_callB call_len_seq (by rfl) T.b_len PySem.boot_len (pa_cons (pv 3) pa_nil)) (pe_cint T.c_MOST_FEES) (nomark _))
      (pss_one (ps_ret (pe_un un_neg pe_int)))
      pss_nil)
    (pss_cons (ps_if (pt_cmp (pc_din (hu_of hr) (pv 1) (pe_fld (pv 0) rfl)))
      (pss_one (ps_ret (pe_un un_neg pe_int)))
      pss_nil)
    (pss_cons (ps_if (pt_cmpR op_ge (pe_callB call_lenD (by rfl) T.b_len PySem.boot_len (pa_cons (pe_fld (pv 0) rfl) pa_nil)) (pe_cint T.c_MOST_SCHEDULES) (nomark _))
      (pss_one (ps_ret (pe_un un_neg pe_int)))
      pss_nil)
    (pss_cons (ps_dput (hu_of hr) (pe_fld (pv 0) rfl) (pv 1) (pe_ownMk (mk_Schedule T) hr (by decide) pass0 (pa_cons (pv 1) (pa_cons (pv 2) (pa_cons (pv 3) pa_nil)))) rfl)
    (pss_one (ps_ret (pe_callB call_len_seq (by rfl) T.b_len PySem.boot_len (pa_cons (pv 3) pa_nil))))))))), ?_⟩)
  obtain ⟨A, m, day, t, p, text, ms, xs, rfl, hR, ht, hp, hF, hz, hs, k⟩ := h
  have fst : ∀ {H1 : Hp}, Ex H H1 → Paired (fun m v => ∃ b, v = V.ref b ∧ FeeAt K H1 m b) ms xs := fun e => Paired.mono (fun m v h => by obtain ⟨b, rfl, hb⟩ := h; exact ⟨b, rfl, hb.stay e⟩) hF
  have hlen : (xs.length : Int) = (ms.length : Int) := by rw [hF.length]
  unfold keepM at k
  refine q_when (et_B (ev_call (z := .bl (twiceM ms)) (ea_cons (ev_var rfl) ea_nil) fun H1 e Q q E => ⟨p, ms, xs, rfl, sq_of (e _ _ hp), fst e, hz, fun H2 e2 => q H2 e2⟩)) (fun hb H1 e1 => ?_) (fun hb H1 e1 => ?_)
  · rw [if_pos hb] at k
    exact s_ret (ev_neg ev_c) fun H2 e2 => k H2 (ExS.of (e1.trans e2)) (hR.stay (e1.trans e2))
  rw [if_neg (by rw [hb]; decide)] at k
  refine q_when (et_test (ev_op (ev_is (ev_lenL (ev_var rfl) (sq_of (e1 _ _ hp))) (congrArg V.int hlen)) ev_c rv_cmp)) (fun hb H2 e2 => ?_) (fun hb H2 e2 => ?_)
  · rw [if_pos (of_decide_eq_true hb)] at k
    exact s_ret (ev_neg ev_c) fun H3 e3 => k H3 (ExS.of ((e1.trans e2).trans e3)) (hR.stay ((e1.trans e2).trans e3))
  rw [if_neg (of_decide_eq_false hb)] at k
  have e12 := e1.trans e2
  obtain ⟨kvs, hk, hT⟩ := hR.sch
  refine q_when (et_B (ev_din (k := Sum.inl day) (ev_var rfl) (rd_schedules T (hR.stay e12) (ev_var rfl)) (e12 _ _ hk))) (fun hb H3 e3 => ?_) (fun hb H3 e3 => ?_)
  · rcases hT.find (Sum.inl day) with ⟨f1, f2⟩ | ⟨s, v, f1, f2, f3⟩
    · rw [f1] at hb
      cases hb
    · rw [f1, if_pos Option.isSome_some] at k
      exact s_ret (ev_neg ev_c) fun H4 e4 => k H4 (ExS.of ((e12.trans e3).trans e4)) (hR.stay ((e12.trans e3).trans e4))
  have hnone : valV kvs (Sum.inl day) = none := by
    cases q : valV kvs (Sum.inl day) with
    | none => rfl
    | some v =>
      rw [q] at hb
      cases hb
  have hfind : m.schedules.find? (fun s => decide (schK s = Sum.inl day)) = none := by
    rcases hT.find (Sum.inl day) with ⟨f1, f2⟩ | ⟨s, v, f1, f2, f3⟩
    · exact f2
    · rw [f2] at hnone
      cases hnone
  rw [hfind, if_neg (by decide)] at k
  have e13 := e12.trans e3
  have hl8 : (kvs.length : Int) = (m.schedules.length : Int) := by rw [hT.len]
  refine q_when (et_test (ev_op (ev_is (ev_lenD (rd_schedules T (hR.stay e13) (ev_var rfl)) (e13 _ _ hk)) (congrArg V.int hl8)) ev_c rv_cmp)) (fun hb2 H4 e4 => ?_) (fun hb2 H4 e4 => ?_)
  · have h8 : 8 ≤ m.schedules.length := by
      have := of_decide_eq_true hb2
      omega
    rw [if_pos h8] at k
    exact s_ret (ev_neg ev_c) fun H5 e5 => k H5 (ExS.of ((e13.trans e4).trans e5)) (hR.stay ((e13.trans e4).trans e5))
  have h8 : ¬ 8 ≤ m.schedules.length := by
    have := of_decide_eq_false hb2
    omega
  rw [if_neg h8] at k
  have e14 := e13.trans e4
  have hR4 := hR.stay e14
  refine q_dputQ (k := Sum.inl day) (eq_make (ea_cons (ev_var rfl) (ea_cons (ev_var rfl) (ea_cons (ev_var rfl) ea_nil))) (sp_plain_ok rfl)) (rd_schedules T hR4 (ev_var rfl)) (ev_var rfl) (e14 _ _ hk) (Nat.lt_of_le_of_lt (by rw [hT.len]; exact hs) (by decide)) fun v H5 H6 e5 hv e6 => ?_
  obtain ⟨x, dx, rfl, hx, hx5⟩ := hv
  have e56 := e5.trans e6
  have e16 := e14.trans e56
  have hR6 := hR.stay e16
  have hS : SchAt K (hid A.S H6) x ⟨day, text, ms⟩ := ⟨dx, t, p, xs, by rw [hid_at (hR6.out (e6 _ _ hx5) ⟨fun _ z => (nomatch z), fun C dx v fs z => by injection z with _ _ z; injection z with z _; injection z with z _; exact absurd z (by decide)⟩)]; exact e6 _ _ hx5,
    hR6.outL (e16 _ _ ht), hR6.outL (e16 _ _ hp), Paired.mono (fun m v h => by obtain ⟨b, rfl, hb⟩ := h; exact ⟨b, rfl, hR6.fee hb⟩) (fst e16)⟩
  have hR7 := hR6.putS (ss := m.schedules ++ [⟨day, text, ms⟩]) (kvs := putK kvs (Sum.inl day) (.ref x)) (Tabl.put (x := (⟨day, text, ms⟩ : SchM)) (Tabl.mono (fun m v => schR.stay (hid_mono e16)) hT) hnone ⟨x, rfl, hS⟩)
  have hpS : p ≠ A.ds := fun z => by
    rw [← z, hp] at hk
    cases hk
  refine s_ret (ev_is (ev_lenL (ev_var rfl) (sq_of (by rw [upd_ne hpS]; exact e16 _ _ hp))) (congrArg V.int hlen)) fun H7 e7 => ?_
  exact k H7 (((ExS.of e16).upd A.inS).trans (ExS.of e7)) (hR7.stay e7)
end
end FB
-- T8
set_option Elab.async false
set_option linter.all false
set_option maxRecDepth 100000
set_option maxHeartbeats 3900000
namespace FB
open PySem PySem.Spec PyProof.Rows L2 Evl
section
variable {K : PySem.W.Frag} {mg : Str → Option Value} {P : Program} {base : Heap} {w : World}
theorem takesNo {X : Cx} : Takes X (fun _ _ _ _ => False) := LamX.takes0
theorem pe_ownS {X : Cx} {CX : CXT} {j k : Nat} {x : Str} {ps : List Str} {sp : Sp} {E : L2.St → XK} {e : Expr} {es : List Expr} {t : TA} {p pos : Pos} (C : Own X.prog X.w X.K X.mg X.base CX k x ps sp) (hr : Room j X.A) (hj : k ≤ j) (hx : ∀ σ, PassesAt CX X σ (E σ)) (ha : PA X (e :: es) t) (hg : Gl X x := by rfl) (hdb : (x == ("__debug__" : Str)) = false := by decide)
    (he : starEach (e :: es) X.env = (false, eval e X.env) :: starEach es X.env := by rfl) (hpl : (backTo pos (starEach es X.env)).any (·.1) = false := by rfl) : PE X (.Call (.Name x p) (e :: es) [] pos) (tCallS sp E t) := by
  obtain ⟨⟨fd, F, b⟩, gm, kp⟩ := C
  exact pe_callS F (hr.mono hj) hg gm kp b hx ha hdb he hpl
theorem q_tryAs {σ : L2.St} {H : Hp} {t : TA} {vs : List V} {sp : Sp} {c : Value} {i j : Nat} {ts : Addr → Value → Option Addr → TS} {Wout : WX} {tz : TS} {D : Ends} (ht : EvA t σ H vs) (h : ∀ H1, Ex H H1 → sp vs H1 (fun v H2 => tz D (σ.set j (some v)) H2) (fun cls d H2 => wAs K c i ts Wout { D with nx := tz D } cls d σ H2)) :
    tSeq (fun D σ H => tAsg (tCallS sp (WE (wAs K c i ts Wout D)) t) (gName j) D σ H) tz D σ H := ht H (Ex.refl H) _ fun H1 e1 => h H1 e1
theorem ev_xf {σ : L2.St} {H : Hp} {te : TE} {a C dd : Addr} {f : Str} {fs : List (Str × V)} {v : V} (h : Ev te σ H (.ref a)) (hd : H dd = some (.xd fs)) (hl : fs.lookup f = some v) : Ev (tXf a (.ref C) (some dd) C f te) σ H v := fun H1 e Q q => h H1 e _ fun H2 e2 => ⟨rfl, rfl, dd, fs, v, rfl, e2 _ _ (e _ _ hd), hl, q H2 e2⟩
abbrev s_tell_schedule : Stmt := topS 112
abbrev N_tell_schedule : List Str := ["record", "call", "fees", "fault"]
theorem sc_tell_schedule : FnScope N_tell_schedule ["record", "call"] (defScope s_tell_schedule) := ⟨rfl, rfl, rfl, by decide +kernel, rfl, by decide +kernel, by decide +kernel⟩
def okSchedule (m : RecM) (c : CallM) : Prop := (tl c.told "day").isSome = true ∧ c.row.length ≤ 2000 ∧ (∀ x ∈ c.row, 0 ≤ x) ∧ m.schedules.length ≤ 1000
def tellSchedule (m : RecM) (c : CallM) : Int × RecM := match readM c.row with
  | .error e => (-1000 - (e : Int), m)
  | .ok ms => keepM m ((tl c.told "day").getD 0) c.row ms
abbrev tbS (K : PySem.W.Frag) : WX → TS := fun W => tAsg (tCallS (sp_read_fees K) (WE W) (tCons (tFld K (tVar 1) "row") tNil)) (gName 2)
abbrev tsS (K : PySem.W.Frag) : Addr → Value → Option Addr → TS := fun a cls d => tRet (tOp (rI0 fun i j => .int (i - j)) (tUn (rU fun i => .int (-i)) (tC (.int 1000))) (tXf a cls d (He.ga K "ScheduleFault") "place" (tVar 3)))
theorem ok_tell_schedule (T : Tx K mg) : Own P w K mg base CX0 7 "tell_schedule" ["record", "call"] (spTell K okSchedule tellSchedule) := by
  refine own_mk T.d_tell_schedule T.g_tell_schedule (fun _ _ _ _ _ _ us hl => match us, hl with | [_, _], _ => rfl) fun fd F => ?_
  refine F.ok sc_tell_schedule (fun vs H Q E h => by obtain ⟨A, m, c, d, r, cm, rfl, _⟩ := h; rfl) (fun cdv A outer s H vs Q E hr h => ⟨_, PSs.nox
    (pss_cons (ps_try_as (i := 3) (tb := tbS K) (ts := tsS K) (Wout := fun _ _ _ _ => False) rfl rfl sc_tell_schedule.nd rfl rfl ⟨rfl, by decide, Or.inl T.g_ScheduleFault⟩ takesNo
      (fun W pn xe tk _ => pss_one (ps_set (i := 2) sc_tell_schedule.nd rfl (Or.inl rfl) (by exact (pe_ownS (ok_read_fees T) hr (by decide) (fun σ => passAt tk σ) (pa_cons (pe_fld (pv 1) rfl) pa_nil)))))
      (fun a oe cls d pn hz hf => by exact (pss_one (ps_ret (pe_op op_sub (pe_un un_neg pe_int) (pe_xf T.xf_ScheduleFault T.n_ScheduleFault_place hz hf (pv 3)))))))
    (pss_one (ps_ret (pe_own (ok_keep_schedule T) hr (by decide) pass0 (pa_cons (pv 0) (pa_cons (pe_dget (hu_of hr) (pe_fld (pv 1) rfl) pe_str (fun _ _ => rfl)) (pa_cons (pe_fld (pv 1) rfl) (pa_cons (pv 2) pa_nil)))))))), ?_⟩)
  obtain ⟨A, m, c, d, r, cm, rfl, hR, hC, ⟨hy, hz, hn, hs⟩, k⟩ := h
  have hC0 := hC.stay hid_le
  have hrow : H r = some (.lst (cm.row.map V.int)) := by obtain ⟨_, _, _, h3⟩ := hC0; exact h3
  unfold tellSchedule at k
  refine q_tryAs (ea_cons (cl_row T hC0 (ev_var rfl)) ea_nil) fun H1 e1 => ⟨r, cm.row, rfl, sq_of (e1 _ _ hrow), by omega, fun ms hms p xs H2 hp e2 h2 hF => ?_, fun e he d' H2 e2 hd => ?_⟩
  · rw [hms] at k
    have e12 := e1.trans e2
    refine s_retC (ea_cons (ev_var rfl) (ea_cons (cl_tl T (hC0.stay e12) (ev_var rfl) (some_getD hy)) (ea_cons (cl_row T (hC0.stay e12) (ev_var rfl)) (ea_cons (ev_var rfl) ea_nil)))) fun H3 e3 => ?_
    have e13 := e12.trans e3
    exact ⟨A, m, _, r, p, cm.row, ms, xs, rfl, hR.stay e13, e13 _ _ hrow, e3 _ _ h2, Paired.mono (fun m v h => by obtain ⟨b, rfl, _, hb⟩ := h; exact ⟨b, rfl, hb.stay e3⟩) hF, read_few hn hz hms, hs, fun H4 e4 h4 => k H4 ((ExS.of e13).trans e4) h4⟩
  · rw [he] at k
    have e12 := e1.trans e2
    refine ⟨true, T.xm_ScheduleFault, fun _ a ha => ?_, fun q => Bool.noConfusion q⟩
    exact s_ret (ev_op (ev_neg ev_c) (ev_xf (ev_var rfl) hd lk_here) rv_I0) fun H3 e3 => k H3 (ExS.of (e12.trans e3)) (hR.stay (e12.trans e3))
end
end FB
-- T9
set_option Elab.async false
set_option linter.all false
set_option maxRecDepth 100000
set_option maxHeartbeats 3900000
namespace FB
open PySem PySem.Spec PyProof.Rows L2 Evl
section
variable {K : PySem.W.Frag} {mg : Str → Option Value} {P : Program} {base : Heap} {w : World}
/-- a local name that holds a def whose promise is known -/
def tCallH (P : Program) (w : World) (K : PySem.W.Frag) (mg : Str → Option Value) (base : Heap) (k i : Nat) (t : TA) : TE := fun σ H Q => ∃ f sp, σ[i]? = some (some (.ref f)) ∧ Held P w K mg base k f sp ∧ t σ H fun vs H1 => sp vs H1 Q E0
theorem pe_callH {X : Cx} {k i : Nat} {x : Str} {p pos : Pos} {e : Expr} {es : List Expr} {t : TA} (hr : Room k X.A) (hN : X.N[i]? = some x) (hv : Vis X.env.scope x) (ha : PA X (e :: es) t) (hdb : (x == ("__debug__" : Str)) = false := by decide) (hcd : (x == ("__classdict__" : Str)) = false := by decide)
    (he : starEach (e :: es) X.env = (false, eval e X.env) :: starEach es X.env := by rfl) (hpl : (backTo pos (starEach es X.env)).any (·.1) = false := by rfl) : PE X (.Call (.Name x p) (e :: es) [] pos) (tCallH X.prog X.w X.K X.mg X.base k i t) := by
  refine ⟨fun pins s σ H Q J h => ?_⟩
  obtain ⟨f, sp, hs, hH, ht⟩ := h
  obtain ⟨fd, ps, F, hk, hb⟩ := hH.ex
  refine (pe_callL (i := i) (f := f) (sp := sp) (dvs := []) (E := E0) F hr hN hv hk hb .nil pass0 ha hdb hcd he hpl).run pins s σ H Q J ⟨hs, ?_⟩
  have e0 : (fun (vs : List V) (H1 : Hp) => sp (vs ++ []) H1 Q E0) = fun vs H1 => sp vs H1 Q E0 := by
    funext vs H1
    rw [List.append_nil]
  show t σ H (fun vs H1 => sp (vs ++ []) H1 Q E0)
  rw [e0]
  exact ht
theorem Own.held {k j : Nat} {x : Str} {ps : List Str} {sp : Sp} (C : Own P w K mg base CX0 k x ps sp) (h : k ≤ j) : Held P w K mg base j (He.ga K x) sp := by
  obtain ⟨⟨fd, F, b⟩, _, kp⟩ := C
  exact ⟨fd, ps, F.mono h, kp, b⟩
abbrev s_tell : Stmt := topS 122
abbrev N_tell : List Str := ["record", "call", "teller"]
theorem sc_tell : FnScope N_tell ["record", "call"] (defScope s_tell) := ⟨rfl, rfl, rfl, by decide +kernel, rfl, by decide +kernel, by decide +kernel⟩
def tellM (m : RecM) (c : CallM) : Int × RecM := if c.n = 0 then tellSchedule m c else if c.n = 1 then tellSmall m c else if c.n = 2 then tellLands m c else if c.n = 4 then tellBounce m c else if c.n = 5 then tellCharge m c else if c.n = 8 then tellRefund m c else if c.n = 10 then tellUndo m c else tellEvent m c
def okTell (m : RecM) (c : CallM) : Prop := (c.n = 0 ∧ okSchedule m c) ∨ (c.n = 1 ∧ okSmall m c) ∨ (c.n = 2 ∧ okLands m c) ∨ (c.n = 3 ∧ okEvent m c) ∨ (c.n = 4 ∧ okBounce m c) ∨ (c.n = 5 ∧ okCharge m c) ∨ (c.n = 6 ∧ okEvent m c) ∨ (c.n = 7 ∧ okEvent m c) ∨ (c.n = 8 ∧ okBounce m c) ∨ (c.n = 9 ∧ okEvent m c) ∨ (c.n = 10 ∧ okUndo m c)
theorem tell_nodup : (tellT.map fun q => (Sum.inl q.1 : Key)).Nodup := by decide
theorem ok_tell (T : Tx K mg) (Y : Tw P w K) : Own P w K mg base CX0 8 "tell" ["record", "call"] (spTell K okTell tellM) := by
  refine own_mk T.d_tell T.g_tell (fun _ _ _ _ _ _ us hl => match us, hl with | [_, _], _ => rfl) fun fd F => ?_
  refine F.ok sc_tell (fun vs H Q E h => by obtain ⟨A, m, c, d, r, cm, rfl, _⟩ := h; rfl) (fun cdv A outer s H vs Q E hr h => ⟨_, PSs.nox
    (pss_cons (ps_set (i := 2) sc_tell.nd rfl (Or.inl rfl) (pe_kget (pe_cref T.g_TELLERS) (pe_fld (pv 1) rfl) (fun _ _ => rfl)))
    (pss_one (ps_ret (pe_callH (i := 2) hr (by rfl) (Or.inl rfl) (pa_cons (pv 0) (pa_cons (pv 1) pa_nil)))))), ?_⟩)
  obtain ⟨A, m, c, d, r, cm, rfl, hR, hC, hok, k⟩ := h
  obtain ⟨as, has, hd, ht⟩ := Y.te
  have hC0 := hC.stay hid_le
  have go : ∀ (x : Str) (ok : RecM → CallM → Prop) (f : RecM → CallM → Int × RecM), (cm.n, x) ∈ tellT → Held P w K mg base 7 (He.ga K x) (spTell K ok f) → ok m cm → tellM m cm = f m cm → tSeq (tAsg (tKGet P w K (tC (.ref (He.ga K "TELLERS"))) (tFld K (tVar 1) "number")) (gName 2)) (tRet (tCallH P w K mg base 7 2 (tCons (tVar 0) (tCons (tVar 1) tNil)))) { nx := fun _ H' => Q .non H', rt := Q } (L2.start N_tell [.ref A.R, .ref c]) H := fun x ok f hm hH ho hf => by
    obtain ⟨a, ha, hv⟩ := valV_tab (key := fun q : Int × Str => (Sum.inl q.1 : Key)) has tell_nodup hm
    have hx := ht _ ha
    dsimp only at hx
    rw [hx] at hv
    rw [hf] at k
    refine q_asg (ev_kget (k := Sum.inl cm.n) ev_c (cl_number T hC0 (ev_var rfl)) hd hv) fun H1 e1 => ?_
    exact ⟨_, _, rfl, hH, (ea_cons (ev_var rfl) (ea_cons (ev_var rfl) ea_nil) : EvA _ _ H1 [.ref A.R, .ref c]) H1 (Ex.refl _) _ fun H2 e2 => tell_on hR hC ho (e1.trans e2) k⟩
  rcases hok with ⟨hn, ho⟩ | ⟨hn, ho⟩ | ⟨hn, ho⟩ | ⟨hn, ho⟩ | ⟨hn, ho⟩ | ⟨hn, ho⟩ | ⟨hn, ho⟩ | ⟨hn, ho⟩ | ⟨hn, ho⟩ | ⟨hn, ho⟩ | ⟨hn, ho⟩
  · exact go "tell_schedule" _ _ (by rw [hn]; decide) ((ok_tell_schedule T).held (by decide)) ho (by unfold tellM; rw [hn]; rfl)
  · exact go "tell_small" _ _ (by rw [hn]; decide) ((ok_tell_small T).held (by decide)) ho (by unfold tellM; rw [hn]; rfl)
  · exact go "tell_lands" _ _ (by rw [hn]; decide) ((ok_tell_lands T).held (by decide)) ho (by unfold tellM; rw [hn]; rfl)
  · exact go "tell_event" _ _ (by rw [hn]; decide) ((ok_tell_event T).held (by decide)) ho (by unfold tellM; rw [hn]; rfl)
  · exact go "tell_bounce" _ _ (by rw [hn]; decide) ((ok_tell_bounce T).held (by decide)) ho (by unfold tellM; rw [hn]; rfl)
  · exact go "tell_charge" _ _ (by rw [hn]; decide) ((ok_tell_charge T).held (by decide)) ho (by unfold tellM; rw [hn]; rfl)
  · exact go "tell_event" _ _ (by rw [hn]; decide) ((ok_tell_event T).held (by decide)) ho (by unfold tellM; rw [hn]; rfl)
  · exact go "tell_event" _ _ (by rw [hn]; decide) ((ok_tell_event T).held (by decide)) ho (by unfold tellM; rw [hn]; rfl)
  · exact go "tell_refund" _ _ (by rw [hn]; decide) ((ok_tell_refund T).held (by decide)) ho (by unfold tellM; rw [hn]; rfl)
  · exact go "tell_event" _ _ (by rw [hn]; decide) ((ok_tell_event T).held (by decide)) ho (by unfold tellM; rw [hn]; rfl)
  · exact go "tell_undo" _ _ (by rw [hn]; decide) ((ok_tell_undo T).held (by decide)) ho (by unfold tellM; rw [hn]; rfl)
end
end FB
-- P1
set_option Elab.async false
set_option linter.all false
set_option maxRecDepth 100000
set_option maxHeartbeats 3900000
namespace FB
open PySem PySem.Spec PyProof.Rows L2 Evl
/-! ### the record and the document's state -/
def schM (x : Vbptai.Schedule) : SchM := ⟨x.day, cI x.text, x.fees.map feeOf⟩
def evM (e : Vbptai.Event) : EvM := match e.deed with
  | .deposit a n => ⟨3, e.num, e.day, a, 0, 0, n, 0, 0, []⟩
  | .bounce q => ⟨4, e.num, e.day, 0, 0, 0, 0, 0, q, []⟩
  | .charge o u f => ⟨5, e.num, e.day, 0, 0, o, 0, u, 0, cI f⟩
  | .pay o n => ⟨6, e.num, e.day, 0, 0, o, n, 0, 0, []⟩
  | .order a o => ⟨7, e.num, e.day, 0, a, o, 0, 0, 0, []⟩
  | .refund q => ⟨8, e.num, e.day, 0, 0, 0, 0, 0, q, []⟩
  | .closing => ⟨9, e.num, e.day, 0, 0, 0, 0, 0, 0, []⟩
theorem evM_num (e : Vbptai.Event) : (evM e).number = e.num := by
  obtain ⟨n, d, x⟩ := e
  cases x <;> rfl
theorem evM_day (e : Vbptai.Event) : (evM e).day = e.day := by
  obtain ⟨n, d, x⟩ := e
  cases x <;> rfl
/-- small by owner, as it was told last -/
def lookI (l : List (Int × Int)) (o : Int) : Option Int := (l.find? fun q => decide (q.1 = o)).map (·.2)
structure Rel (m : RecM) (s : Vbptai.State) : Prop where
  sch : m.schedules.Perm (s.schedules.map schM)
  sml : ∀ o : Nat, lookI m.smalls o = some 1 ↔ o ∈ s.smalls
  lan : m.weights = s.lands.map fun (x : Nat) => (x : Int)
  evs : m.events.Perm (s.events.map evM)
/-- what the document's state keeps to -/
structure Well (s : Vbptai.State) : Prop where
  nums : (s.events.map (·.num)).Nodup
  few : s.events.length ≤ 60
  days : (s.schedules.map (·.day)).Nodup
  sfew : s.schedules.length ≤ 8
  num1 : ∀ e ∈ s.events, 1 ≤ e.num
theorem find_perm {α : Type} {l l' : List α} {p : α → Bool} (h : l.Perm l') (u : ∀ x ∈ l, ∀ y ∈ l, p x = true → p y = true → x = y) : l.find? p = l'.find? p := by
  cases q : l.find? p with
  | none =>
    refine (List.find?_eq_none.mpr fun x hx => ?_).symm
    exact List.find?_eq_none.mp q x (h.mem_iff.mpr hx)
  | some x =>
    have hx := List.mem_of_find?_eq_some q
    have px := List.find?_some q
    cases q' : l'.find? p with
    | none => exact absurd px (List.find?_eq_none.mp q' x (h.mem_iff.mp hx))
    | some y =>
      have hy := h.mem_iff.mpr (List.mem_of_find?_eq_some q')
      have py := List.find?_some q'
      rw [u x hx y hy px py]
theorem nodup_inj {α β : Type} {f : α → β} : ∀ {l : List α}, (l.map f).Nodup → ∀ x ∈ l, ∀ y ∈ l, f x = f y → x = y
  | [], _, _, h, _, _, _ => nomatch h
  | a :: l, nd, x, hx, y, hy, e => by
    have nd := List.nodup_cons.mp (show (f a :: l.map f).Nodup from nd)
    rcases List.mem_cons.mp hx with rfl | hx2
    · rcases List.mem_cons.mp hy with rfl | hy2
      · rfl
      · exact absurd (List.mem_map.mpr ⟨y, hy2, e.symm⟩) nd.1
    · rcases List.mem_cons.mp hy with rfl | hy2
      · exact absurd (List.mem_map.mpr ⟨x, hx2, e⟩) nd.1
      · exact nodup_inj nd.2 x hx2 y hy2 e
section
variable {m : RecM} {s : Vbptai.State}
theorem Rel.find (R : Rel m s) (W : Well s) (k : Int) : m.events.find? (fun e => decide (evK e = Sum.inl k)) = (s.events.find? fun e => decide ((e.num : Int) = k)).map evM := by
  have e1 : ∀ x : EvM, decide (evK x = Sum.inl k) = decide (x.number = k) := fun x => by
    unfold evK
    by_cases c : x.number = k
    · rw [c, decide_eq_true rfl, decide_eq_true rfl]
    · rw [decide_eq_false c, decide_eq_false (fun z => c (Sum.inl.inj z))]
  rw [find_perm R.evs (p := fun e => decide (evK e = Sum.inl k))]
  · rw [List.find?_map]
    congr 2
    funext e
    show decide (evK (evM e) = Sum.inl k) = _
    rw [e1, evM_num]
  · intro x hx y hy px py
    rw [e1] at px py
    obtain ⟨a, ha, rfl⟩ := List.mem_map.mp (R.evs.mem_iff.mp hx)
    obtain ⟨b, hb, rfl⟩ := List.mem_map.mp (R.evs.mem_iff.mp hy)
    have ea := of_decide_eq_true px
    have eb := of_decide_eq_true py
    rw [evM_num] at ea eb
    have : a.num = b.num := by omega
    rw [nodup_inj W.nums a ha b hb this]
theorem eventAt_eq (s : Vbptai.State) (k : Nat) : s.events.find? (fun e => decide ((e.num : Int) = (k : Int))) = Vbptai.eventAt s k := by
  unfold Vbptai.eventAt
  congr 1
  funext e
  by_cases c : e.num = k
  · rw [c, decide_eq_true rfl]
    simp
  · rw [decide_eq_false (by omega)]
    simp [c]
theorem Rel.len (R : Rel m s) : m.events.length = s.events.length := by rw [R.evs.length_eq, List.length_map]
/-! putting and leaving out -/
theorem putEvent_perm (x : Vbptai.Event) : ∀ l, (Vbptai.putEvent x l).Perm (x :: l)
  | [] => .refl _
  | y :: l => by
    unfold Vbptai.putEvent
    split
    · exact .refl _
    · exact ((putEvent_perm x l).cons y).trans (.swap ..)
theorem putSchedule_perm (x : Vbptai.Schedule) : ∀ l, (Vbptai.putSchedule x l).Perm (x :: l)
  | [] => .refl _
  | y :: l => by
    unfold Vbptai.putSchedule
    split
    · exact .refl _
    · exact ((putSchedule_perm x l).cons y).trans (.swap ..)
theorem snoc_perm {α : Type} (l : List α) (x : α) : (l ++ [x]).Perm (x :: l) := by
  have := List.perm_append_comm (l₁ := l) (l₂ := [x])
  exact this
theorem Rel.add (R : Rel m s) {e : Vbptai.Event} {x : EvM} (hx : x = evM e) : Rel { m with events := m.events ++ [x] } { s with events := Vbptai.putEvent e s.events } := by
  refine ⟨R.sch, R.sml, R.lan, ?_⟩
  subst hx
  exact (snoc_perm _ _).trans ((R.evs.cons _).trans ((putEvent_perm e s.events).map evM).symm)
theorem Well.add (W : Well s) {e : Vbptai.Event} (h : ∀ x ∈ s.events, x.num ≠ e.num) (hl : s.events.length < 60) (h1 : 1 ≤ e.num) : Well { s with events := Vbptai.putEvent e s.events } := by
  have p := putEvent_perm e s.events
  refine ⟨?_, ?_, W.days, W.sfew, ?_⟩
  · refine (p.map (·.num)).nodup_iff.mpr ?_
    refine List.nodup_cons.mpr ⟨fun z => ?_, W.nums⟩
    obtain ⟨x, hx, e1⟩ := List.mem_map.mp z
    exact h x hx e1
  · show (Vbptai.putEvent e s.events).length ≤ 60
    rw [p.length_eq, List.length_cons]
    omega
  · intro x hx
    rcases List.mem_cons.mp (p.mem_iff.mp hx) with rfl | hx
    · exact h1
    · exact W.num1 x hx
/-- what a call comes to, in the document's words -/
abbrev Out := Vbptai.State × List Int
def outOf (s : Vbptai.State) (x : Vbptai.Res (Vbptai.State × Vbptai.Answer)) : Out := match x with
  | .ok y => y
  | .error e => (s, [e])
/-- both sides after a call -/
def Same (m : RecM) (s : Vbptai.State) (x : Int × RecM) (o : Out) : Prop := o.2 = [x.1] ∧ Rel x.2 o.1 ∧ Well o.1
theorem event_eq (R : Rel m s) (W : Well s) {c : CallM} {k d : Nat} {x : Vbptai.Deed} (hk : 1 ≤ k) (he : evOf c = evM ⟨k, d, x⟩) : Same m s (tellEvent m c) (outOf s (Vbptai.add s k d x)) := by
  have hn : evK (evOf c) = Sum.inl (k : Int) := by
    unfold evK
    rw [he, evM_num]
  unfold tellEvent
  rw [hn, R.find W, eventAt_eq]
  unfold Vbptai.add
  cases q : Vbptai.eventAt s k with
  | some e =>
    rw [Option.map_some, if_pos Option.isSome_some]
    exact ⟨rfl, R, W⟩
  | none =>
    rw [Option.map_none, if_neg (by decide), R.len]
    by_cases h60 : 60 ≤ s.events.length
    · rw [if_pos h60]
      have : decide (s.events.length < Vbptai.EVENTS) = false := decide_eq_false (by unfold Vbptai.EVENTS; omega)
      show Same m s _ (outOf s (Vbptai.need (none : Option Vbptai.Event).isNone (-6) >>= fun _ => Vbptai.need (decide (s.events.length < Vbptai.EVENTS)) (-9) >>= fun _ => _))
      rw [this]
      exact ⟨rfl, R, W⟩
    · rw [if_neg h60]
      have : decide (s.events.length < Vbptai.EVENTS) = true := decide_eq_true (by unfold Vbptai.EVENTS; omega)
      show Same m s _ (outOf s (Vbptai.need (none : Option Vbptai.Event).isNone (-6) >>= fun _ => Vbptai.need (decide (s.events.length < Vbptai.EVENTS)) (-9) >>= fun _ => _))
      rw [this]
      refine ⟨?_, R.add he, W.add (fun y hy z => ?_) (by omega) hk⟩
      · show [((s.events.length + 1 : Nat) : Int)] = [(s.events.length : Int) + 1]
        rw [Int.natCast_add]
        rfl
      · have := List.find?_eq_none.mp q y hy
        exact this (by simpa using z)
end
end FB
-- P2
set_option Elab.async false
set_option linter.all false
set_option maxRecDepth 100000
set_option maxHeartbeats 3900000
namespace FB
open PySem PySem.Spec PyProof.Rows L2 Evl
/-! ### ranges -/
theorem r_event (L k : Int) : inR L "event" k = (decide (1 ≤ k) && decide (k ≤ 999)) := by kernel_rfl
theorem r_day (L k : Int) : inR L "day" k = (decide (0 ≤ k) && decide (k ≤ 100000)) := by kernel_rfl
theorem r_account (L k : Int) : inR L "account" k = (decide (1 ≤ k) && decide (k ≤ 20)) := by kernel_rfl
theorem r_source (L k : Int) : inR L "source" k = (decide (0 ≤ k) && decide (k ≤ 20)) := by kernel_rfl
theorem r_owner (L k : Int) : inR L "owner" k = (decide (1 ≤ k) && decide (k ≤ 40)) := by kernel_rfl
theorem r_amount (L k : Int) : inR L "amount" k = (decide (1 ≤ k) && decide (k ≤ 1000000000)) := by kernel_rfl
theorem r_units (L k : Int) : inR L "units" k = (decide (0 ≤ k) && decide (k ≤ 10000)) := by kernel_rfl
theorem r_yes (L k : Int) : inR L "yes" k = (decide (0 ≤ k) && decide (k ≤ 1)) := by kernel_rfl
theorem r_small (L k : Int) : inR L "small" k = (decide (0 ≤ k) && decide (k ≤ 1)) := by kernel_rfl
theorem r_land (L k : Int) : inR L "land" k = (decide (1 ≤ k) && decide (k ≤ L)) := by kernel_rfl
theorem r_about (L k : Int) : inR L "about" k = true := by kernel_rfl
theorem r_undone (L k : Int) : inR L "undone" k = true := by kernel_rfl
theorem num_bind {α : Type} {n lo hi : Int} {f : Nat → Vbptai.Res α} : (Vbptai.num n lo hi >>= f) = if (decide (lo ≤ n) && decide (n ≤ hi)) = true then f n.toNat else .error (-3) := by
  unfold Vbptai.num
  by_cases h : lo ≤ n ∧ n ≤ hi
  · rw [if_pos h, if_pos (by rw [decide_eq_true h.1, decide_eq_true h.2]; rfl)]
    rfl
  · rw [if_neg h, if_neg (fun z => by rw [Bool.and_eq_true] at z; exact h ⟨of_decide_eq_true z.1, of_decide_eq_true z.2⟩)]
    rfl
/-- a call as it was handed in -/
def stepM (tell : RecM → CallM → Int × RecM) (m : RecM) (c : CallM) : Int × RecM := if numsS (m.weights.length : Int) c.told = true then (if bytesS c.n c.row = true then tell m c else (-1, m)) else (-3, m)

theorem if_and {α : Type} {a b : Bool} {x y : α} : (if a = true then (if b = true then x else y) else y) = if (a && b) = true then x else y := by
  cases a <;> cases b <;> rfl
theorem num2 {α : Type} {k d l1 u1 l2 u2 : Int} {f : Nat → Nat → Vbptai.Res α} : (Vbptai.num k l1 u1 >>= fun k => Vbptai.num d l2 u2 >>= fun d => f k d) = if ((decide (l1 ≤ k) && decide (k ≤ u1)) && (decide (l2 ≤ d) && decide (d ≤ u2))) = true then f k.toNat d.toNat else .error (-3) := by
  simp only [num_bind, if_and]
theorem num4 {α : Type} {k d a n l1 u1 l2 u2 l3 u3 l4 u4 : Int} {f : Nat → Nat → Nat → Nat → Vbptai.Res α} : (Vbptai.num k l1 u1 >>= fun k => Vbptai.num d l2 u2 >>= fun d => Vbptai.num a l3 u3 >>= fun a => Vbptai.num n l4 u4 >>= fun n => f k d a n) =
    if ((decide (l1 ≤ k) && decide (k ≤ u1)) && ((decide (l2 ≤ d) && decide (d ≤ u2)) && ((decide (l3 ≤ a) && decide (a ≤ u3)) && (decide (l4 ≤ n) && decide (n ≤ u4))))) = true then f k.toNat d.toNat a.toNat n.toNat else .error (-3) := by
  simp only [num_bind, if_and]
section
variable {m : RecM} {s : Vbptai.State}
theorem toNat_cast {k : Int} (h : 0 ≤ k) : ((k.toNat : Nat) : Int) = k := Int.toNat_of_nonneg h
theorem same_no (R : Rel m s) (W : Well s) (e : Int) : Same m s (e, m) (s, [e]) := ⟨rfl, R, W⟩
theorem nums4 {L : Int} {a b c d : Str} {i j k l : Int} : numsS L [(a, i), (b, j), (c, k), (d, l)] = (inR L a i && (inR L b j && (inR L c k && inR L d l))) := by
  show (inR L a i && (inR L b j && (inR L c k && (inR L d l && true)))) = _
  rw [Bool.and_true]
theorem nums3 {L : Int} {a b c : Str} {i j k : Int} : numsS L [(a, i), (b, j), (c, k)] = (inR L a i && (inR L b j && inR L c k)) := by
  show (inR L a i && (inR L b j && (inR L c k && true))) = _
  rw [Bool.and_true]
theorem nums2 {L : Int} {a b : Str} {i j : Int} : numsS L [(a, i), (b, j)] = (inR L a i && inR L b j) := by
  show (inR L a i && (inR L b j && true)) = _
  rw [Bool.and_true]
theorem nums1 {L : Int} {a : Str} {i : Int} : numsS L [(a, i)] = inR L a i := by
  show (inR L a i && true) = _
  rw [Bool.and_true]
theorem ba2 {a b : Int} {x y : Int} (h : (decide (a ≤ x) && decide (y ≤ b)) = true) : a ≤ x ∧ y ≤ b := by
  rw [Bool.and_eq_true] at h
  exact ⟨of_decide_eq_true h.1, of_decide_eq_true h.2⟩

theorem ba4 {a b c d : Bool} (h : (a && (b && (c && d))) = true) : a = true ∧ b = true ∧ c = true ∧ d = true := by
  rw [Bool.and_eq_true, Bool.and_eq_true, Bool.and_eq_true] at h
  exact h
theorem out_if (R : Rel m s) (W : Well s) {b : Bool} {x : Int × RecM} {y : Vbptai.Res (Vbptai.State × Vbptai.Answer)} (h : b = true → Same m s x (outOf s y)) : Same m s (if b = true then x else (-3, m)) (outOf s (if b = true then y else .error (-3))) := by
  cases b with
  | true => exact h rfl
  | false => exact same_no R W (-3)
theorem deposit_eq (R : Rel m s) (W : Well s) (k d a n : Int) : Same m s (stepM tellEvent m ⟨3, [("event", k), ("day", d), ("account", a), ("amount", n)], []⟩) (outOf s (Vbptai.act s (.deposit k d a n))) := by
  show Same m s (if numsS _ _ = true then _ else _) (outOf s (Vbptai.num k 1 999 >>= fun k => Vbptai.num d 0 100000 >>= fun d => Vbptai.num a 1 20 >>= fun a => Vbptai.num n 1 1000000000 >>= fun n => Vbptai.add s k d (.deposit a n)))
  rw [nums4, r_event, r_day, r_account, r_amount, num4]
  refine out_if R W fun h => ?_
  obtain ⟨h1, h2, h3, h4⟩ := ba4 h
  have e1 := ba2 h1
  have e2 := ba2 h2
  have e3 := ba2 h3
  have e4 := ba2 h4
  refine event_eq R W (by omega) ?_
  show (⟨3, k, d, a, 0, 0, n, 0, 0, []⟩ : EvM) = ⟨3, k.toNat, d.toNat, a.toNat, 0, 0, n.toNat, 0, 0, []⟩
  rw [toNat_cast (by omega), toNat_cast (by omega), toNat_cast (by omega), toNat_cast (by omega)]
theorem pay_eq (R : Rel m s) (W : Well s) (k d a n : Int) : Same m s (stepM tellEvent m ⟨6, [("event", k), ("day", d), ("owner", a), ("amount", n)], []⟩) (outOf s (Vbptai.act s (.pay k d a n))) := by
  show Same m s (if numsS _ _ = true then _ else _) (outOf s (Vbptai.num k 1 999 >>= fun k => Vbptai.num d 0 100000 >>= fun d => Vbptai.num a 1 40 >>= fun a => Vbptai.num n 1 1000000000 >>= fun n => Vbptai.add s k d (.pay a n)))
  rw [nums4, r_event, r_day, r_owner, r_amount, num4]
  refine out_if R W fun h => ?_
  obtain ⟨h1, h2, h3, h4⟩ := ba4 h
  have e1 := ba2 h1
  have e2 := ba2 h2
  have e3 := ba2 h3
  have e4 := ba2 h4
  refine event_eq R W (by omega) ?_
  show (⟨6, k, d, 0, 0, a, n, 0, 0, []⟩ : EvM) = ⟨6, k.toNat, d.toNat, 0, 0, a.toNat, n.toNat, 0, 0, []⟩
  rw [toNat_cast (by omega), toNat_cast (by omega), toNat_cast (by omega), toNat_cast (by omega)]
theorem order_eq (R : Rel m s) (W : Well s) (k d a n : Int) : Same m s (stepM tellEvent m ⟨7, [("event", k), ("day", d), ("source", a), ("owner", n)], []⟩) (outOf s (Vbptai.act s (.order k d a n))) := by
  show Same m s (if numsS _ _ = true then _ else _) (outOf s (Vbptai.num k 1 999 >>= fun k => Vbptai.num d 0 100000 >>= fun d => Vbptai.num a 0 20 >>= fun a => Vbptai.num n 1 40 >>= fun n => Vbptai.add s k d (.order a n)))
  rw [nums4, r_event, r_day, r_source, r_owner, num4]
  refine out_if R W fun h => ?_
  obtain ⟨h1, h2, h3, h4⟩ := ba4 h
  have e1 := ba2 h1
  have e2 := ba2 h2
  have e3 := ba2 h3
  have e4 := ba2 h4
  refine event_eq R W (by omega) ?_
  show (⟨7, k, d, 0, a, n, 0, 0, 0, []⟩ : EvM) = ⟨7, k.toNat, d.toNat, 0, a.toNat, n.toNat, 0, 0, 0, []⟩
  rw [toNat_cast (by omega), toNat_cast (by omega), toNat_cast (by omega), toNat_cast (by omega)]
theorem closing_eq (R : Rel m s) (W : Well s) (k d : Int) : Same m s (stepM tellEvent m ⟨9, [("event", k), ("day", d)], []⟩) (outOf s (Vbptai.act s (.closing k d))) := by
  show Same m s (if numsS _ _ = true then _ else _) (outOf s (Vbptai.num k 1 999 >>= fun k => Vbptai.num d 0 100000 >>= fun d => Vbptai.add s k d .closing))
  rw [nums2, r_event, r_day, num2]
  refine out_if R W fun h => ?_
  obtain ⟨h1, h2⟩ := He.ba h
  have e1 := ba2 h1
  have e2 := ba2 h2
  refine event_eq R W (by omega) ?_
  show (⟨9, k, d, 0, 0, 0, 0, 0, 0, []⟩ : EvM) = ⟨9, k.toNat, d.toNat, 0, 0, 0, 0, 0, 0, []⟩
  rw [toNat_cast (by omega), toNat_cast (by omega)]
end
end FB
-- P3
set_option Elab.async false
set_option linter.all false
set_option maxRecDepth 100000
set_option maxHeartbeats 3900000
namespace FB
open PySem PySem.Spec PyProof.Rows L2 Evl
section
variable {m : RecM} {s : Vbptai.State}
/-- the event of a number that may be any -/
def findQ (s : Vbptai.State) (q : Int) : Option Vbptai.Event := if q < 0 then none else Vbptai.eventAt s q.toNat
theorem find_q (s : Vbptai.State) (q : Int) : s.events.find? (fun e => decide ((e.num : Int) = q)) = findQ s q := by
  unfold findQ
  by_cases h : q < 0
  · rw [if_pos h]
    refine List.find?_eq_none.mpr fun e _ => ?_
    simp only [decide_eq_true_eq]
    omega
  · rw [if_neg h, ← eventAt_eq, toNat_cast (by omega)]
theorem findQ_num {q : Int} {e : Vbptai.Event} (h : findQ s q = some e) : e ∈ s.events ∧ (e.num : Int) = q := by
  rw [← find_q] at h
  exact ⟨List.mem_of_find?_eq_some h, of_decide_eq_true (List.find?_some (p := fun e : Vbptai.Event => decide ((e.num : Int) = q)) h)⟩
theorem earlier_eq (s : Vbptai.State) (q : Int) (f : Vbptai.Event → Bool) : Vbptai.earlier s q f = match findQ s q with
  | some e => if f e = true then .ok e else .error (-5)
  | none => .error (-5) := rfl
theorem kind_dep (e : Vbptai.Event) : decide ((evM e).kind = 3) = Vbptai.isDeposit e := by
  obtain ⟨n, d, x⟩ := e
  cases x <;> rfl
theorem kind_chg (e : Vbptai.Event) : decide ((evM e).kind = 5) = Vbptai.isCharge e := by
  obtain ⟨n, d, x⟩ := e
  cases x <;> rfl
theorem about_eq (e : Vbptai.Event) {k : Nat} (hk : 1 ≤ k) : decide ((evM e).about = (k : Int)) = Vbptai.about e k := by
  obtain ⟨n, d, x⟩ := e
  cases x with
  | bounce q =>
    show decide ((q : Int) = (k : Int)) = (q == k)
    by_cases c : q = k
    · rw [c, decide_eq_true rfl]
      simp
    · rw [decide_eq_false (by omega)]
      simp [c]
  | refund q =>
    show decide ((q : Int) = (k : Int)) = (q == k)
    by_cases c : q = k
    · rw [c, decide_eq_true rfl]
      simp
    · rw [decide_eq_false (by omega)]
      simp [c]
  | _ =>
    exact decide_eq_false (show ¬ ((0 : Int) = (k : Int)) by omega)
theorem any_perm {α : Type} {l l' : List α} (h : l.Perm l') (p : α → Bool) : l.any p = l'.any p := by
  refine Bool.eq_iff_iff.mpr (List.any_eq_true.trans (Iff.trans ?_ List.any_eq_true.symm))
  exact ⟨fun ⟨x, hx, px⟩ => ⟨x, h.mem_iff.mp hx, px⟩, fun ⟨x, hx, px⟩ => ⟨x, h.mem_iff.mpr hx, px⟩⟩
theorem follow_eq (R : Rel m s) {k : Nat} (hk : 1 ≤ k) : followM m (k : Int) = s.events.any fun x => Vbptai.about x k := by
  unfold followM
  rw [List.any_map, any_perm R.evs, List.any_map]
  congr 1
  funext x
  exact about_eq x hk
theorem all_not (l : List Vbptai.Event) (k : Nat) : (l.all fun x => !Vbptai.about x k) = !(l.any fun x => Vbptai.about x k) := by
  induction l with
  | nil => rfl
  | cons x l ih =>
    rw [List.all_cons, List.any_cons, ih, Bool.not_or]
theorem need_bind {α : Type} {b : Bool} {e : Int} {f : Unit → Vbptai.Res α} : (Vbptai.need b e >>= f) = if b = true then f () else .error e := by
  cases b <;> rfl
def c3 (n k d q : Int) : CallM := ⟨n, [("event", k), ("day", d), ("about", q)], []⟩
theorem c3_about (n k d q : Int) : tl (c3 n k d q).told "about" = some q := by kernel_rfl
theorem c3_day (n k d q : Int) : tl (c3 n k d q).told "day" = some d := by kernel_rfl
theorem refusal_eq (R : Rel m s) (W : Well s) (n k d q kind : Int) : refusalM m (c3 n k d q) kind = match findQ s q with
  | none => -5
  | some e => if (!decide ((evM e).kind = kind)) = true then -5 else if d < (e.day : Int) then -7 else 0 := by
  unfold refusalM
  rw [c3_about, c3_day]
  show (match m.events.find? (fun e => decide (evK e = Sum.inl q)) with | none => -5 | some e => _) = _
  rw [R.find W, find_q]
  cases findQ s q with
  | none => rfl
  | some e =>
    rw [Option.map_some]
    dsimp only
    rw [evM_day]
    rfl
theorem bounce_eq (R : Rel m s) (W : Well s) (k d q : Int) : Same m s (stepM tellBounce m (c3 4 k d q)) (outOf s (Vbptai.act s (.bounce k d q))) := by
  show Same m s (if numsS _ _ = true then _ else _) (outOf s (Vbptai.num k 1 999 >>= fun k => Vbptai.num d 0 100000 >>= fun d => Vbptai.earlier s q Vbptai.isDeposit >>= fun e => Vbptai.need (decide (e.day ≤ d)) (-7) >>= fun _ => Vbptai.need (s.events.all fun x => !Vbptai.about x e.num) (-8) >>= fun _ => Vbptai.add s k d (.bounce e.num)))
  have hn : numsS (m.weights.length : Int) (c3 4 k d q).told = ((decide (1 ≤ k) && decide (k ≤ 999)) && (decide (0 ≤ d) && decide (d ≤ 100000))) := by
    show numsS (m.weights.length : Int) [("event", k), ("day", d), ("about", q)] = _
    rw [nums3, r_event, r_day, r_about, Bool.and_true]
  rw [hn, num2]
  refine out_if R W fun h => ?_
  obtain ⟨h1, h2⟩ := He.ba h
  have e1 := ba2 h1
  have e2 := ba2 h2
  show Same m s (tellBounce m (c3 4 k d q)) _
  unfold tellBounce
  have rf := refusal_eq R W 4 k d q 3
  rw [earlier_eq]
  cases hf : findQ s q with
  | none =>
    rw [hf] at rf
    rw [rf]
    exact same_no R W (-5)
  | some e =>
    obtain ⟨he, hq⟩ := findQ_num hf
    rw [hf] at rf
    dsimp only at rf
    rw [kind_dep] at rf
    dsimp only
    cases hd : Vbptai.isDeposit e with
    | false =>
      rw [hd] at rf
      rw [rf]
      exact same_no R W (-5)
    | true =>
      rw [hd, if_neg (by decide)] at rf
      rw [if_pos rfl]
      show Same m s _ (outOf s (Vbptai.need (decide (e.day ≤ d.toNat)) (-7) >>= fun _ => Vbptai.need (s.events.all fun x => !Vbptai.about x e.num) (-8) >>= fun _ => Vbptai.add s k.toNat d.toNat (.bounce e.num)))
      rw [need_bind, need_bind, all_not]
      by_cases hday : d < (e.day : Int)
      · rw [if_pos hday] at rf
        rw [rf, if_pos (by decide), if_neg (by rw [decide_eq_false (by omega)]; decide)]
        exact same_no R W (-7)
      · rw [if_neg hday] at rf
        rw [rf, if_neg (by decide), if_pos (decide_eq_true (by omega))]
        have hfo : followM m q = s.events.any fun x => Vbptai.about x e.num := by rw [← hq, follow_eq R (W.num1 e he)]
        rw [c3_about]
        show Same m s (if followM m q = true then _ else _) _
        rw [hfo]
        cases ha : s.events.any fun x => Vbptai.about x e.num with
        | true => exact same_no R W (-8)
        | false =>
          rw [if_neg (by decide), if_pos Bool.not_false]
          refine event_eq R W (by omega) ?_
          show (⟨4, k, d, 0, 0, 0, 0, 0, q, []⟩ : EvM) = ⟨4, k.toNat, d.toNat, 0, 0, 0, 0, 0, e.num, []⟩
          rw [toNat_cast (by omega), toNat_cast (by omega), hq]
theorem refund_eq (R : Rel m s) (W : Well s) (k d q : Int) : Same m s (stepM tellRefund m (c3 8 k d q)) (outOf s (Vbptai.act s (.refund k d q))) := by
  show Same m s (if numsS _ _ = true then _ else _) (outOf s (Vbptai.num k 1 999 >>= fun k => Vbptai.num d 0 100000 >>= fun d => Vbptai.earlier s q Vbptai.isCharge >>= fun e => Vbptai.need (decide (e.day ≤ d)) (-7) >>= fun _ => Vbptai.add s k d (.refund e.num)))
  have hn : numsS (m.weights.length : Int) (c3 8 k d q).told = ((decide (1 ≤ k) && decide (k ≤ 999)) && (decide (0 ≤ d) && decide (d ≤ 100000))) := by
    show numsS (m.weights.length : Int) [("event", k), ("day", d), ("about", q)] = _
    rw [nums3, r_event, r_day, r_about, Bool.and_true]
  rw [hn, num2]
  refine out_if R W fun h => ?_
  obtain ⟨h1, h2⟩ := He.ba h
  have e1 := ba2 h1
  have e2 := ba2 h2
  show Same m s (tellRefund m (c3 8 k d q)) _
  unfold tellRefund
  have rf := refusal_eq R W 8 k d q 5
  rw [earlier_eq]
  cases hf : findQ s q with
  | none =>
    rw [hf] at rf
    rw [rf]
    exact same_no R W (-5)
  | some e =>
    obtain ⟨he, hq⟩ := findQ_num hf
    rw [hf] at rf
    dsimp only at rf
    rw [kind_chg] at rf
    dsimp only
    cases hd : Vbptai.isCharge e with
    | false =>
      rw [hd] at rf
      rw [rf]
      exact same_no R W (-5)
    | true =>
      rw [hd, if_neg (by decide)] at rf
      rw [if_pos rfl]
      show Same m s _ (outOf s (Vbptai.need (decide (e.day ≤ d.toNat)) (-7) >>= fun _ => Vbptai.add s k.toNat d.toNat (.refund e.num)))
      rw [need_bind]
      by_cases hday : d < (e.day : Int)
      · rw [if_pos hday] at rf
        rw [rf, if_pos (by decide), if_neg (by rw [decide_eq_false (by omega)]; decide)]
        exact same_no R W (-7)
      · rw [if_neg hday] at rf
        rw [rf, if_neg (by decide), if_pos (decide_eq_true (by omega))]
        refine event_eq R W (by omega) ?_
        show (⟨8, k, d, 0, 0, 0, 0, 0, q, []⟩ : EvM) = ⟨8, k.toNat, d.toNat, 0, 0, 0, 0, 0, e.num, []⟩
        rw [toNat_cast (by omega), toNat_cast (by omega), hq]
end
end FB
-- P4
set_option Elab.async false
set_option linter.all false
set_option maxRecDepth 100000
set_option maxHeartbeats 3900000
namespace FB
open PySem PySem.Spec PyProof.Rows L2 Evl
section
variable {m : RecM} {s : Vbptai.State}
theorem filter_len : ∀ {l : List Vbptai.Event} {e : Vbptai.Event}, (l.map (·.num)).Nodup → e ∈ l → (l.filter fun x => x.num != e.num).length + 1 = l.length
  | [], _, _, h => nomatch h
  | x :: l, e, nd, h => by
    have nd := List.nodup_cons.mp (show (x.num :: l.map (fun y => y.num)).Nodup from nd)
    by_cases c : x.num = e.num
    · have e1 : (l.filter fun x => x.num != e.num) = l := List.filter_eq_self.mpr fun y hy => by
        rw [bne_iff_ne]
        intro z
        exact nd.1 (List.mem_map.mpr ⟨y, hy, by rw [z, c]⟩)
      rw [List.filter_cons_of_neg (by simp [c]), e1, List.length_cons]
    · rcases List.mem_cons.mp h with z | h2
      · exact absurd (by rw [z]) c
      · rw [List.filter_cons_of_pos (by simp [c]), List.length_cons, List.length_cons, filter_len nd.2 h2]
def c10 (q : Int) : CallM := ⟨10, [("undone", q)], []⟩
theorem c10_undone (q : Int) : tl (c10 q).told "undone" = some q := by kernel_rfl
theorem undo_eq (R : Rel m s) (W : Well s) (q : Int) : Same m s (stepM tellUndo m (c10 q)) (outOf s (Vbptai.act s (.undo q))) := by
  show Same m s (if numsS _ _ = true then _ else _) (outOf s (Vbptai.earlier s q (fun _ => true) >>= fun e => Vbptai.need (s.events.all fun x => !Vbptai.about x e.num) (-7) >>= fun _ => pure ({ s with events := s.events.filter fun x => x.num != e.num }, [((s.events.length - 1 : Nat) : Int)])))
  have hn : numsS (m.weights.length : Int) (c10 q).told = true := by
    show numsS (m.weights.length : Int) [("undone", q)] = _
    rw [nums1, r_undone]
  rw [hn, if_pos rfl]
  show Same m s (tellUndo m (c10 q)) _
  unfold tellUndo
  rw [c10_undone, earlier_eq]
  have hfd := R.find W q
  rw [find_q] at hfd
  show Same m s (if (m.events.find? (fun e => decide (evK e = Sum.inl q))).isSome = true then _ else _) _
  rw [hfd]
  cases hf : findQ s q with
  | none => exact same_no R W (-5)
  | some e =>
    obtain ⟨he, hq⟩ := findQ_num hf
    rw [Option.map_some, if_pos Option.isSome_some]
    dsimp only
    rw [if_pos rfl]
    show Same m s _ (outOf s (Vbptai.need (s.events.all fun x => !Vbptai.about x e.num) (-7) >>= fun _ => _))
    rw [need_bind, all_not]
    have hfo : followM m q = s.events.any fun x => Vbptai.about x e.num := by rw [← hq, follow_eq R (W.num1 e he)]
    show Same m s (if followM m q = true then _ else _) _
    rw [hfo]
    cases ha : s.events.any fun x => Vbptai.about x e.num with
    | true => exact same_no R W (-7)
    | false =>
      rw [if_neg (by decide), if_pos Bool.not_false]
      have p1 : (m.events.filter fun e => decide (evK e ≠ Sum.inl q)).Perm ((s.events.filter fun x => x.num != e.num).map evM) := by
        have := R.evs.filter (fun e => decide (evK e ≠ Sum.inl q))
        rw [List.filter_map] at this
        refine this.trans (.of_eq ?_)
        congr 1
        apply List.filter_congr
        intro x _
        show decide (evK (evM x) ≠ Sum.inl q) = _
        unfold evK
        rw [evM_num]
        by_cases c : x.num = e.num
        · have e1 : (Sum.inl (x.num : Int) : Key) = Sum.inl q := by rw [c, hq]
          simp [c, e1, hq]
        · have e1 : ¬ (Sum.inl (x.num : Int) : Key) = Sum.inl q := fun z => c (by have := Sum.inl.inj z; omega)
          rw [decide_eq_true (show (Sum.inl (x.num : Int) : Key) ≠ Sum.inl q from e1)]
          simp [c]
      have hl := filter_len W.nums he
      refine ⟨?_, ⟨R.sch, R.sml, R.lan, p1⟩, ?_, ?_, W.days, W.sfew, ?_⟩
      · show [((s.events.length - 1 : Nat) : Int)] = [((m.events.filter fun e => decide (evK e ≠ Sum.inl q)).length : Int)]
        rw [p1.length_eq, List.length_map]
        congr 2
        omega
      · show ((s.events.filter fun x => x.num != e.num).map (·.num)).Nodup
        exact ((List.filter_sublist (p := fun x : Vbptai.Event => x.num != e.num)).map (fun x : Vbptai.Event => x.num)).nodup W.nums
      · show (s.events.filter fun x => x.num != e.num).length ≤ 60
        have := W.few
        omega
      · intro x hx
        exact W.num1 x (List.mem_filter.mp hx).1
/-! bytes -/
theorem bytes_bind {α : Type} {n : Int} (hn : n = 0 ∨ n = 5 ∨ n = 16) {t : List Int} {f : Vbptai.Bytes → Vbptai.Res α} : (Vbptai.bytesIn t >>= f) = if bytesS n t = true then f (t.map Int.toNat) else .error (-1) := by
  unfold Vbptai.bytesIn bytesS
  rw [if_pos hn]
  have e : (t.map fun b => decide (0 ≤ b) && decide (b ≤ 255)).all id = t.all fun c => decide (0 ≤ c ∧ c ≤ 255) := by
    rw [List.all_map]
    congr 1
    funext c
    show (decide (0 ≤ c) && decide (c ≤ 255)) = _
    by_cases h1 : 0 ≤ c <;> by_cases h2 : c ≤ 255 <;> simp [h1, h2]
  rw [e]
  by_cases h : t.length ≤ 2000 ∧ (t.all fun c => decide (0 ≤ c ∧ c ≤ 255)) = true
  · rw [if_pos h, if_pos (by rw [h.2, decide_eq_true (by omega)]; rfl)]
    rfl
  · rw [if_neg h, if_neg (fun z => by rw [Bool.and_eq_true] at z; exact h ⟨by have := of_decide_eq_true z.1; omega, z.2⟩)]
    rfl
theorem bytesS_nonneg {n : Int} (hn : n = 0 ∨ n = 5 ∨ n = 16) {t : List Int} (h : bytesS n t = true) : (∀ x ∈ t, 0 ≤ x) ∧ t.length ≤ 2000 := by
  unfold bytesS at h
  rw [if_pos hn, Bool.and_eq_true] at h
  refine ⟨fun x hx => ?_, by have := of_decide_eq_true h.1; omega⟩
  have h2 := h.2
  rw [List.all_map] at h2
  have := List.all_eq_true.mp h2 x hx
  exact (ba2 this).1
def c5 (k d o u : Int) (t : List Int) : CallM := ⟨5, [("event", k), ("day", d), ("owner", o), ("units", u)], t⟩
theorem charge_eq (R : Rel m s) (W : Well s) (k d o u : Int) (t : List Int) : Same m s (stepM tellCharge m (c5 k d o u t)) (outOf s (Vbptai.act s (.charge k d o u t))) := by
  show Same m s (if numsS _ _ = true then _ else _) (outOf s (Vbptai.num k 1 999 >>= fun k => Vbptai.num d 0 100000 >>= fun d => Vbptai.num o 1 40 >>= fun o => Vbptai.num u 0 10000 >>= fun u => Vbptai.nameIn t >>= fun b => Vbptai.add s k d (.charge o u b)))
  have hn : numsS (m.weights.length : Int) (c5 k d o u t).told = ((decide (1 ≤ k) && decide (k ≤ 999)) && ((decide (0 ≤ d) && decide (d ≤ 100000)) && ((decide (1 ≤ o) && decide (o ≤ 40)) && (decide (0 ≤ u) && decide (u ≤ 10000))))) := by
    show numsS (m.weights.length : Int) [("event", k), ("day", d), ("owner", o), ("units", u)] = _
    rw [nums4, r_event, r_day, r_owner, r_units]
  rw [hn, num4]
  refine out_if R W fun h => ?_
  obtain ⟨h1, h2, h3, h4⟩ := ba4 h
  have e1 := ba2 h1
  have e2 := ba2 h2
  have e3 := ba2 h3
  have e4 := ba2 h4
  show Same m s (if bytesS 5 t = true then _ else _) (outOf s ((Vbptai.bytesIn t >>= fun b => Vbptai.need (Vbptai.isName b) (-4) >>= fun _ => pure b) >>= fun b => Vbptai.add s k.toNat d.toNat (.charge o.toNat u.toNat b)))
  have e5 : ((Vbptai.bytesIn t >>= fun b => Vbptai.need (Vbptai.isName b) (-4) >>= fun _ => (pure b : Vbptai.Res Vbptai.Bytes)) >>= fun b => Vbptai.add s k.toNat d.toNat (.charge o.toNat u.toNat b)) = (Vbptai.bytesIn t >>= fun b => if Vbptai.isName b = true then Vbptai.add s k.toNat d.toNat (.charge o.toNat u.toNat b) else .error (-4)) := by
    cases Vbptai.bytesIn t with
    | error e => rfl
    | ok b =>
      show ((Vbptai.need (Vbptai.isName b) (-4) >>= fun _ => (pure b : Vbptai.Res Vbptai.Bytes)) >>= fun b => _) = if Vbptai.isName b = true then _ else _
      cases Vbptai.isName b <;> rfl
  rw [e5, bytes_bind (.inr (.inl rfl))]
  cases hb : bytesS 5 t with
  | false => exact same_no R W (-1)
  | true =>
    rw [if_pos rfl, if_pos rfl]
    obtain ⟨hnn, hl⟩ := bytesS_nonneg (.inr (.inl rfl)) hb
    show Same m s (if isNam t = true then tellEvent m (c5 k d o u t) else (-4, m)) _
    have hin : isNam t = Vbptai.isName (t.map Int.toNat) := by
      have := isNam_eq (t.map Int.toNat)
      rw [cI_toNat hnn] at this
      exact this
    rw [hin]
    cases Vbptai.isName (t.map Int.toNat) with
    | false => exact same_no R W (-4)
    | true =>
      rw [if_pos rfl, if_pos rfl]
      refine event_eq R W (by omega) ?_
      show (⟨5, k, d, 0, 0, o, 0, u, 0, t⟩ : EvM) = ⟨5, k.toNat, d.toNat, 0, 0, o.toNat, 0, u.toNat, 0, cI (t.map Int.toNat)⟩
      rw [toNat_cast (by omega), toNat_cast (by omega), toNat_cast (by omega), toNat_cast (by omega), cI_toNat hnn]
end
end FB
-- P5
set_option Elab.async false
set_option linter.all false
set_option maxRecDepth 100000
set_option maxHeartbeats 3900000
namespace FB
open PySem PySem.Spec PyProof.Rows L2 Evl
section
variable {m : RecM} {s : Vbptai.State}
theorem look_val (l : List (Int × Int)) (o : Int) : valV (smlK l) (Sum.inl o) = (lookI l o).map V.int := by
  unfold lookI smlK
  induction l with
  | nil => rfl
  | cons q l ih =>
    rw [List.map_cons]
    by_cases c : q.1 = o
    · rw [valV_pos (p := ((Sum.inl q.1 : Key), V.int q.2)) (by rw [c]), List.find?_cons_of_pos (by rw [c]; exact decide_eq_true rfl)]
      rfl
    · rw [valV_neg (p := ((Sum.inl q.1 : Key), V.int q.2)) (fun z => c (Sum.inl.inj z)), List.find?_cons_of_neg (by rw [decide_eq_false c]; decide)]
      exact ih
theorem look_put (l : List (Int × Int)) (o x o' : Int) : lookI (putI l o x) o' = if o' = o then some x else lookI l o' := by
  have h := look_val (putI l o x) o'
  rw [← put_sml, valV_put] at h
  by_cases c : o' = o
  · rw [if_pos c]
    rw [if_pos (by rw [c])] at h
    cases q : lookI (putI l o x) o' with
    | none =>
      rw [q] at h
      cases h
    | some y =>
      rw [q] at h
      have := Option.some.inj h
      injection this with this
      rw [this]
  · rw [if_neg c]
    rw [if_neg (fun z => c (Sum.inl.inj z)), look_val] at h
    cases q : lookI (putI l o x) o' with
    | none =>
      rw [q] at h
      cases q2 : lookI l o' with
      | none => rfl
      | some y =>
        rw [q2] at h
        cases h
    | some y =>
      rw [q] at h
      cases q2 : lookI l o' with
      | none =>
        rw [q2] at h
        cases h
      | some z =>
        rw [q2] at h
        have := Option.some.inj h
        injection this with this
        rw [this]
theorem mem_putNum (x a : Nat) : ∀ l, a ∈ Vbptai.putNum x l ↔ a = x ∨ a ∈ l
  | [] => by simp [Vbptai.putNum]
  | y :: l => by
    unfold Vbptai.putNum
    split
    · simp
    · split
      · rename_i h1 h2
        subst h2
        simp
      · simp [mem_putNum x a l]
        constructor
        · rintro (h | h | h)
          · exact .inr (.inl h)
          · exact .inl h
          · exact .inr (.inr h)
        · rintro (h | h | h)
          · exact .inr (.inl h)
          · exact .inl h
          · exact .inr (.inr h)
def c1 (o x : Int) : CallM := ⟨1, [("owner", o), ("yes", x)], []⟩
theorem c1_owner (o x : Int) : tl (c1 o x).told "owner" = some o := by kernel_rfl
theorem c1_yes (o x : Int) : tl (c1 o x).told "yes" = some x := by kernel_rfl
theorem small_eq (R : Rel m s) (W : Well s) (o x : Int) : Same m s (stepM tellSmall m (c1 o x)) (outOf s (Vbptai.act s (.small o x))) := by
  show Same m s (if numsS _ _ = true then _ else _) (outOf s (Vbptai.num o 1 40 >>= fun o => Vbptai.num x 0 1 >>= fun x => pure ({ s with smalls := if x = 1 then Vbptai.putNum o s.smalls else s.smalls.filter fun y => y != o }, [0])))
  have hn : numsS (m.weights.length : Int) (c1 o x).told = ((decide (1 ≤ o) && decide (o ≤ 40)) && (decide (0 ≤ x) && decide (x ≤ 1))) := by
    show numsS (m.weights.length : Int) [("owner", o), ("yes", x)] = _
    rw [nums2, r_owner, r_yes]
  rw [hn, num2]
  refine out_if R W fun h => ?_
  obtain ⟨h1, h2⟩ := He.ba h
  have e1 := ba2 h1
  have e2 := ba2 h2
  show Same m s (tellSmall m (c1 o x)) _
  unfold tellSmall
  rw [c1_owner, c1_yes]
  refine ⟨rfl, ⟨R.sch, fun a => ?_, R.lan, R.evs⟩, ⟨W.nums, W.few, W.days, W.sfew, W.num1⟩⟩
  show lookI (putI m.smalls o x) a = some 1 ↔ a ∈ (if x.toNat = 1 then Vbptai.putNum o.toNat s.smalls else s.smalls.filter fun y => y != o.toNat)
  rw [look_put]
  by_cases hx : x = 1
  · rw [if_pos (show x.toNat = 1 by omega), mem_putNum]
    by_cases ha : (a : Int) = o
    · rw [if_pos ha, hx]
      exact ⟨fun _ => .inl (by omega), fun _ => rfl⟩
    · rw [if_neg ha, R.sml]
      exact ⟨fun z => .inr z, fun z => z.resolve_left (by omega)⟩
  · rw [if_neg (show ¬ x.toNat = 1 by omega), List.mem_filter]
    by_cases ha : (a : Int) = o
    · rw [if_pos ha]
      refine ⟨fun z => absurd (Option.some.inj z) hx, fun z => ?_⟩
      have := z.2
      rw [bne_iff_ne] at this
      omega
    · rw [if_neg ha, R.sml, bne_iff_ne]
      exact ⟨fun z => ⟨z, by omega⟩, fun z => z.1⟩
def c2 (l : List Int) : CallM := ⟨2, [], l⟩
theorem sum_pos : ∀ {l : List Int}, (∀ x ∈ l, 0 ≤ x) → 0 ≤ l.sum ∧ (l.sum = 0 ↔ (l.any fun x => decide (0 < x)) = false)
  | [], _ => ⟨Int.le_refl _, by simp⟩
  | x :: l, h => by
    obtain ⟨h1, h2⟩ := sum_pos fun y hy => h y (List.mem_cons_of_mem _ hy)
    have hx := h x (List.mem_cons_self ..)
    rw [List.sum_cons, List.any_cons]
    refine ⟨by omega, ?_⟩
    by_cases c : 0 < x
    · rw [decide_eq_true c]
      constructor
      · intro z
        omega
      · intro z
        cases z
    · rw [decide_eq_false c, Bool.false_or, ← h2]
      omega
theorem lands_eq (R : Rel m s) (W : Well s) (l : List Int) : Same m s (stepM tellLands m (c2 l)) (outOf s (Vbptai.act s (.lands l))) := by
  show Same m s (tellLands m (c2 l)) (outOf s (Vbptai.need (decide (1 ≤ l.length ∧ l.length ≤ 10) && (l.all (fun x => decide (0 ≤ x ∧ x ≤ 1000)) && l.any fun x => decide (0 < x))) (-4) >>= fun _ => pure ({ s with lands := l.map Int.toNat }, [0])))
  rw [need_bind]
  unfold tellLands
  show Same m s (if (!(decide (1 ≤ (l.length : Int)) && decide ((l.length : Int) ≤ 10))) = true then _ else if (!(l.map fun x => decide (0 ≤ x) && decide (x ≤ 1000)).all id) = true then _ else if l.sum = 0 then _ else _) _
  have e1 : (decide (1 ≤ (l.length : Int)) && decide ((l.length : Int) ≤ 10)) = decide (1 ≤ l.length ∧ l.length ≤ 10) := by
    by_cases a : 1 ≤ l.length <;> by_cases b : l.length ≤ 10 <;> simp [a, b] <;> omega
  have e2 : (l.map fun x => decide (0 ≤ x) && decide (x ≤ 1000)).all id = l.all fun x => decide (0 ≤ x ∧ x ≤ 1000) := by
    rw [List.all_map]
    congr 1
    funext c
    show (decide (0 ≤ c) && decide (c ≤ 1000)) = _
    by_cases h1 : 0 ≤ c <;> by_cases h2 : c ≤ 1000 <;> simp [h1, h2]
  rw [e1, e2]
  cases h1 : decide (1 ≤ l.length ∧ l.length ≤ 10) with
  | false => exact same_no R W (-4)
  | true =>
    rw [if_neg (by decide)]
    cases h2 : l.all fun x => decide (0 ≤ x ∧ x ≤ 1000) with
    | false => exact same_no R W (-4)
    | true =>
      rw [if_neg (by decide)]
      have hnn : ∀ x ∈ l, 0 ≤ x := fun x hx => (of_decide_eq_true (List.all_eq_true.mp h2 x hx)).1
      obtain ⟨_, hs⟩ := sum_pos hnn
      cases h3 : l.any fun x => decide (0 < x) with
      | false =>
        rw [if_pos (hs.mpr h3)]
        exact same_no R W (-4)
      | true =>
        rw [if_neg (fun z => by rw [hs.mp z] at h3; cases h3)]
        refine ⟨rfl, ⟨R.sch, R.sml, ?_, R.evs⟩, ⟨W.nums, W.few, W.days, W.sfew, W.num1⟩⟩
        exact (cI_toNat hnn).symm
/-! schedules -/
theorem twice_eq (l : List Vbptai.Fee) : twiceM (l.map feeOf) = !Vbptai.distinctNames l := by
  unfold twiceM
  congr 1
  rw [List.map_map]
  induction l with
  | nil => rfl
  | cons x l ih =>
    unfold Vbptai.distinctNames
    rw [← ih, List.map_cons]
    have e : (l.any fun y => y.name == x.name) = decide (((fun m : FeeM => m.name) ∘ feeOf) x ∈ l.map ((fun m : FeeM => m.name) ∘ feeOf)) := by
      rw [Bool.eq_iff_iff, List.any_eq_true, decide_eq_true_iff, List.mem_map]
      constructor
      · rintro ⟨y, hy, e⟩
        exact ⟨y, hy, congrArg cI (eq_of_beq e)⟩
      · rintro ⟨y, hy, e⟩
        exact ⟨y, hy, by rw [cI_inj (show cI y.name = cI x.name from e)]; exact beq_self_eq_true _⟩
    rw [e]
    by_cases c : ((fun m : FeeM => m.name) ∘ feeOf) x ∈ l.map ((fun m : FeeM => m.name) ∘ feeOf)
    · rw [decide_eq_true c, decide_eq_false (fun z => (List.nodup_cons.mp z).1 c)]
      rfl
    · rw [decide_eq_false c]
      by_cases n : (l.map ((fun m : FeeM => m.name) ∘ feeOf)).Nodup
      · rw [decide_eq_true n, decide_eq_true (List.nodup_cons.mpr ⟨c, n⟩)]
        rfl
      · rw [decide_eq_false n, decide_eq_false (fun z => n (List.nodup_cons.mp z).2)]
        rfl
theorem Rel.day (R : Rel m s) (d : Nat) : (m.schedules.find? fun x => decide (schK x = Sum.inl (d : Int))).isSome = !(s.schedules.all fun x => x.day != d) := by
  rw [Bool.eq_iff_iff, List.find?_isSome, Bool.not_eq_true', ← Bool.not_eq_true, List.all_eq_true]
  constructor
  · rintro ⟨x, hx, px⟩ z
    obtain ⟨y, hy, rfl⟩ := List.mem_map.mp (R.sch.mem_iff.mp hx)
    have h1 := Sum.inl.inj (of_decide_eq_true px)
    have h2 := z y hy
    rw [bne_iff_ne] at h2
    have h3 : (y.day : Int) = (d : Int) := h1
    omega
  · intro z
    apply Classical.byContradiction
    intro n
    refine z fun y hy => ?_
    rw [bne_iff_ne]
    intro e
    exact n ⟨schM y, R.sch.mem_iff.mpr (List.mem_map.mpr ⟨y, hy, rfl⟩), decide_eq_true (by unfold schK schM; rw [e])⟩
def c0 (d : Int) (t : List Int) : CallM := ⟨0, [("day", d)], t⟩
theorem c0_day (d : Int) (t : List Int) : tl (c0 d t).told "day" = some d := by kernel_rfl
theorem schedule_eq (R : Rel m s) (W : Well s) (d : Int) (t : List Int) : Same m s (stepM tellSchedule m (c0 d t)) (outOf s (Vbptai.act s (.schedule d t))) := by
  show Same m s (if numsS _ _ = true then _ else _) (outOf s (Vbptai.num d 0 100000 >>= fun d => Vbptai.bytesIn t >>= fun b => match Vbptai.readFees b with
    | .error p => .error (-1000 - (p : Int))
    | .ok l => Vbptai.need (Vbptai.distinctNames l) (-2) >>= fun _ => Vbptai.need (decide (l.length ≤ Vbptai.FEES)) (-4) >>= fun _ => Vbptai.need (s.schedules.all fun x => x.day != d) (-6) >>= fun _ => Vbptai.need (decide (s.schedules.length < Vbptai.SCHEDULES)) (-9) >>= fun _ =>
      pure ({ s with schedules := Vbptai.putSchedule { day := d, text := b, fees := l } s.schedules }, [(l.length : Int)])))
  have hn : numsS (m.weights.length : Int) (c0 d t).told = (decide (0 ≤ d) && decide (d ≤ 100000)) := by
    show numsS (m.weights.length : Int) [("day", d)] = _
    rw [nums1, r_day]
  rw [hn, num_bind]
  refine out_if R W fun h => ?_
  have e1 := ba2 h
  rw [bytes_bind (.inl rfl)]
  show Same m s (if bytesS 0 t = true then _ else _) _
  cases hb : bytesS 0 t with
  | false => exact same_no R W (-1)
  | true =>
    rw [if_pos rfl, if_pos rfl]
    obtain ⟨hnn, hl⟩ := bytesS_nonneg (.inl rfl) hb
    show Same m s (tellSchedule m (c0 d t)) _
    unfold tellSchedule
    rw [c0_day]
    have hr := read_eq (t.map Int.toNat)
    rw [cI_toNat hnn] at hr
    show Same m s (match readM t with | .error e => _ | .ok ms => keepM m d t ms) _
    rw [hr]
    cases hf : Vbptai.readFees (t.map Int.toNat) with
    | error p => exact same_no R W _
    | ok l =>
      show Same m s (keepM m d t (l.map feeOf)) (outOf s (Vbptai.need (Vbptai.distinctNames l) (-2) >>= fun _ => Vbptai.need (decide (l.length ≤ Vbptai.FEES)) (-4) >>= fun _ => Vbptai.need (s.schedules.all fun x => x.day != d.toNat) (-6) >>= fun _ => Vbptai.need (decide (s.schedules.length < Vbptai.SCHEDULES)) (-9) >>= fun _ => _))
      rw [need_bind, need_bind, need_bind, need_bind]
      unfold keepM
      rw [twice_eq]
      cases h1 : Vbptai.distinctNames l with
      | false => exact same_no R W (-2)
      | true =>
        rw [if_neg (by decide), if_pos rfl, List.length_map]
        by_cases h2 : l.length ≤ 12
        · rw [if_neg (by omega), if_pos (decide_eq_true (by unfold Vbptai.FEES; exact h2))]
          have h3 := R.day d.toNat
          rw [toNat_cast e1.1] at h3
          rw [h3]
          cases h4 : s.schedules.all fun x => x.day != d.toNat with
          | false => exact same_no R W (-6)
          | true =>
            rw [if_pos rfl, if_neg (by decide)]
            have hlen : m.schedules.length = s.schedules.length := by rw [R.sch.length_eq, List.length_map]
            rw [hlen]
            by_cases h5 : 8 ≤ s.schedules.length
            · rw [if_pos h5, if_neg (by rw [decide_eq_false (by unfold Vbptai.SCHEDULES; omega)]; decide)]
              exact same_no R W (-9)
            · rw [if_neg h5, if_pos (decide_eq_true (by unfold Vbptai.SCHEDULES; omega))]
              have p := putSchedule_perm { day := d.toNat, text := t.map Int.toNat, fees := l } s.schedules
              refine ⟨rfl, ⟨?_, R.sml, R.lan, R.evs⟩, ⟨W.nums, W.few, ?_, ?_, W.num1⟩⟩
              · have e2 : (⟨d, t, l.map feeOf⟩ : SchM) = schM { day := d.toNat, text := t.map Int.toNat, fees := l } := by
                  unfold schM
                  rw [toNat_cast e1.1, cI_toNat hnn]
                show (m.schedules ++ [(⟨d, t, l.map feeOf⟩ : SchM)]).Perm _
                rw [e2]
                exact (snoc_perm _ _).trans ((R.sch.cons _).trans (p.map schM).symm)
              · refine (p.map (·.day)).nodup_iff.mpr ?_
                refine List.nodup_cons.mpr ⟨fun z => ?_, W.days⟩
                obtain ⟨x, hx, ex⟩ := List.mem_map.mp z
                have := List.all_eq_true.mp h4 x hx
                rw [bne_iff_ne] at this
                exact this ex
              · show (Vbptai.putSchedule _ s.schedules).length ≤ 8
                rw [p.length_eq, List.length_cons]
                omega
        · rw [if_pos (by omega), if_neg (by rw [decide_eq_false (by unfold Vbptai.FEES; exact h2)]; decide)]
          exact same_no R W (-4)
end
end FB
-- D0
set_option Elab.async false
set_option linter.all false
set_option maxRecDepth 100000
set_option maxHeartbeats 3900000
namespace FB
open PySem PySem.Spec PyProof.Rows L2 Evl
section
variable {K : PySem.W.Frag} {mg : Str → Option Value} {P : Program} {base : Heap} {w : World}
/-- what answers a call: its numbers, the record behind it -/
def spAns (K : PySem.W.Frag) (ok : RecM → CallM → Prop) (f : RecM → CallM → List Int × RecM) : Sp := fun vs H Q _ => ∃ (A : RecA) (m : RecM) (c d r : Addr) (cm : CallM), vs = [.ref A.R, .ref c] ∧ RecAt K A H m ∧ CallI K (hid A.S H) c d r cm ∧ ok m cm ∧
  ∀ p H2, H p = none → ExS A.S H H2 → H2 p = some (.lst ((f m cm).1.map V.int)) → RecAt K A H2 (f m cm).2 → Q (.ref p) H2
def stM (f : RecM → CallM → List Int × RecM) : RecM → List CallM → RecM
  | m, [] => m
  | m, c :: r => stM f (f m c).2 r
def ansM (f : RecM → CallM → List Int × RecM) : RecM → List CallM → List Int
  | _, [] => []
  | m, c :: r => (((f m c).1.length : Nat) : Int) :: ((f m c).1 ++ ansM f (f m c).2 r)
variable {f : RecM → CallM → List Int × RecM}
theorem stM_snoc : ∀ (a : List CallM) (m : RecM) (c : CallM), stM f m (a ++ [c]) = (f (stM f m a) c).2
  | [], _, _ => rfl
  | x :: a, m, c => stM_snoc a _ c
theorem ansM_snoc : ∀ (a : List CallM) (m : RecM) (c : CallM), ansM f m (a ++ [c]) = ansM f m a ++ ((((f (stM f m a) c).1.length : Nat) : Int) :: (f (stM f m a) c).1)
  | [], m, c => by
    show _ :: ((f m c).1 ++ []) = _
    rw [List.append_nil]
    rfl
  | x :: a, m, c => by
    show _ :: ((f m x).1 ++ ansM f (f m x).2 (a ++ [c])) = (_ :: ((f m x).1 ++ ansM f (f m x).2 a)) ++ _
    rw [ansM_snoc a, List.cons_append, List.append_assoc]
    rfl
theorem ansM_app : ∀ (a b : List CallM) (m : RecM), (ansM f m a).length ≤ (ansM f m (a ++ b)).length
  | [], b, m => Nat.zero_le _
  | x :: a, b, m => by
    have := ansM_app a b (f m x).2
    show (_ :: ((f m x).1 ++ ansM f (f m x).2 a)).length ≤ (_ :: ((f m x).1 ++ ansM f (f m x).2 (a ++ b))).length
    rw [List.length_cons, List.length_cons, List.length_append, List.length_append]
    omega
theorem ansM_take {m : RecM} {cs : List CallM} (i : Nat) : (ansM f m (cs.take i)).length ≤ (ansM f m cs).length := by
  have := ansM_app (f := f) (cs.take i) (cs.drop i) m
  rw [List.take_append_drop] at this
  exact this
theorem paired_atR {α β : Type} {R : α → β → Prop} : ∀ {l : List α} {xs : List β} {i : Nat} {y : β}, Paired R l xs → xs[i]? = some y → ∃ x, l[i]? = some x ∧ R x y
  | _, _, _, _, .nil, h => by cases h
  | _, _, 0, _, .cons (a := a) h t, e => ⟨a, rfl, by cases e; exact h⟩
  | _, _, i + 1, _, .cons h t, e => paired_atR (i := i) t e
theorem mem_four {b x y z u : Addr} (h : b ∈ [x, y, z, u]) : b = x ∨ b = y ∨ b = z ∨ b = u := by simpa using h
theorem upd_none {H : Hp} {a b : Addr} {o : HO} (h : upd H a o b = none) : b ≠ a ∧ H b = none := by
  by_cases c : b = a
  · rw [c, upd_same] at h
    cases h
  · rw [upd_ne c] at h
    exact ⟨c, h⟩
theorem eq_callQ {σ : L2.St} {H : Hp} {sp : Sp} {E : XK} {t : TA} {vs : List V} {Pr : V → Hp → Hp → Prop} (ht : EvA t σ H vs) (hm : ∀ v H1 H2 H3, Ex H1 H2 → Pr v H2 H3 → Pr v H1 H3) (hs : ∀ H1, Ex H H1 → ∀ Q : VK, (∀ v H2, Ex H1 H2 → Pr v H1 H2 → Q v H2) → sp vs H1 Q E) : EvQ (tCall sp [] E t) σ H Pr := fun H1 e Q q => ht H1 e _ fun H2 e2 => by
  rw [List.append_nil]
  exact hs H2 (e.trans e2) Q fun v H3 e3 hp => q v H3 (e2.trans e3) (hm v H1 H2 H3 e2 hp)
theorem q_asgC {σ : L2.St} {H : Hp} {sp : Sp} {E : XK} {t : TA} {vs : List V} {j : Nat} {tz : TS} {D : Ends} (ht : EvA t σ H vs) (h : ∀ H1, Ex H H1 → sp vs H1 (fun v H2 => tz D (σ.set j (some v)) H2) E) : tSeq (tAsg (tCall sp [] E t) (gName j)) tz D σ H := ht H (Ex.refl H) _ fun H1 e1 => by
  rw [List.append_nil]
  exact h H1 e1
theorem s_extend {σ : L2.St} {H : Hp} {ta te : TE} {l b : Addr} {xs zs : List V} {D : Ends} (hl : H l = some (.lst xs)) (hb : H b = some (.lst zs)) (ha : Ev ta σ H (.ref l)) (he : Ev te σ H (.ref b)) (hz : xs.length + zs.length ≤ sizeLine) (k : ∀ H1, Ex H H1 → D.nx σ (upd H1 l (.lst (xs ++ zs)))) : tDrop (tBM K "list" rExtend ta (tCons te tNil)) D σ H := ha H (Ex.refl H) _ fun H1 e1 =>
  ⟨Or.inl ⟨rfl, xs, sq_of (e1 l _ hl)⟩, he H1 e1 _ fun H2 e2 => ⟨l, b, xs, zs, rfl, rfl, (e1.trans e2) _ _ hl, (e1.trans e2) _ _ hb, hz, k H2 (e1.trans e2)⟩⟩
/-- the list of answers changes -/
theorem CallI.outG {H : Hp} {S : List Addr} {g c d r : Addr} {cm : CallM} (h : CallI K (hid (g :: S) H) c d r cm) : CallI K (hid S H) c d r cm := h.stay fun b o hb => by
  obtain ⟨h1, h2⟩ := hid_of hb
  rw [hid_at (fun z => h1 (List.mem_cons_of_mem _ z))]
  exact h2
theorem exS_cons {S : List Addr} {g : Addr} {H H' : Hp} (e : ExS S H H') : ExS (g :: S) H H' := fun b o hb => by
  obtain ⟨h1, h2⟩ := hid_of hb
  rw [hid_at h1]
  exact e.get (fun z => h1 (List.mem_cons_of_mem _ z)) h2
/-- all but what is locked stands -/
def ExN (H H' : Hp) : Prop := ∀ b o, H b = some o → (∀ od u, o ≠ .frz od u) → H' b = some o
theorem hid_monoN {S : List Addr} {H H' : Hp} (e : ExN H H') : ExN (hid S H) (hid S H') := fun b o h n => by
  obtain ⟨h1, h2⟩ := hid_of h
  rw [hid_at h1]
  exact e b o h2 n
theorem FeeAt.stayN {H H' : Hp} {m : FeeM} {a : Addr} (e : ExN H H') (h : FeeAt K H m a) : FeeAt K H' m a := by
  obtain ⟨dx, l, h1, h2⟩ := h
  exact ⟨dx, l, e _ _ h1 fun _ _ z => (nomatch z), e _ _ h2 fun _ _ z => nomatch z⟩
theorem EvAt.stayN {H H' : Hp} {m : EvM} {a : Addr} (e : ExN H H') (h : EvAt K H a m) : EvAt K H' a m := by
  obtain ⟨dx, l, h1, h2⟩ := h
  exact ⟨dx, l, e _ _ h1 fun _ _ z => (nomatch z), e _ _ h2 fun _ _ z => nomatch z⟩
theorem SchAt.stayN {H H' : Hp} {m : SchM} {a : Addr} (e : ExN H H') (h : SchAt K H a m) : SchAt K H' a m := by
  obtain ⟨dx, t, f, xs, h1, h2, h3, h4⟩ := h
  exact ⟨dx, t, f, xs, e _ _ h1 fun _ _ z => (nomatch z), e _ _ h2 fun _ _ z => (nomatch z), e _ _ h3 fun _ _ z => (nomatch z), Paired.mono (fun m v h => by obtain ⟨b, rfl, hb⟩ := h; exact ⟨b, rfl, hb.stayN e⟩) h4⟩
theorem RecAt.stayN {H H' : Hp} {A : RecA} {m : RecM} (e : ExN H H') (h : RecAt K A H m) : RecAt K A H' m := by
  obtain ⟨⟨lw, h1, h2⟩, ⟨k1, h3, h4⟩, h5, ⟨k2, h6, h7⟩, n1, n2, n3⟩ := h
  exact ⟨⟨lw, e _ _ h1 fun _ _ z => (nomatch z), hid_monoN e _ _ h2 fun _ _ z => nomatch z⟩, ⟨k1, e _ _ h3 fun _ _ z => (nomatch z), h4.mono fun m v h => by obtain ⟨a, rfl, h⟩ := h; exact ⟨a, rfl, h.stayN (hid_monoN e)⟩⟩, e _ _ h5 fun _ _ z => (nomatch z),
    ⟨k2, e _ _ h6 fun _ _ z => (nomatch z), h7.mono fun m v h => by obtain ⟨a, rfl, h⟩ := h; exact ⟨a, rfl, h.stayN (hid_monoN e)⟩⟩, n1, n2, n3⟩
theorem RecAt.noG {H : Hp} {A : RecA} {m : RecM} {g : Addr} {od : Obj} {u : HO} (h : RecAt K A H m) (hg : H g = some (.frz od u)) : RecAt K A (hid [g] H) m := h.stayN fun b o hb n => by
  rw [hid_at (fun z => by
    rw [List.mem_singleton.mp z, hg] at hb
    exact n _ _ (Option.some.inj hb).symm)]
  exact hb
/-- answer = f(..) while the list at g is locked -/
theorem q_lockC {σ : L2.St} {H : Hp} {sp : Sp} {E : XK} {t : TA} {vs : List V} {j : Nat} {tz : TS} {D : Ends} {g : Addr} {out : List V} (hg : H g = some (.lst out)) (ht : ∀ HL, EvA t σ HL vs) (h : ∀ od H1, Ex (upd H g (.frz od (.lst out))) H1 → sp vs H1 (fun v H2 => H2 g = some (.frz od (.lst out)) ∧ tz D (σ.set j (some v)) (upd H2 g (.lst out))) E) :
    tSeq (tLock (tAsg (tCall sp [] E t) (gName j))) tz D σ H := ⟨g, .lst out, hg, trivial, fun od => ht _ _ (Ex.refl _) _ fun H1 e1 => by
  rw [List.append_nil]
  exact h od H1 e1⟩
/-- for x in e, e a new list whose items are told by a relation -/
theorem q_forRel {σ : L2.St} {H : Hp} {tl : TE} {tu tz : TS} {D : Ends} {j : Nat} {Pr : Addr → List V → Hp → Hp → Prop} (h : EvQ tl σ H (fun v H1 H2 => ∃ p xs, v = .ref p ∧ H2 p = some (.lst xs) ∧ Pr p xs H1 H2)) (Pv : Addr → List V → Nat → L2.St → Hp → Prop) (h0 : ∀ p xs H1, Ex H H1 → H1 p = some (.lst xs) → Pr p xs H H1 → Pv p xs 0 σ H1)
    (hl : ∀ p xs i σ' H', i ≤ xs.length → Pv p xs i σ' H' → SqL K H' p xs) (hs : ∀ p xs i x σ' H', xs[i]? = some x → Pv p xs i σ' H' → tu { D with nx := Pv p xs (i + 1), ct := Pv p xs (i + 1), bk := tz D } (σ'.set j (some x)) H') (hd : ∀ p xs σ' H', Pv p xs xs.length σ' H' → tz D σ' H') : tSeq (tFor (iList K tl) (gName j) tu) tz D σ H :=
  h H (Ex.refl H) _ fun v H1 e1 hv => by
    obtain ⟨p, xs, rfl, h1, hp⟩ := hv
    exact ⟨p, rfl, ⟨xs, sq_of h1⟩, for_list (D := { D with nx := tz D }) (Pv p xs) (h0 p xs H1 e1 h1 hp) (hl p xs) (hs p xs) (hd p xs)⟩
end
end FB
-- KS1
set_option Elab.async false
set_option linter.all false
set_option maxRecDepth 100000
set_option maxHeartbeats 3900000
namespace FB
open PySem PySem.Spec PyProof.Rows L2 Evl
/-! ### sorting by keys that are tuples of whole numbers -/
def lexI (a b : List Int) : Bool := lexLt itemOrd (a.map Sum.inl) (b.map Sum.inl)
theorem lexI_cons (x y : Int) (r t : List Int) : lexI (x :: r) (y :: t) = if x = y then lexI r t else decide (x < y) := by
  unfold lexI
  by_cases h : x = y
  · rw [if_pos h, h, List.map_cons, List.map_cons, lex_self]
  · rw [if_neg h, List.map_cons, List.map_cons, lex_diff (fun z => h (Sum.inl.inj z))]
    rfl
theorem lexI_nil : lexI [] [] = false := lex_irrefl []
theorem lexI_asym {a b : List Int} (h : lexI a b = true) : lexI b a = false := by
  cases q : lexI b a with
  | false => rfl
  | true =>
    have z := lex_trans _ _ _ h q
    rw [lex_irrefl] at z
    cases z
theorem lexI_neg {a b c : List Int} (h1 : lexI b a = false) (h2 : lexI c b = false) : lexI c a = false := by
  cases q : lexI c a with
  | false => rfl
  | true =>
    rcases lex_negTrans _ (b.map Sum.inl) _ q with z | z
    · rw [show lexI c b = true from z] at h2
      cases h2
    · rw [show lexI b a = true from z] at h1
      cases h1
theorem items_inl : ∀ {us : List Value} {ns : List Int} (i : Nat), IntsAre us ns → tupItems (fun _ => false) i us = some (ns.map Sum.inl)
  | _, _, _, .nil => rfl
  | _, _, i, .cons n t h => by
    have e := items_inl (i + 1) h
    show (tupItems (fun _ => false) (i + 1) _).map (Sum.inl n :: ·) = _
    rw [e]
    rfl
/-- the value is a tuple of these whole numbers -/
def KeyIs (h : Heap) (v : Value) (ns : List Int) : Prop := ∃ a o its n, v = .ref a ∧ h.get? a = some o ∧ o.cls = .type "tuple" ∧ o.data = .seq its n ∧ IntsAre its.toList ns
theorem KeyIs.one {h : Heap} {v : Value} {ns ms : List Int} (x : KeyIs h v ns) (y : KeyIs h v ms) : ns = ms := by
  obtain ⟨a, o, its, n, rfl, h1, _, h2, h3⟩ := x
  obtain ⟨a', o', its', n', e, g1, _, g2, g3⟩ := y
  cases e
  rw [h1] at g1
  cases g1
  rw [h2] at g2
  cases g2
  rw [← h3.nums, ← g3.nums]
section
variable {prog : Program}
variable {w : World} {A : Around} {E : Value → Shared → Prop} {s : Shared}
theorem key_lt {v u : Value} {ns ms : List Int} {Q : Bool → Shared → Prop} (hv : KeyIs s.heap v ns) (hu : KeyIs s.heap u ms) (h : Q (lexI ns ms) s) : wpAny (model prog w) A (keyLt' (tuples' true) v u) Q E s := by
  obtain ⟨a, o, its, n, rfl, h1, _, h2, h3⟩ := hv
  obtain ⟨a', o', its', n', rfl, g1, _, g2, g3⟩ := hu
  refine PySem.W.kat_lt h1 h2 g1 g2 (tup_lex (shape := fun _ => false) its.toList its'.toList 0 _ _ (items_inl 0 h3) (items_inl 0 g3) ?_ h)
  rw [Array.length_toList, Array.length_toList]
theorem key_firsts : ∀ {vs : List Value}, (∀ v ∈ vs, ∃ ns, KeyIs s.heap v ns ∧ ns ≠ []) → ∃ fs, fs.length = vs.length ∧ TupsOf s.heap (fun _ => false) vs fs
  | [], _ => ⟨[], rfl, .nil⟩
  | v :: vs, h => by
    obtain ⟨fs, e, t⟩ := key_firsts fun u hu => h u (List.mem_cons_of_mem _ hu)
    obtain ⟨ns, ⟨a, o, its, n, rfl, h1, h2, h3, h4⟩, hn⟩ := h v (List.mem_cons_self ..)
    obtain ⟨l⟩ := its
    cases h4 with
    | nil => exact absurd rfl hn
    | @cons k t' us ms hr => exact ⟨.int k t' :: fs, congrArg Nat.succ e, .cons ⟨a, o, _, n, rfl, h1, h2, h3, rfl, fun _ => ⟨k, t', rfl⟩, fun z => nomatch z⟩ t⟩
theorem key_kind {vs : List Value} {Q : SortKind → Shared → Prop} (h0 : vs ≠ []) (hk : ∀ v ∈ vs, ∃ ns, KeyIs s.heap v ns ∧ ns ≠ []) (h : Q (tuples' true) s) : wpAny (model prog w) A (keyKind' vs.toArray) Q E s := by
  obtain ⟨fs, e, t⟩ := key_firsts hk
  exact tup_kind (by rw [e]; exact List.length_pos_iff.mpr h0) t h
end
end FB
-- KS2
set_option Elab.async false
set_option linter.all false
set_option maxRecDepth 100000
set_option maxHeartbeats 3900000
namespace FB
open PySem PySem.Spec PyProof.Rows L2 Evl
section
variable {X : Cx} {pins : List (Addr × Obj)}
variable {σ : L2.St} {H : Hp} {s : Shared}
/-- what a pinned place keeps to, whatever the heap -/
structure Fix (X : Cx) (pins : List (Addr × Obj)) (b : Addr) : Prop where
  loc : b ≠ X.env.locals
  fs : b ∉ X.fs
  young : b ∈ X.ex ∨ X.s_0.heap.objs.size ≤ b
  cel : ∀ x c, X.env.cells.lookup x = some c → c ≠ b
  oth : ∀ p ∈ X.pn ++ pins, p.1 ≠ b
theorem fix_new (J : Inv X pins σ H s) {b : Addr} (hb : s.heap.objs.size ≤ b) : Fix X pins b := by
  obtain ⟨_, h1, h2, h3, h4, h5⟩ := J.fpOk (H' := H) hb (J.hok.fresh hb)
  exact ⟨h1, h2, h3, h4, h5⟩
/-- two places are pinned -/
abbrev two (a k : Addr) (oa ok : Obj) : List (Addr × Obj) := [(a, oa), (k, ok)]
theorem pin_two {a k : Addr} {oa ok : Obj} (J : Inv X pins σ H s) (fa : Fix X pins a) (fk : Fix X pins k) (ha : s.heap.get? a = some oa) (hk : s.heap.get? k = some ok) (na : H a = none) (nk : H k = none) (da : ∀ v, oa.data ≠ .cell v) (dk : ∀ v, ok.data ≠ .cell v) :
    Inv X (pins ++ two a k oa ok) σ H s := J.pins_of fun p hp => by
  rcases List.mem_append.mp hp with old | new
  · exact J.pin p (List.mem_append_right _ old)
  · rcases List.mem_cons.mp new with rfl | new
    · exact ⟨ha, na, fa.loc, fa.fs, da⟩
    · rw [List.mem_singleton.mp new]
      exact ⟨hk, nk, fk.loc, fk.fs, dk⟩
theorem at_a {a k : Addr} {oa ok : Obj} (J : Inv X (pins ++ two a k oa ok) σ H s) : s.heap.get? a = some oa ∧ H a = none := by
  have := J.pin (a, oa) (by simp)
  exact ⟨this.1, this.2.1⟩
theorem at_k {a k : Addr} {oa ok : Obj} (J : Inv X (pins ++ two a k oa ok) σ H s) : s.heap.get? k = some ok ∧ H k = none := by
  have := J.pin (k, ok) (by simp)
  exact ⟨this.1, this.2.1⟩
theorem drop_two {a k : Addr} {oa ok : Obj} (J : Inv X (pins ++ two a k oa ok) σ H s) : Inv X pins σ H s := J.unpinned
/-- a place that is looked after alone is written -/
theorem fix_write {b : Addr} {h' : Heap} {t' : Nat} (J : Inv X pins σ H s) (f : Fix X pins b) (n : H b = none) (k : ∀ c o, c ≠ b → s.heap.get? c = some o → h'.get? c = some o) : Inv X pins σ H { s with heap := h', toks := t' } :=
  J.turned k n f.loc f.young f.cel f.oth
/-- what f gives of x: a new tuple of whole numbers -/
def KeyCall (X : Cx) (A : Around) (pz : List (Addr × Obj)) (f : Value) (σ : L2.St) (H : Hp) (x : V) (ns : List Int) : Prop :=
  ∀ (pins : List (Addr × Obj)) (s : Shared) (H1 : Hp) (u : Value) (Q : VK), (∀ p ∈ pz, p ∈ pins) → Inv X pins σ H1 s → Ex H H1 → RelV x u → (∀ t H2, Ex H1 H2 → H2 t = some (.tup (ns.map V.int)) → Q (.ref t) H2) → wpAny (model X.prog X.w) A (call f [u]) (EP X pins σ Q) (fun _ _ => False) s
/-- the keys' list so far -/
abbrev KeysAt (H : Hp) (key : V → List Int) (xs : List V) (ks : List Value) : Prop := Paired (fun x k => ∃ t, k = Value.ref t ∧ H t = some (.tup ((key x).map V.int))) xs ks
theorem KeysAt.stay {H' : Hp} {key : V → List Int} {xs : List V} {ks : List Value} (e : Ex H H') (h : KeysAt H key xs ks) : KeysAt H' key xs ks := Paired.mono (fun x k y => by
  obtain ⟨t, rfl, ht⟩ := y
  exact ⟨t, rfl, e _ _ ht⟩) h
theorem vals_at : ∀ {xs : List V} {us : List Value} {i : Nat} {u : Value}, Vals xs us → us[i]? = some u → ∃ x, xs[i]? = some x ∧ RelV x u
  | _, _, _, _, .nil, h => by cases h
  | _, _, 0, _, .cons (a := v) r t, h => ⟨v, rfl, by cases h; exact r⟩
  | _, _, i + 1, _, .cons r t, h => vals_at (i := i) t h
/-- the loop over the items -/
theorem keys_run {A : Around} {pz : List (Addr × Obj)} {f : Value} {key : V → List Int} {xs : List V} {us : List Value} {a k : Addr} {oa : Obj} {e1 : Nat} {R : PySem.Fin → Shared → Prop} {EE : Value → Shared → Prop}
    (J : Inv X (pins ++ two a k oa (seqObj "list" #[] 0)) σ H s) (fk : Fix X pins k) (hak : a ≠ k) (rv : Vals xs us) (hz : us.length ≤ sizeLine) (hpz : ∀ p ∈ pz, p ∈ pins) (hc : ∀ x ∈ xs, KeyCall X A pz f σ H x (key x))
    (h : ∀ (ks : List Value) (e : Nat) (H2 : Hp) (s2 : Shared), Inv X (pins ++ two a k oa (seqObj "list" ks.toArray e)) σ H2 s2 → Ex H H2 → KeysAt H2 key xs ks → wpAny (model X.prog X.w) A (ksk_end a false us.toArray e1 (.ref k) ks.toArray) R EE s2) :
    wpAny (model X.prog X.w) A (ksk_rest a f false us.toArray e1 (.ref k)) R EE s := by
  unfold ksk_rest
  refine (wpAny_bind (wpAny_rule ?_))
  rw [List.forIn_toArray]
  refine wpAny_bind (ksk_fold (fun i s2 => ∃ (ks : List Value) (e : Nat) (H2 : Hp), Inv X (pins ++ two a k oa (seqObj "list" ks.toArray e)) σ H2 s2 ∧ Ex H H2 ∧ KeysAt H2 key (xs.take i) ks) us 0 s ⟨[], 0, H, J, Ex.refl H, .nil⟩ (fun j u s2 hu hj => ?_) fun s2 hj => ?_)
  · rw [Nat.zero_add] at hj ⊢
    obtain ⟨ks, e, H2, J2, e2, hk⟩ := hj
    obtain ⟨x, hx, rx⟩ := vals_at rv hu
    have hlen : ks.length = j := by
      have q := hk.length
      rw [List.length_take, rv.length, Nat.min_eq_left (Nat.le_of_lt (List.getElem?_eq_some_iff.mp hu).1)] at q
      exact q.symm
    have hju : j < us.length := (List.getElem?_eq_some_iff.mp hu).1
    refine wpAny_bind (wpAny_attempt (wpAny_mono (hc x (List.mem_of_getElem? hx) _ s2 H2 u (fun v H3 => Ex H2 H3 ∧ ∃ t, v = .ref t ∧ H3 t = some (.tup ((key x).map V.int))) (fun p hp => List.mem_append_left _ (hpz p hp)) J2 e2 rx fun t H3 e3 ht => ⟨e3, t, rfl, ht⟩) (fun v s3 hv => ?_) fun _ _ z => z.elim))
    obtain ⟨v', H3, J3, rv3, e3, t, rfl, ht⟩ := hv
    obtain rfl : v = Value.ref t := rv3
    obtain ⟨g1, g2⟩ := at_k J3
    obtain ⟨g3, g4⟩ := at_a J3
    dsimp only
    refine wpAny_bind (listUpdate_at g1 rfl ?_ (by rw [List.size_toArray]; omega) (by rw [Array.size_push, List.size_toArray]; omega))
    have ep : (ks.toArray.push (Value.ref t)) = (ks ++ [Value.ref t]).toArray := by simp
    obtain ⟨c2, hc2⟩ : ∃ c2, (s3.heap.update k (Obj.mapSeq fun l => l.push (Value.ref t))).get? k = some (seqObj "list" (ks ++ [Value.ref t]).toArray c2) := by
      rw [← ep]
      exact ⟨_, get?_update_seq g1 fun l => l.push (Value.ref t)⟩
    have oth : ∀ c o, c ≠ k → s3.heap.get? c = some o → (s3.heap.update k (Obj.mapSeq fun l => l.push (Value.ref t))).get? c = some o := fun c o hn q => (Heap.get?_update_ne _ _ _ _ hn).trans q
    have J4 : Inv X (pins ++ two a k oa (seqObj "list" (ks ++ [Value.ref t]).toArray c2)) σ H3 { s3 with heap := s3.heap.update k (Obj.mapSeq fun l => l.push (Value.ref t)) } :=
      (fix_write (t' := s3.toks) (drop_two J3) fk g2 oth).pins_of fun p hp => by
        rcases List.mem_append.mp hp with old | new
        · have q := J3.pin p (List.mem_append_right _ (List.mem_append_left _ old))
          exact ⟨oth _ _ (fk.oth p (List.mem_append_right _ old)) q.1, q.2⟩
        · rcases List.mem_cons.mp new with rfl | new
          · have q := J3.pin (a, oa) (by simp)
            exact ⟨oth _ _ hak q.1, q.2⟩
          · rw [List.mem_singleton.mp new]
            exact ⟨hc2, g2, fk.loc, fk.fs, fun v z => nomatch z⟩
    refine wpAny_pure ⟨rfl, ks ++ [Value.ref t], c2, H3, J4, e2.trans e3, ?_⟩
    rw [take_one hx]
    exact Paired.snoc (hk.stay e3) ⟨t, rfl, ht⟩
  · rw [Nat.zero_add] at hj
    obtain ⟨ks, e, H2, J2, e2, hk⟩ := hj
    rw [← rv.length, List.take_length] at hk
    exact wpAny_bind (listItems_at (at_k J2).1 rfl (h ks e H2 s2 J2 e2 hk))
end
end FB
-- KS3
set_option Elab.async false
set_option linter.all false
set_option maxRecDepth 100000
set_option maxHeartbeats 3900000
namespace FB
open PySem PySem.Spec PyProof.Rows L2 Evl
section
variable {X : Cx} {pins : List (Addr × Obj)}
variable {σ : L2.St} {H : Hp} {s : Shared}
/-- a place that was looked after alone is known from now on as a list -/
theorem fix_track {a k : Addr} {ys : List V} {its : List Value} {t' : Nat} {h' : Heap} (J : Inv X pins σ H s) (fa : Fix X pins a) (fk : Fix X pins k) (na : H a = none) (nk : H k = none) (oth : ∀ c o, c ≠ a → c ≠ k → s.heap.get? c = some o → h'.get? c = some o) (ia : ∃ o, s.heap.get? a = some o) (ik : ∃ o, h'.get? k = some o)
    (hv : Vals ys its) (hz : ys.length ≤ sizeLine) (ha : ∃ n, h'.get? a = some (seqObj "list" its.toArray n)) : Inv X pins σ (upd H a (.lst ys)) { s with heap := h', toks := t' } := by
  have inch : ∀ {b : Addr}, b ∉ [a, k] → b ≠ a ∧ b ≠ k := fun {b} h => ⟨fun z => h (by rw [z]; exact List.mem_cons_self ..), fun z => h (by rw [z]; simp)⟩
  refine J.step (g' := s.gens) (d' := s.drawn) (ch := [a, k]) (fun b hb => ?_) (fun b o _ _ hc q _ => oth b o (inch hc).1 (inch hc).2 q) (fun b o _ _ hc q _ => ⟨o.slots, oth b o (inch hc).1 (inch hc).2 q⟩) (fun b o hc q nb => by rw [upd_ne (inch hc).1]; exact nb) (fun b o hc q => ⟨o, oth b o (inch hc).1 (inch hc).2 q⟩)
    (fun b xs q => ?_) (fun b o u q => ?_) (fun b ps q => ⟨#[], ?_⟩) (fun m hm => ?_) (fun b u q => ?_) J.bare
  · obtain rfl | hb := List.mem_cons.mp hb
    · exact ⟨fa.young, fa.loc, fa.cel, fa.oth⟩
    · (rw [List.mem_singleton.mp hb])
      exact ⟨fk.young, fk.loc, fk.cel, fk.oth⟩
  · rw [upd_ne (ne_of_none q na)]
    exact q
  · rw [upd_ne (ne_of_none q na)]
    exact q
  · rw [upd_ne (ne_of_none q na), q]
    simp
  · rcases hm with ⟨o, es, ep, ho, r⟩
    exact ⟨o, es, ep, oth _ _ (Ne.symm fa.loc) (Ne.symm fk.loc) ho, r⟩
  · by_cases c : b = a
    · subst c
      rw [upd_same] at q
      cases q
      obtain ⟨n, ha⟩ := ha
      exact ⟨hz, its, n, hv, ha⟩
    · rw [upd_ne c] at q
      refine (J.hok b u q).stay (fun d v hd qd => oth d v ?_ ?_ qd) (fun d qd => ?_) fun d xs qd => ?_
      · rcases hd with z | z
        · rw [z]
          exact c
        · exact ne_of_none z na
      · rcases hd with z | z
        · rw [z]
          exact ne_of_none q nk
        · exact ne_of_none z nk
      · rw [upd_ne (ne_of_none qd na)]
        exact qd
      · rw [upd_ne (ne_of_none qd na)]
        exact qd
/-- a value back as the layer's -/
theorem back_of {x : V} {u : Value} (r : RelV x u) (h : (∃ a, x = V.ref a) ∨ ∃ i, x = V.int i) : toV u = x := by
  rcases h with ⟨a, rfl⟩ | ⟨i, rfl⟩
  · obtain rfl : u = Value.ref a := r
    rfl
  · obtain ⟨t, rfl⟩ := r
    rfl
theorem pairs_of {H : Hp} {h : Heap} {key : V → List Int} {P : Program} {w : World} (hok : HOk P w H h) : ∀ {xs : List V} {ks us : List Value}, KeysAt H key xs ks → Vals xs us → (∀ x ∈ xs, (∃ a, x = V.ref a) ∨ ∃ i, x = V.int i) → ∀ p ∈ ks.zip us, KeyIs h p.1 (key (toV p.2)) ∧ toV p.2 ∈ xs ∧ RelV (toV p.2) p.2
  | _, _, _, .nil, .nil, _, p, hp => nomatch hp
  | _, _, _, .cons (a := x) (b := k) ⟨t, e, ht⟩ hk, .cons (b := u) r hv, hx, p, hp => by
    rcases List.mem_cons.mp hp with rfl | later
    · have eb := back_of r (hx x (List.mem_cons_self ..))
      obtain ⟨_, its, rv, o, ho, hc, n, hd⟩ := hok t _ ht
      show KeyIs h k (key (toV u)) ∧ toV u ∈ _ ∧ RelV (toV u) u
      rw [eb]
      exact ⟨⟨t, o, its.toArray, n, e, ho, hc, hd, rv.ints⟩, List.mem_cons_self .., r⟩
    · obtain ⟨h1, h2, h3⟩ := pairs_of hok hk hv (fun y hy => hx y (List.mem_cons_of_mem _ hy)) p later
      exact ⟨h1, List.mem_cons_of_mem _ h2, h3⟩
theorem backs_of : ∀ {xs : List V} {us : List Value}, Vals xs us → (∀ x ∈ xs, (∃ a, x = V.ref a) ∨ ∃ i, x = V.int i) → us.map toV = xs
  | _, _, .nil, _ => rfl
  | _, _, .cons r t, h => by rw [List.map_cons, back_of r (h _ (List.mem_cons_self ..)), backs_of t fun y hy => h y (List.mem_cons_of_mem _ hy)]
theorem vals_backs : ∀ {us : List Value}, (∀ u ∈ us, RelV (toV u) u) → Vals (us.map toV) us
  | [], _ => .nil
  | u :: us, h => .cons (h u (List.mem_cons_self ..)) (vals_backs fun v hv => h v (List.mem_cons_of_mem _ hv))
/-- in the order of the keys -/
abbrev InKeys (key : V → List Int) (ys : List V) : Prop := ys.Pairwise fun x y => lexI (key y) (key x) = false
/-- the sort itself, and what lies behind it -/
theorem end_run {A : Around} {key : V → List Int} {xs : List V} {us ks : List Value} {a k : Addr} {e e1 : Nat} {R : PySem.Fin → Shared → Prop} {EE : Value → Shared → Prop}
    (J : Inv X (pins ++ two a k (seqObj "list" #[] e1) (seqObj "list" ks.toArray e)) σ H s) (fa : Fix X pins a) (fk : Fix X pins k) (hak : a ≠ k) (rv : Vals xs us) (hz : us.length ≤ sizeLine) (hx : ∀ x ∈ xs, (∃ a, x = V.ref a) ∨ ∃ i, x = V.int i) (hne : ∀ x ∈ xs, key x ≠ []) (hk : KeysAt H key xs ks)
    (h : ∀ (ys : List V) (s2 : Shared), ys.Perm xs → InKeys key ys → Inv X pins σ (upd H a (.lst ys)) s2 → R (.done (.ret .none)) s2) :
    wpAny (model X.prog X.w) A (ksk_end a false us.toArray e1 (.ref k) ks.toArray) R EE s := by
  have hp := pairs_of J.hok hk rv hx
  have hlen : ks.length = us.length := by rw [← hk.length, rv.length]
  obtain ⟨g1, g2⟩ := at_k J
  obtain ⟨g3, g4⟩ := at_a J
  have zl : (ks.toArray.zip us.toArray).toList = ks.zip us := by simp
  -- what stands behind the sort
  have fin : ∀ st : SortSt, (arrOf st).toList.Perm (ks.zip us) → (arrOf st).toList.Pairwise (fun p q => lexI (key (toV q.2)) (key (toV p.2)) = false) → failedOf st = none → wpAny (model X.prog X.w) A (ksk_tail a false e1 (.ref k) st) R EE s := by
    intro st hpm hsr hf
    have lo : (arrOf st).size = us.length := by
      rw [← Array.length_toList, hpm.length_eq, List.length_zip, hlen, Nat.min_self]
    have hout : ((arrOf st).map (·.2)).toList = (arrOf st).toList.map (·.2) := Array.toList_map ..
    unfold ksk_tail
    dsimp only
    refine wpAny_bind (listUpdate_at g1 rfl ?_ (by rw [List.size_toArray, hlen]; exact hz) (Nat.zero_le _))
    have ga1 : (s.heap.update k (Obj.mapSeq fun _ => (#[] : Array Value))).get? a = some (seqObj "list" #[] e1) := (Heap.get?_update_ne _ _ _ _ hak).trans g3
    refine (wpAny_bind (wpAny_letGo ?_))
    refine wpAny_bind (seqEpoch_at ga1 rfl ?_)
    refine wpAny_bind (listUpdate_at ga1 rfl ?_ (Nat.zero_le _) (by rw [if_neg (by decide), Array.size_map, lo]; omega))
    rw [hf]
    (simp only [bne_self_eq_false, Bool.false_eq_true, if_false])
    have kk : ∃ o, (s.heap.update k (Obj.mapSeq fun _ => (#[] : Array Value))).get? k = some o := ⟨_, get?_update_seq g1 fun _ => #[]⟩
    have rel : ∀ u ∈ (arrOf st).toList.map (·.2), RelV (toV u) u := fun u hu => by
      obtain ⟨p, hp1, rfl⟩ := List.mem_map.mp hu
      exact (hp p (hpm.mem_iff.mp hp1)).2.2
    refine wpAny_pure (h (((arrOf st).toList.map (·.2)).map toV) _ ?_ ?_ (fix_track (its := (arrOf st).toList.map (·.2)) (k := k) (t' := s.toks) (drop_two J) fa fk g4 g2 (fun c o ca ck q => (Heap.get?_update_ne _ _ _ _ ca).trans ((Heap.get?_update_ne _ _ _ _ ck).trans q)) ⟨_, g3⟩ ?_ (vals_backs rel) ?_ ?_))
    · have q := (hpm.map (·.2)).map toV
      rw [List.map_snd_zip (by omega), backs_of rv hx] at q
      exact q
    · rw [List.map_map]
      exact List.pairwise_map.mpr hsr
    · obtain ⟨o, ho⟩ := kk
      exact ⟨o, (Heap.get?_update_ne _ _ _ _ (Ne.symm hak)).trans ho⟩
    · rw [List.length_map, List.length_map, Array.length_toList, lo]
      exact hz
    · have q := get?_update_seq ga1 fun _ => (arrOf st).map (·.2)
      have ea : ((arrOf st).toList.map (·.2)).toArray = (arrOf st).map (·.2) := by rw [← hout, Array.toArray_toList]
      rw [ea]
      exact ⟨_, q⟩
  unfold ksk_end
  dsimp only
  rw [if_neg (by decide)]
  by_cases few : us.toArray.size < 2
  · rw [if_pos few, if_pos few]
    refine (wpAny_bind (wpAny_pure ?_))
    rw [StateT.run_pure]
    refine (wpAny_bind (wpAny_pure ?_))
    refine fin (SortSt.mk' general' (ks.toArray.zip us.toArray) #[] 7 none) ?_ ?_ rfl
    · show (ks.toArray.zip us.toArray).toList.Perm _
      rw [zl]
    · show (ks.toArray.zip us.toArray).toList.Pairwise _
      rw [zl]
      rw [List.size_toArray] at few
      match ks, us, hlen, few with
      | [], [], _, _ => exact List.Pairwise.nil
      | [_], [_], _, _ => exact List.pairwise_singleton _ _
      | _ :: _ :: _, _ :: _ :: _, _, f => exact absurd f (by rw [List.length_cons, List.length_cons]; omega)
  · rw [if_neg few, if_neg few]
    rw [List.size_toArray] at few
    have keys1 : ∀ v ∈ ks, ∃ ns, KeyIs s.heap v ns ∧ ns ≠ [] := fun v hv => by
      obtain ⟨i, hi, ei⟩ := List.mem_iff_getElem.mp hv
      have q := hp (ks[i], us[i]'(by omega)) (List.mem_iff_getElem.mpr ⟨i, by rw [List.length_zip]; omega, by simp⟩)
      rw [ei] at q
      exact ⟨_, q.1, hne _ q.2.1⟩
    refine wpAny_bind (key_kind (vs := ks) (fun z => by rw [z] at hlen; simp at hlen; omega) keys1 ?_)
    have swo : SrtO.Swo (fun p q : Keyed => lexI (key (toV p.2)) (key (toV q.2))) := ⟨fun p q z => lexI_asym z, fun p q r z1 z2 => lexI_neg z1 z2⟩
    refine wpAny_bind (wpAny_mono (SrtO.wpS_sortO (P := fun p => p ∈ ks.zip us) (st0 := SortSt.mk' (tuples' true) (ks.toArray.zip us.toArray) #[] 7 none)
      (Q := fun _ st => (arrOf st).toList.Perm (ks.zip us) ∧ (arrOf st).toList.Pairwise (fun p q : Keyed => lexI (key (toV q.2)) (key (toV p.2)) = false) ∧ failedOf st = none) swo (fun p q h1 h2 => ?_) rfl (fun p z => ?_) rfl rfl fun st a1 a2 a3 => ⟨?_, a1, a3⟩) (fun r s3 z => ?_) fun _ _ z => z)
    · exact key_lt (hp p h1).1 (hp q h2).1 ⟨rfl, rfl⟩
    · have z2 : p ∈ (ks.toArray.zip us.toArray).toList := z
      rw [zl] at z2
      exact z2
    · have q : (arrOf st).toList.Perm (ks.toArray.zip us.toArray).toList := a2.perm
      rw [zl] at q
      exact q
    · obtain ⟨⟨⟩, st⟩ := r
      obtain ⟨rfl, z1, z2, z3⟩ := z
      exact fin st z1 z2 z3
end
end FB
-- KS4
set_option Elab.async false
set_option linter.all false
set_option maxRecDepth 100000
set_option maxHeartbeats 3900000
namespace FB
open PySem PySem.Spec PyProof.Rows L2 Evl
section
variable {X : Cx} {pins : List (Addr × Obj)}
variable {σ : L2.St} {H : Hp} {s : Shared}
theorem tree_run {A : Around} {pz : List (Addr × Obj)} {q : Addr} {key : V → List Int} {xs : List V} {us : List Value} {a : Addr} {n : Nat} {R : PySem.Fin → Shared → Prop} {EE : Value → Shared → Prop}
    (J : Inv X pins σ H s) (fa : Fix X pins a) (na : H a = none) (ga : s.heap.get? a = some (seqObj "list" us.toArray n)) (rv : Vals xs us) (hz : us.length ≤ sizeLine) (hx : ∀ x ∈ xs, (∃ a, x = V.ref a) ∨ ∃ i, x = V.int i) (hne : ∀ x ∈ xs, key x ≠ [])
    (hpz : ∀ p ∈ pz, p ∈ pins) (hc : ∀ x ∈ xs, KeyCall X A pz (.ref q) σ H x (key x)) (h : ∀ (ys : List V) (H2 : Hp) (s2 : Shared), Ex H H2 → H2 a = none → ys.Perm xs → InKeys key ys → Inv X pins σ (upd H2 a (.lst ys)) s2 → R (.done (.ret .none)) s2) :
    wpAny (model X.prog X.w) A (ksk_tree a (.ref q) false) R EE s := by
  unfold ksk_tree
  refine wpAny_bind (listItems_at ga rfl ?_)
  refine wpAny_bind (listUpdate_at ga rfl ?_ (by rw [List.size_toArray]; exact hz) (Nat.zero_le _))
  have gb := get?_update_seq ga fun _ => (#[] : Array Value)
  refine wpAny_bind (seqEpoch_at gb rfl ?_)
  refine wpAny_bind (wpAny_newTuple ?_ hz)
  refine (wpAny_bind (wpAny_newList ?_ (Nat.zero_le _)))
  refine wpAny_holding ?_
  have J1 : Inv X pins σ H { s with heap := s.heap.update a (Obj.mapSeq fun _ => (#[] : Array Value)) } := fix_write (t' := s.toks) J fa na fun c o cn e => (Heap.get?_update_ne _ _ _ _ cn).trans e
  have J2 : Inv X pins σ H { s with heap := (s.heap.update a (Obj.mapSeq fun _ => (#[] : Array Value))).push (seqObj "tuple" us.toArray 0) } := J1.kept (t' := s.toks) fun b o e => Heap.get?_push_of_some _ e
  have fk : Fix X pins ((s.heap.update a (Obj.mapSeq fun _ => (#[] : Array Value))).push (seqObj "tuple" us.toArray 0)).objs.size := fix_new J2 (Nat.le_refl _)
  have nk := J2.hok.fresh (Nat.le_refl _)
  have g2 : ((s.heap.update a (Obj.mapSeq fun _ => (#[] : Array Value))).push (seqObj "tuple" us.toArray 0)).get? a = _ := Heap.get?_push_of_some _ gb
  have hak : a ≠ ((s.heap.update a (Obj.mapSeq fun _ => (#[] : Array Value))).push (seqObj "tuple" us.toArray 0)).objs.size := Nat.ne_of_lt (Heap.lt_size g2)
  have J3 : Inv X pins σ H { s with heap := ((s.heap.update a (Obj.mapSeq fun _ => (#[] : Array Value))).push (seqObj "tuple" us.toArray 0)).push (seqObj "list" #[] 0) } := J2.kept (t' := s.toks) fun b o e => Heap.get?_push_of_some _ e
  refine keys_run (pin_two J3 fa fk (Heap.get?_push_of_some _ g2) (Heap.get?_push_size _ rfl) na nk (fun v z => nomatch z) fun v z => nomatch z) fk hak rv hz hpz hc fun ks e H2 s2 J4 e2 hk => ?_
  exact end_run J4 fa fk hak rv hz hx hne hk fun ys s3 hp ho J5 => h ys H2 s3 e2 (at_a J4).2 hp ho J5
/-- sorted(it, key=q), whatever is walked -/
theorem sorted_keyed {pz : List (Addr × Obj)} {it : Value} {q : Addr} {key : V → List Int} {xs : List V} {Q : VK} (hcol : ∀ (R : List Value → Shared → Prop), (∀ us s1, Vals xs us → Inv X pins σ H s1 → R us s1) → wpAny (model X.prog X.w) X.A.in1 (collect it) R X.xe s)
    (hz : xs.length ≤ sizeLine) (hx : ∀ x ∈ xs, (∃ a, x = V.ref a) ∨ ∃ i, x = V.int i) (hne : ∀ x ∈ xs, key x ≠ []) (hpz : ∀ p ∈ pz, p ∈ pins) (hc : ∀ x ∈ xs, KeyCall X X.A.in1.in1 pz (.ref q) σ H x (key x))
    (hq : ∀ ys p H2, H p = none → Ex H H2 → H2 p = some (.lst ys) → ys.Perm xs → InKeys key ys → Q (.ref p) H2) : wpAny (model X.prog X.w) X.A (call (.builtin "sorted") [it] [(Str.ofString "key", .ref q)]) (EP X pins σ Q) X.xe s := by
  refine call_function_entry_kw kind_sorted plain_sorted entry_sorted (ksk_s1 _ _) ?_
  unfold Builtin.«sorted»
  refine (wpAny_bind (m := checkCount "sorted" 1 1 _) (wpAny_pure ?_))
  refine wpAny_bind (hcol _ fun us s1 rv J => ?_)
  have hl : us.length ≤ sizeLine := by rw [← rv.length]; exact hz
  refine wpAny_bind (wpAny_newList ?_ hl)
  have ga : (s1.heap.push (seqObj "list" us.toArray 0)).get? s1.heap.objs.size = some (seqObj "list" us.toArray 0) := Heap.get?_push_size _ rfl
  have J1 : Inv X pins σ H { s1 with heap := s1.heap.push (seqObj "list" us.toArray 0) } := J.kept (t' := s1.toks) fun b o e => Heap.get?_push_of_some _ e
  have fa : Fix X pins s1.heap.objs.size := fix_new J (Nat.le_refl _)
  have na := J.hok.fresh (Nat.le_refl _)
  refine wpAny_bind (wpAny_holding (wpAny_call_entry_kw slot_list_sort ⟨_, ga, rfl⟩ entry_list_sort ?_ (ksk_l1 _ _)))
  rw [ksk_t1]
  refine tree_run J1 fa na ga rv hl hx hne hpz hc fun ys H2 s2 e2 na2 hp ho J2 => ⟨_, rfl, ?_⟩
  exact wpAny_pure ⟨_, rfl, .ref s1.heap.objs.size, _, J2, rfl, hq ys _ _ na (Ex.mut e2 na) upd_same hp ho⟩
end
/-! collect of what has a walk -/
section
variable {prog : Program}
variable {w : World} {A : Around} {E : Value → Shared → Prop} {s : Shared} {T : String} {r d : Addr} {n : Nat} {P : Nat → Value → Prop} {OK : Heap → Prop}
theorem collect_src {R : List Value → Shared → Prop} (S : PySem.W.KdlSrc prog w T r d n P OK) (hh : A.handled = none) (ok : OK s.heap) (hn : n ≤ sizeLine)
    (h : ∀ (h' : Heap) (tk : Nat) (us : List Value), (∀ b o, s.heap.get? b = some o → h'.get? b = some o) → us.length = n → (∀ j u, us[j]? = some u → P j u) → R us { s with heap := h', toks := tk }) : wpAny (model prog w) A (collect (.ref r)) R E s := by
  have lt := S.there _ ok
  unfold collect
  refine (wpAny_bind (wpAny_runValue (codeAny_builtin entry_proto_collect' ?_)))
  rw [Around.under_plainId PySem.F.plain_proto_collect]
  refine wpAny_bind (wpAny_newObj_type (wpAny_pure ⟨plainId_quiet PySem.F.plain_list_iadd _, codeAny_builtin entry_list_iadd' ?_⟩))
  rw [Around.under_plainId PySem.F.plain_list_iadd]
  have back : ∀ {rr : Result} {s2 : Shared}, (∃ (h' : Heap) (tk : Nat) (acc : Array Value) (c : Nat), rr = .ok (.ret (.ref s.heap.objs.size)) ∧ s2 = { s with heap := h', toks := tk } ∧ (∀ b o, s.heap.get? b = some o → h'.get? b = some o) ∧ h'.get? s.heap.objs.size = some { cls := .type "list", dict := none, data := .seq acc c, slots := #[] } ∧ ItemsOf P acc n) →
      ∃ (h' : Heap) (tk : Nat) (acc : Array Value) (c : Nat), rr = .ok (.ret (.ref s.heap.objs.size)) ∧ s2 = { s with heap := h', toks := tk } ∧ h'.get? s.heap.objs.size = some { cls := .type "list", dict := none, data := .seq acc c, slots := #[] } ∧ R acc.toList s2 := by
    rintro rr s2 ⟨h', tk, acc, c, e1, rfl, e3, e4, e5⟩
    exact ⟨h', tk, acc, c, e1, rfl, e4, h h' tk acc.toList e3 (by rw [Array.length_toList]; exact e5.1) fun j u hu => e5.2 j u (by rw [← Array.getElem?_toList]; exact hu)⟩
  refine wpAny_mono (PySem.W.kdl_extend (A := A) (s := { s with heap := s.heap.push { cls := .type "list", data := .seq ([] : List Value).toArray } }) (R := fun rr s2 => ∃ (h' : Heap) (tk : Nat) (acc : Array Value) (c : Nat), rr = .ok (.ret (.ref s.heap.objs.size)) ∧ s2 = { s with heap := h', toks := tk } ∧
      (∀ b o, s.heap.get? b = some o → h'.get? b = some o) ∧ h'.get? s.heap.objs.size = some { cls := .type "list", dict := none, data := .seq acc c, slots := #[] } ∧ ItemsOf P acc n) S hh (S.keep _ _ ok fun b _ o e => Heap.get?_push_of_some _ e) s.heap.objs.size (Nat.ne_of_gt lt.1) (Nat.ne_of_gt lt.2) _ 0 (Heap.get?_push_size _ rfl)
    (fun h' tk acc c k1 k2 k3 => ⟨h', tk, acc, c, rfl, rfl, fun b o e => k1 b o (Nat.ne_of_lt (Heap.lt_size e)) (Heap.get?_push_of_some _ e), k2, k3⟩) hn) (fun fl s2 z => ?_) fun e s2 z => ?_
  · cases fl with
    | done v =>
      obtain ⟨h', tk, acc, c, e1, rfl, e2, e3⟩ := back z
      cases e1
      exact wpAny_bind (wpAny_load e2 (wpAny_pure e3))
    | again cd =>
      refine ⟨z.1, codeAny_mono z.2 fun rr s3 z3 => ?_⟩
      obtain ⟨h', tk, acc, c, rfl, rfl, e2, e3⟩ := back z3
      exact wpAny_bind (wpAny_load e2 (wpAny_pure e3))
  · obtain ⟨_, _, _, _, e1, _⟩ := z
    cases e1
end
end FB
-- KS5
set_option Elab.async false
set_option linter.all false
set_option maxRecDepth 100000
set_option maxHeartbeats 3900000
namespace FB
open PySem PySem.Spec PyProof.Rows L2 Evl
/-! ### d.values() as a value, sorted(d.values(), key=f) -/
def ValO (p d : Addr) : HO := .ext fun h => h.IsValuesView p d
def tValsV (td : TE) : TE := fun σ H Q => td σ H fun x H1 => ∃ d kvs, x = .ref d ∧ H1 d = some (.dK kvs) ∧ ∀ p, H1 p = none → Q (.ref p) (upd H1 p (ValO p d))
section
variable {X : Cx} {o : Expr} {td : TE} {apos mpos : Pos}
theorem pe_valsV (hd : PE X o td) (hbase : attributeBase o "values" X.env (eval o X.env) = eval o X.env := by rfl) (hline : (apos.endLine == mpos.line) = true := by rfl) : PE X (.Call (.Attribute o "values" apos) [] [] mpos) (tValsV td) := by
  refine ⟨fun pins s σ H Q J h => wpAny_Call_method0_late hbase hline (thn (hd.run pins s σ H _ J h) fun v s1 ⟨x, H1, J1, r1, d, kvs, ex, hk, q⟩ => ?_)⟩
  subst ex
  obtain rfl : v = Value.ref d := r1
  obtain ⟨_, nsys, vs, rel, dof⟩ := dk_of J1.hok hk
  have dof' := dof
  obtain ⟨ob, es, ep, ho, hex, _⟩ := dof'
  refine ⟨"dict", "dict.values", PySem.F.plainAttrs_dict, PySem.F.slot_dict_values, PySem.F.type_dict_values, ⟨ob, ho, hex.1⟩, fun b eb => by cases eb; exact ⟨ob, ho, hex.2.1⟩, Calls.callWith_builtin rfl (PySem.evalArgs_none ?_)⟩
  refine call_meetsIn PySem.F.slot_dict_values ⟨ob, ho, hex.1⟩ PySem.F.entry_dict_values (PySem.F.args_dict_values_1 _) (meets_dict_values (mixKind X.prog X.w) d nsys) ⟨⟨vs, dof⟩, ?_⟩
  have new : (s1.heap.push { cls := .type "dict_values", data := .fields #[.ref d] }).get? s1.heap.objs.size = some { cls := .type "dict_values", data := .fields #[.ref d] } := Heap.get?_push_size _ rfl
  exact ⟨.ref s1.heap.objs.size, _, J1.laid (o := ValO s1.heap.objs.size d) (t' := s1.toks) (fun b u e => Heap.get?_push_of_some _ e) (Nat.le_refl _) ⟨⟨_, new, rfl, rfl⟩, ⟨_, new⟩, fun h1 h2 ⟨oo, z1, z2⟩ st => ⟨oo, st _ z1, z2⟩⟩, rfl, q _ (J1.hok.fresh (Nat.le_refl _))⟩
end
section
variable {X : Cx} {σ : L2.St} {H : Hp}
theorem room_in {k : Nat} {A : Around} (r : Room (k + 2) A) : Room k A.in1.in1 := Room.in1 (Room.in1 r)
/-- a def that is held gives the keys -/
theorem held_keys {k : Nat} {q : Addr} {sp : Sp} {x : V} {ns : List Int} (F : Held X.prog X.w X.K X.mg X.base k q sp) (hr : Room (k + 2) X.A) (hs : ∀ H1, Ex H H1 → ∀ Q : VK, (∀ t H2, Ex H1 H2 → H2 t = some (.tup (ns.map V.int)) → Q (.ref t) H2) → sp [x] H1 Q E0) :
    KeyCall X X.A.in1.in1 [] (.ref q) σ H x ns := by
  intro pins s H1 u Q _ J e r q'
  obtain ⟨fd, ps, fok, _, hb⟩ := F.ex
  have hsp := hs H1 e Q q'
  have hl := fok.len _ _ _ _ hsp
  have bt := hb s [u] J.kIn (by rw [List.append_nil]; exact hl)
  rw [List.append_nil] at bt
  refine wpAny_call (codeAny_mono (fok.run X.A.in1.in1 X.stack s H1 ⟨[u], []⟩ [u] [x] Q E0 (room_in hr) J.env0.in1.in1 bt (.cons r .nil) hsp) fun rr s2 z => ?_)
  cases rr with
  | error e => exact z.elim
  | ok fl =>
    cases fl with
    | ret v => exact J.after z
    | _ => exact z.elim
def rSortVals (P : Program) (w : World) (K : PySem.W.Frag) (mg : Str → Option Value) (base : Heap) (k : Nat) : List V → List V → Hp → VK → Prop := fun vs zs H Q => ∃ (p d q : Addr) (kvs : List (Key × V)) (sp : Sp) (key : V → List Int), vs = [.ref p] ∧ zs = [.ref q] ∧ H p = some (ValO p d) ∧ H d = some (.dK kvs) ∧ kvs.length ≤ sizeLine ∧
  Held P w K mg base k q sp ∧ (∀ x ∈ kvs.map (·.2), ∃ a, x = V.ref a) ∧ (∀ x ∈ kvs.map (·.2), key x ≠ []) ∧ (∀ x ∈ kvs.map (·.2), ∀ H1, Ex H H1 → ∀ Q' : VK, (∀ t H2, Ex H1 H2 → H2 t = some (.tup ((key x).map V.int)) → Q' (.ref t) H2) → sp [x] H1 Q' E0) ∧
  ∀ ys l H2, H l = none → Ex H H2 → H2 l = some (.lst ys) → ys.Perm (kvs.map (·.2)) → InKeys key ys → Q (.ref l) H2
theorem vals_vals : ∀ {κ : Type} {kvs : List (κ × V)} {vs : List (κ × Value)} {us : List Value}, KV kvs vs → us.length = vs.length → (∀ (j : Nat) u, us[j]? = some u → ∃ k, vs[j]? = some (k, u)) → Vals (kvs.map (·.2)) us
  | _, _, _, [], .nil, _, _ => .nil
  | _, _, _, _ :: _, .nil, hl, _ => nomatch hl
  | _, _, _, [], .cons _ _, hl, _ => nomatch hl
  | _, _, _, u :: us, .cons (l₂ := l2) r t, hl, h => by
    obtain ⟨k, e⟩ := h 0 u rfl
    have e' := Option.some.inj e
    refine .cons ?_ (vals_vals t (by simpa using hl) fun j v hv => h (j + 1) v hv)
    have e2 := congrArg Prod.snd e'
    dsimp only at e2
    rw [← e2]
    exact r.2
theorem cr_sortVals {k : Nat} (hc : X.calm = true) (hr : Room (k + 2) X.A) : CallRK X (.builtin "sorted") [Str.ofString "key"] (rSortVals X.prog X.w X.K X.mg X.base k) := by
  intro pins s σ H vs zs us ws Q J rv rz h
  obtain ⟨p, d, q, kvs, sp, key, rfl, rfl, hp, hd, hz, F, hx, hne, hs, hq⟩ := h
  obtain rfl := Vals.ref1 rv
  obtain ⟨w1, rfl, rw1⟩ := vals1 rz
  obtain rfl : w1 = Value.ref q := rw1
  obtain ⟨_, nsys, es, rel, dof⟩ := dk_of J.hok hd
  rcases dof.dictAt with ⟨ep, dat⟩
  have hview : s.heap.IsValuesView p d := (show ObjOk X.prog X.w H s.heap p (ValO p d) from J.hok p _ hp).1
  have le : es.length = kvs.length := (KV.length rel).symm
  refine sorted_keyed (pz := []) (xs := kvs.map (·.2)) (key := key) (fun R k2 => ?_) (by rw [List.length_map]; exact hz) (fun x m => .inl (hx x m)) hne (fun _ z => nomatch z) (fun x m => held_keys F hr (hs x m)) hq
  refine collect_src (A := X.A.in1) (PySem.W.kdl_values (knd := mixKind X.prog X.w)) (J.ok.hd hc) ⟨hview, dat⟩ (by rw [le]; exact hz) fun h' tk us keep hl hu => k2 us _ (vals_vals rel hl hu) (J.kept (t' := tk) keep)
end
end FB
-- LM1
set_option Elab.async false
set_option linter.all false
set_option maxRecDepth 100000
set_option maxHeartbeats 3900000
namespace FB
open PySem PySem.Spec PyProof.Rows L2 Evl
/-! ### sorted(range(n), key=lambda i: ..) -/
open LamX NdefX
section
variable {X : Cx}
theorem cr_range1 : CallR X (.type "range") (fun vs H Q => ∃ j, vs = [V.int j] ∧ ∀ p, H p = none → Q (.ref p) (upd H p (.rng 0 j))) := by
  intro pins s σ H vs us Q J r h
  obtain ⟨j, rfl, q⟩ := h
  obtain ⟨u1, rfl, t, rfl⟩ := vals1 r
  exact call_range_1 ⟨.ref s.heap.objs.size, upd H s.heap.objs.size (.rng 0 j), J.laid (t' := s.toks + 2) (fun b o e => Heap.get?_push_of_some _ e) (Nat.le_refl _) ⟨s.toks, t, s.toks + 1, Heap.get?_push_size _ rfl⟩, rfl, q _ (J.hok.fresh (Nat.le_refl _))⟩
/-- the lambda as a function of the layer -/
abbrev lamF (X : Cx) (params : Arguments) (scope : Scope) (c : Addr) : NF := ⟨"<lambda>", X.env.qual ++ "<lambda>", params, [], scope, cloFrom X.env.cells scope.names [], c⟩
/-- calling it gives a key -/
theorem lam_keys {A : Around} {k : Nat} {f c : Addr} {params : Arguments} {body : Expr} {scope : Scope} {pm ctv : Value} {N fr : List Str} {a : Str} {js : List Nat} {σ : L2.St} {H : Hp} {x : V} {ns : List Int} {tb : TE} (S : NScope N [a] fr scope) (hr : Room (k + 1) A) (e0 : ∀ {s H}, Env0 X.prog X.w X.K X.mg X.base X.A X.stack s H → Env0 X.prog X.w X.K X.mg X.base A X.stack s H)
    (cp : X.Ok → Caps X (cloFrom X.env.cells scope.names []) fr js) (hb : ∀ (q : Str) (cl : List (Str × Addr)) (pm cv ctv u : Value), bindArgs (PySem.W.kla_fn "<lambda>" q params body scope cl pm cv ctv) ⟨[u], []⟩ = pure [(a, u)])
    (hbody : ∀ (A : Around) (outer : List Env) (s : Shared) (H : Hp), Room k (A.deeper (envF (lamF X params scope c) f s.heap.objs.size)) → PE (ncx CX0 X.prog X.w X.K X.mg X.base N (lamF X params scope c) f A outer s H E0) body tb)
    (hc : H c = some (CodeO c (X.env.qual ++ "<lambda>"))) (ht : ∀ H1, Ex H H1 → ∀ Q : VK, (∀ t H2, Ex H1 H2 → H2 t = some (.tup (ns.map V.int)) → Q (.ref t) H2) → tb (startF N [x] (js.map (slotAt σ))) H1 Q) :
    KeyCall X A [(f, PySem.W.kla_obj "<lambda>" (X.env.qual ++ "<lambda>") params body scope (cloFrom X.env.cells scope.names []) pm c ctv)] (.ref f) σ H x ns := by
  intro pins s H1 u Q hp J e r q
  have at_ := (J.pin _ (List.mem_append_right _ (hp _ (List.mem_cons_self ..)))).1
  have env := e0 J.env0
  have C := cells_of J (cp J.ok)
  have code := codeO_at J.hok (e _ _ hc)
  have rc : codeAny (model X.prog X.w) A (.call (.ref f) ⟨[u], []⟩) (CR CX0 X.stack X.prog X.w H1 s Q E0) s := by
    refine PySem.W.kla_callFunE hr.depth at_ rfl S.co S.gen rfl code ?_
    rw [hb]
    refine wpAny_pure (wpAny_newFunctionEnv S.nocell (fun y hy => ?_) (fun h1 hns hsb => ⟨J.nolimit.fresh _ hsb, ?_⟩) S.kind)
    · rw [List.mem_singleton.mp hy]
      exact S.par a (List.mem_cons_self ..)
    have kp : ∀ b o, s.heap.get? b = some o → h1.get? b = some o := fun b o z => hsb.extBut b o (Nat.ne_of_lt (Heap.lt_size z)) (Heap.get?_push_of_some _ z)
    have J1 : Inv (ncx CX0 X.prog X.w X.K X.mg X.base N (lamF X params scope c) f A X.stack s H1 E0) [] (startF N [x] (js.map (slotAt σ))) H1 { s with heap := h1, toks := s.toks + 1 } := inv_startN (ps := [a]) (us := [u]) S hr.hd env rfl (.cons r .nil) C hns kp
    refine PySem.W.kla_codeExpr (wpAny_mono ((hbody _ _ s H1 (hr.deeper _)).run [] _ _ H1 Q J1 (ht H1 e Q q)) (fun v s2 z => ?_) fun e s2 z => z)
    obtain ⟨v', H2, J2, rv, q2⟩ := z
    exact ⟨v', H2, J2.os, J2.bare, J2.base, J2.hok, rv, q2⟩
  refine wpAny_call (codeAny_mono rc fun rr s2 z => ?_)
  cases rr with
  | error e => exact z.elim
  | ok fl =>
    cases fl with
    | ret v => exact J.after z
    | _ => exact z.elim
/-- the reading: tr the range, tb the lambda's body -/
def tSortLam (P : Addr) (q : Str) (N : List Str) (js : List Nat) (tr tb : TE) : TE := fun σ H Q => tr σ H fun x H1 => ∃ (p : Addr) (n : Nat) (key : Nat → List Int), x = .ref p ∧ H1 p = some (.rng 0 n) ∧ n ≤ 10000 ∧ (∀ i < n, key i ≠ []) ∧ TabS H1 P q ∧ ∀ H2, ExtN H1 H2 → TabS H2 P q →
  (∀ i : Nat, i < n → ∀ H3, Ex H2 H3 → ∀ Q' : VK, (∀ t H4, Ex H3 H4 → H4 t = some (.tup ((key i).map V.int)) → Q' (.ref t) H4) → tb (startF N [.int (i : Nat)] (js.map (slotAt σ))) H3 Q') ∧
  ∀ (ys : List Nat) l H3, H2 l = none → Ex H2 H3 → H3 l = some (.lst (ys.map fun i : Nat => V.int i)) → ys.Perm (List.range n) → ys.Pairwise (fun i j => lexI (key j) (key i) = false) → Q (.ref l) H3
def keyV (key : Nat → List Int) : V → List Int
  | .int i => key i.toNat
  | _ => []
theorem fn_ne_loc {pins : List (Addr × Obj)} {σ : L2.St} {H : Hp} {s : Shared} {f : Addr} {o : Obj} {fd : FuncData} (J : Inv X pins σ H s) (at_ : s.heap.get? f = some o) (hd : o.data = .func fd) : f ≠ X.env.locals := fun z => by
  obtain ⟨m, ⟨ob, es, ep, ho, hd2, _⟩, _⟩ := J.loc
  rw [z, ho] at at_
  cases at_
  rw [hd2] at hd
  cases hd
theorem fs_stack {pins : List (Addr × Obj)} {σ : L2.St} {H : Hp} {s : Shared} {f : Addr} (J : Inv X pins σ H s) (h : f ∉ frs X.stack) : f ∉ X.fs := fun z => h (by
  rcases J.ok.stk with e | ⟨e, _⟩
  · rw [e]
    exact z
  · rw [e]
    show f ∈ (X.env :: X.outer).filterMap _
    rw [List.filterMap_cons]
    split
    · exact z
    · exact List.mem_cons_of_mem _ z)
theorem pe_sortLam {k : Nat} {c P : Addr} {a : Str} {N fr : List Str} {js : List Nat} {params : Arguments} {body : Expr} {scope : Scope} {er : Expr} {tr tb : TE} {p pos lpos kpos : Pos} (hcl : X.calm = true) (hm : X.mg "sorted" = none) (hr : Room (k + 3) X.A) (he : PE X er tr)
    (TB : TabB X.base X.mg c P) (hcode : X.env.code = .ref c) (S : NScope N [a] fr scope) (hfree : ∀ y ∈ scope.names, y.2 = .free → X.env.scope.names.lookup y.1 = some .cell ∨ X.env.scope.names.lookup y.1 = some .free) (hfr : ∀ y ∈ fr, (y, NameKind.free) ∈ scope.names) (hjs : js.map (fun j => X.N[j]?) = fr.map some)
    (hb : ∀ (q : Str) (cl : List (Str × Addr)) (pm cv ctv u : Value), bindArgs (PySem.W.kla_fn "<lambda>" q params body scope cl pm cv ctv) ⟨[u], []⟩ = pure [(a, u)])
    (hbody : ∀ (f c : Addr) (A : Around) (outer : List Env) (s : Shared) (H : Hp), Room k (A.deeper (envF (lamF X params scope c) f s.heap.objs.size)) → PE (ncx CX0 X.prog X.w X.K X.mg X.base N (lamF X params scope c) f A outer s H E0) body tb)
    (hg : Gl X "sorted" := by rfl) (hdef : defaultsOf params X.env = ([], []) := by rfl) (na : starEach [er] X.env = (false, eval er X.env) :: starEach [] X.env := by rfl)
    (he1 : backTo pos (starEach [er] X.env) = (false, eval er X.env) :: backTo pos (starEach [] X.env) := by rfl) (hpl : (backTo pos (starEach [er] X.env)).any (·.1) = false := by rfl) :
    PE X (.Call (.Name "sorted" p) [er] [⟨some "key", .Lambda params body scope lpos, kpos⟩] pos) (tSortLam P (X.env.qual ++ "<lambda>") N js tr tb) := by
  refine ⟨fun pins s σ H Q J h => wpAny_Call_Name_kw (ld_blt J hg hm (u := .builtin "sorted") (by decide +kernel) ?_)⟩
  refine PyProof.Rows.callWith_kw (PyProof.Rows.args_cons (thn (he.run pins s σ H _ J h) fun v s1 ⟨x, H1, J1, r1, q1⟩ => PyProof.Rows.args_nil ?_) na) he1 hpl rfl rfl
  obtain ⟨pr, n, key, rfl, hrng, hn, hne, hT, q1⟩ := q1
  obtain rfl : v = Value.ref pr := r1
  have free2 : ∀ y ∈ scope.names, y.2 = .free → ∃ c, X.env.cells.lookup y.1 = some c := fun y hy e => (hfree y hy e).elim (fun z => J.ok.has _ (.inl z)) fun z => J.ok.has _ (.inr z)
  show wpAny _ _ (evalAll [do let v ← eval (.Lambda params body scope lpos) X.env; standAt pos; pure v]) _ _ s1
  refine wpAny_evalAll_cons (wpAny_bind (lam_make2 (T := [(P, X.env.qual ++ "<lambda>")]) J1 TB hcode (List.mem_cons_self ..) (fun z hz _ => by rw [List.mem_singleton.mp hz]) (fun z hz => by rw [List.mem_singleton.mp hz]; exact hT) hdef free2 fun f c' pm ctv H2 s2 J2 eN T2 hf hfn hfr2 hco => wpAny_bind (wpAny_standAt (wpAny_pure (wpAny_evalAll_nil ?_)))))
  have hT2 := T2 _ (List.mem_cons_self ..)
  obtain ⟨g1, g2⟩ := q1 H2 eN hT2
  have pinned : Inv X (pins ++ [(f, PySem.W.kla_obj "<lambda>" (X.env.qual ++ "<lambda>") params body scope (cloFrom X.env.cells scope.names []) pm c' ctv)]) σ H2 s2 := J2.pins_of fun z hz => by
    rcases List.mem_append.mp hz with old | new
    · exact J2.pin z (List.mem_append_right _ old)
    · rw [List.mem_singleton.mp new]
      exact ⟨hf, hfn, fn_ne_loc J2 hf rfl, fs_stack J2 hfr2, fun v z => nomatch z⟩
  obtain ⟨t1, t2, t3, hrg⟩ := (show ObjOk X.prog X.w H2 s2.heap pr (.rng 0 n) from J2.hok pr _ (eN _ _ hrng fun ps z => nomatch z))
  have sz : Builtin.Range.rangeSize 0 (n : Int) 1 = n := by
    rw [rangeSize_one]
    split <;> omega
  have ext : ∀ {H3 H4 : Hp}, Ex H3 H4 → ExtN H3 H4 := fun e b o z _ => e b o z
  refine wpAny_mono (sorted_keyed (X := X) (σ := σ) (H := H2) (pins := pins ++ [(f, PySem.W.kla_obj "<lambda>" (X.env.qual ++ "<lambda>") params body scope (cloFrom X.env.cells scope.names []) pm c' ctv)]) (pz := [(f, PySem.W.kla_obj "<lambda>" (X.env.qual ++ "<lambda>") params body scope (cloFrom X.env.cells scope.names []) pm c' ctv)]) (xs := (List.range n).map fun i : Nat => V.int i) (key := keyV key) (Q := Q) (fun R k2 => ?_) ?_ (fun x hx => ?_) (fun x hx => ?_) (fun z hz => List.mem_append_right _ hz) (fun x hx => ?_) fun ys l H3 hl e3 h3 pm3 so => ?_) (fun u s3 z => ?_) fun _ _ z => z
  · refine collect_range (A := X.A.in1) (J2.ok.hd hcl) hrg (small_one (by omega) (by omega) (by omega) (by omega)) sz (by omega) fun h' tk acc keep hi => k2 acc.toList _ ?_ (pinned.kept (t' := tk) keep)
    have hv := vals_rg (a := 0) (b := n) (acc := acc) (by simpa using hi)
    have e : rgV 0 (n : Int) = (List.range n).map fun i : Nat => V.int i := by
      unfold rgV
      simp
    rw [e] at hv
    exact hv
  · rw [List.length_map, List.length_range, sizeLine_eq]
    omega
  · obtain ⟨i, _, rfl⟩ := List.mem_map.mp hx
    exact .inr ⟨_, rfl⟩
  · obtain ⟨i, hi, rfl⟩ := List.mem_map.mp hx
    exact hne i (List.mem_range.mp hi)
  · obtain ⟨i, hi, rfl⟩ := List.mem_map.mp hx
    refine lam_keys (k := k) S (room_in hr) (fun z => z.in1.in1) (fun ok => Caps.made ok hfree hfr hjs) hb (hbody f c') hco ?_
    exact g1 i (List.mem_range.mp hi)
  · have back : ∃ zs : List Nat, ys = zs.map (fun i : Nat => V.int i) ∧ zs.Perm (List.range n) := by
      refine ⟨ys.map fun v => match v with | .int i => i.toNat | _ => 0, ?_, ?_⟩
      · rw [List.map_map]
        refine (List.map_id ys).symm.trans (List.map_congr_left fun v hv => ?_)
        obtain ⟨i, _, rfl⟩ := List.mem_map.mp (pm3.mem_iff.mp hv)
        rfl
      · have z := pm3.map fun v : V => match v with | .int i => i.toNat | _ => 0
        rw [List.map_map] at z
        refine z.trans (List.Perm.of_eq ?_)
        exact (List.map_congr_left fun i _ => rfl).trans (List.map_id _)
    obtain ⟨zs, rfl, pz⟩ := back
    refine g2 zs l H3 hl e3 h3 pz ?_
    have z := List.pairwise_map.mp so
    exact z.imp fun {i j} w => w
  · obtain ⟨v, H3, J3, rv, q3⟩ := z
    exact ⟨v, H3, J3.unpinned, rv, q3⟩
end
end FB
-- B1
set_option Elab.async false
set_option linter.all false
set_option maxRecDepth 100000
set_option maxHeartbeats 3900000
namespace FB
open PySem PySem.Spec PyProof.Rows L2 Evl
open LamX NdefX
/-! ### the books at the heap -/
structure BkA where
  P : Addr
  R : Addr
  dx : Addr
  la : Addr
  lc : Addr
  lo : Addr
  dc : Addr
  cs : List (Addr × Addr)
def BkA.as (B : BkA) : List Addr := B.cs.map (·.1)
def BkA.six (B : BkA) : List Addr := [B.P, B.R, B.la, B.lc, B.lo, B.dc]
def BkA.S (B : BkA) : List Addr := B.six ++ B.as
/-- all but the code table -/
def BkA.T (B : BkA) : List Addr := [B.R, B.la, B.lc, B.lo, B.dc] ++ B.as
abbrev chNames : List Str := ["number", "day", "owner", "base", "late", "shared", "surcharge", "paid", "state"]
def chV (c : Vbptai.Charge) : List V := [.int c.num, .int c.day, .int c.owner, .int c.base, .int c.late, .bl c.shared, .int c.extra, .int c.paid, .int c.state]
def chO (K : PySem.W.Frag) (dx : Addr) (c : Vbptai.Charge) : HO := .ins (He.ga K "Charge") dx (chNames.zip (chV c))
abbrev bkNames : List Str := ["accounts", "credit", "sources", "charges", "handed", "came_in", "given_back"]
def bkV (B : BkA) (lh : Addr) (inc : Int) (out : Nat) : List V := [.ref B.la, .ref B.lc, .ref B.lo, .ref B.dc, .ref lh, .int inc, .int out]
def bkO (K : PySem.W.Frag) (B : BkA) (lh : Addr) (inc : Int) (out : Nat) : HO := .ins (He.ga K "Books") B.dx (bkNames.zip (bkV B lh inc out))
def natV (l : List Nat) : List V := l.map fun (x : Nat) => V.int x
def chTab (ns : List Nat) (as : List Addr) : List (Key × V) := (ns.zip as).map fun q => (Sum.inl (q.1 : Int), V.ref q.2)
def lamQ : Str := "shares_of.<locals>.<lambda>"
/-- the code table of the one def that makes a lambda -/
def tabC (K : PySem.W.Frag) : Addr := He.codeOf K ("shares_of", none)
def tabP (K : PySem.W.Frag) : Addr := He.tabOf K (tabC K)
structure BkAt (K : PySem.W.Frag) (B : BkA) (H : Hp) (b : Vbptai.Books) : Prop where
  nd : B.S.Nodup
  tab : TabS (hid B.T H) B.P lamQ
  obj : ∃ lh, H B.R = some (bkO K B lh b.income b.out) ∧ hid B.S H lh = some (.lst (natV b.handed))
  la : H B.la = some (.lst (V.int 0 :: b.accounts.map V.int))
  lc : H B.lc = some (.lst (natV (0 :: b.credits)))
  lo : H B.lo = some (.lst (natV (0 :: b.orders)))
  dc : H B.dc = some (.dK (chTab (b.charges.map (·.num)) B.as))
  cs : Paired (fun c q => hid B.six H q.1 = some (chO K q.2 c)) b.charges B.cs
  tp : B.P = tabP K
theorem nodup_ne {α : Type} : ∀ {l : List α} {i j : Nat} {a b : α}, l.Nodup → l[i]? = some a → l[j]? = some b → i ≠ j → a ≠ b := by
  intro l i j a b nd ha hb hij e
  subst e
  have hi := (List.getElem?_eq_some_iff.mp ha).1
  exact hij ((List.getElem?_inj hi nd).mp (ha.trans hb.symm))
section
variable {K : PySem.W.Frag} {B : BkA} {H H' : Hp} {b : Vbptai.Books} {x : Addr} {o : HO}
theorem BkA.sixS (h : x ∈ B.six) : x ∈ B.S := List.mem_append_left _ h
theorem BkA.asS (h : x ∈ B.as) : x ∈ B.S := List.mem_append_right _ h
theorem BkA.S_eq : B.S = B.P :: B.T := rfl
theorem BkA.tS (h : x ∈ B.T) : x ∈ B.S := List.mem_cons_of_mem _ h
theorem BkAt.apart (h : BkAt K B H b) {y : Addr} (hx : x ∈ B.six) (hy : y ∈ B.as) : x ≠ y := (List.nodup_append.mp h.nd).2.2 x hx y hy
theorem BkAt.stay (e : Ex H H') (h : BkAt K B H b) : BkAt K B H' b := by
  obtain ⟨nd, tab, ⟨lh, o1, o2⟩, h1, h2, h3, h4, h5, tp⟩ := h
  exact ⟨nd, tab.ext (hid_mono e), ⟨lh, e _ _ o1, hid_mono e _ _ o2⟩, e _ _ h1, e _ _ h2, e _ _ h3, e _ _ h4, Paired.mono (fun c q h => hid_mono e _ _ h) h5, tp⟩
/-- one of the first six at its place -/
theorem BkAt.at6 (h : BkAt K B H b) {i j : Nat} {y z : Addr} (hi : B.six[i]? = some y) (hj : B.six[j]? = some z) (n : i ≠ j) : y ≠ z := nodup_ne (List.nodup_append.mp h.nd).1 hi hj n
theorem BkAt.putA {l : List Int} (h : BkAt K B H b) : BkAt K B (upd H B.la (.lst (V.int 0 :: l.map V.int))) { b with accounts := l } := by
  have a := fun {i : Nat} {y : Addr} (hi : B.six[i]? = some y) (n : i ≠ 2) => h.at6 (i := i) (j := 2) (z := B.la) hi rfl n
  obtain ⟨nd, tab, ⟨lh, o1, o2⟩, h1, h2, h3, h4, h5, tp⟩ := h
  have m6 : B.la ∈ B.six := by simp [BkA.six]
  exact ⟨nd, by rw [hid_upd (by simp [BkA.T])]; exact tab, ⟨lh, by rw [upd_ne (a (i := 1) rfl (by decide))]; exact o1, by rw [hid_upd (BkA.sixS m6)]; exact o2⟩, upd_same, by rw [upd_ne (a (i := 3) rfl (by decide))]; exact h2, by rw [upd_ne (a (i := 4) rfl (by decide))]; exact h3, by rw [upd_ne (a (i := 5) rfl (by decide))]; exact h4, by rw [hid_upd m6]; exact h5, tp⟩
theorem BkAt.putC {l : List Nat} (h : BkAt K B H b) : BkAt K B (upd H B.lc (.lst (natV (0 :: l)))) { b with credits := l } := by
  have a := fun {i : Nat} {y : Addr} (hi : B.six[i]? = some y) (n : i ≠ 3) => h.at6 (i := i) (j := 3) (z := B.lc) hi rfl n
  obtain ⟨nd, tab, ⟨lh, o1, o2⟩, h1, h2, h3, h4, h5, tp⟩ := h
  have m6 : B.lc ∈ B.six := by simp [BkA.six]
  exact ⟨nd, by rw [hid_upd (by simp [BkA.T])]; exact tab, ⟨lh, by rw [upd_ne (a (i := 1) rfl (by decide))]; exact o1, by rw [hid_upd (BkA.sixS m6)]; exact o2⟩, by rw [upd_ne (a (i := 2) rfl (by decide))]; exact h1, upd_same, by rw [upd_ne (a (i := 4) rfl (by decide))]; exact h3, by rw [upd_ne (a (i := 5) rfl (by decide))]; exact h4, by rw [hid_upd m6]; exact h5, tp⟩
theorem BkAt.putO {l : List Nat} (h : BkAt K B H b) : BkAt K B (upd H B.lo (.lst (natV (0 :: l)))) { b with orders := l } := by
  have a := fun {i : Nat} {y : Addr} (hi : B.six[i]? = some y) (n : i ≠ 4) => h.at6 (i := i) (j := 4) (z := B.lo) hi rfl n
  obtain ⟨nd, tab, ⟨lh, o1, o2⟩, h1, h2, h3, h4, h5, tp⟩ := h
  have m6 : B.lo ∈ B.six := by simp [BkA.six]
  exact ⟨nd, by rw [hid_upd (by simp [BkA.T])]; exact tab, ⟨lh, by rw [upd_ne (a (i := 1) rfl (by decide))]; exact o1, by rw [hid_upd (BkA.sixS m6)]; exact o2⟩, by rw [upd_ne (a (i := 2) rfl (by decide))]; exact h1, by rw [upd_ne (a (i := 3) rfl (by decide))]; exact h2, upd_same, by rw [upd_ne (a (i := 5) rfl (by decide))]; exact h4, by rw [hid_upd m6]; exact h5, tp⟩
/-- what came in, what was given back, what was handed -/
theorem BkAt.putR {lh : Addr} {inc : Int} {out : Nat} {hd : List Nat} (h : BkAt K B H b) (hl : hid B.S H lh = some (.lst (natV hd))) : BkAt K B (upd H B.R (bkO K B lh inc out)) { b with income := inc, out := out, handed := hd } := by
  have a := fun {i : Nat} {y : Addr} (hi : B.six[i]? = some y) (n : i ≠ 1) => h.at6 (i := i) (j := 1) (z := B.R) hi rfl n
  obtain ⟨nd, tab, ⟨lh0, o1, o2⟩, h1, h2, h3, h4, h5, tp⟩ := h
  have m6 : B.R ∈ B.six := by simp [BkA.six]
  exact ⟨nd, by rw [hid_upd (by simp [BkA.T])]; exact tab, ⟨lh, upd_same, by rw [hid_upd (BkA.sixS m6)]; exact hl⟩, by rw [upd_ne (a (i := 2) rfl (by decide))]; exact h1, by rw [upd_ne (a (i := 3) rfl (by decide))]; exact h2, by rw [upd_ne (a (i := 4) rfl (by decide))]; exact h3, by rw [upd_ne (a (i := 5) rfl (by decide))]; exact h4, by rw [hid_upd m6]; exact h5, tp⟩
/-! a charge -/
def setCh (l : List Vbptai.Charge) (k : Nat) (c : Vbptai.Charge) : List Vbptai.Charge := l.map fun x => if x.num = k then c else x
theorem setCh_nums {l : List Vbptai.Charge} {k : Nat} {c : Vbptai.Charge} (hc : c.num = k) : (setCh l k c).map (·.num) = l.map (·.num) := by
  unfold setCh
  rw [List.map_map]
  refine (List.map_congr_left fun x _ => ?_)
  show (if x.num = k then c else x).num = x.num
  split
  · rename_i h
    rw [hc, h]
  · rfl
theorem setCh_no {l : List Vbptai.Charge} {k : Nat} {c : Vbptai.Charge} (h : k ∉ l.map (·.num)) : setCh l k c = l := by
  unfold setCh
  refine (List.map_congr_left fun x hx => ?_).trans (List.map_id _)
  exact if_neg fun z => h (List.mem_map.mpr ⟨x, hx, z⟩)
theorem setCh_twice {l : List Vbptai.Charge} {k : Nat} {c d : Vbptai.Charge} (hc : c.num = k) : setCh (setCh l k c) k d = setCh l k d := by
  unfold setCh
  rw [List.map_map]
  refine (List.map_congr_left fun x _ => ?_)
  show (if (if x.num = k then c else x).num = k then d else (if x.num = k then c else x)) = _
  by_cases h : x.num = k
  · rw [if_pos h, if_pos h, if_pos hc]
  · rw [if_neg h, if_neg h]
theorem setCh_zip : ∀ {l : List Vbptai.Charge} {cs : List (Addr × Addr)} {c d : Vbptai.Charge} {q : Addr × Addr}, (c, q) ∈ l.zip cs → (d, q) ∈ (setCh l c.num d).zip cs
  | [], _, _, _, _, h => nomatch h
  | _ :: _, [], _, _, _, h => nomatch h
  | x :: l, y :: cs, c, d, q, h => by
    obtain e | h := List.mem_cons.mp h
    · cases e
      show (d, y) ∈ ((if x.num = x.num then d else x) :: _).zip _
      rw [if_pos rfl]
      exact List.mem_cons_self ..
    · exact List.mem_cons_of_mem _ (setCh_zip h)
theorem zip_fst {α β : Type} : ∀ {l : List α} {m : List β} {q : α × β}, q ∈ l.zip m → q.1 ∈ l := fun h => (List.of_mem_zip h).1
theorem paired_put {H0 : Hp} {k : Nat} : ∀ {l : List Vbptai.Charge} {cs : List (Addr × Addr)} {c d : Vbptai.Charge} {a dx : Addr}, Paired (fun c q => H0 q.1 = some (chO K q.2 c)) l cs → (cs.map (·.1)).Nodup → (l.map (·.num)).Nodup → (c, (a, dx)) ∈ l.zip cs → c.num = k →
    Paired (fun c q => upd H0 a (chO K dx d) q.1 = some (chO K q.2 c)) (setCh l k d) cs
  | _, _, _, _, _, _, .nil, _, _, h, _ => nomatch h
  | x :: l, y :: cs, c, d, a, dx, .cons h t, n1, n2, hm, hk => by
    obtain ⟨a1, a2⟩ := List.nodup_cons.mp (show (y.1 :: cs.map (·.1)).Nodup from n1)
    obtain ⟨b1, b2⟩ := List.nodup_cons.mp (show (x.num :: l.map (·.num)).Nodup from n2)
    obtain e | hm := List.mem_cons.mp hm
    · cases e
      subst hk
      have e2 : setCh (x :: l) x.num d = d :: l := by
        show (if x.num = x.num then d else x) :: setCh l x.num d = _
        rw [if_pos rfl, setCh_no b1]
      rw [e2]
      refine .cons upd_same ?_
      clear e2 hm n1 n2 h
      have : ∀ {l : List Vbptai.Charge} {cs : List (Addr × Addr)}, a ∉ cs.map (·.1) → Paired (fun c q => H0 q.1 = some (chO K q.2 c)) l cs → Paired (fun c q => upd H0 a (chO K dx d) q.1 = some (chO K q.2 c)) l cs := by
        intro l cs ha t
        induction t with
        | nil => exact .nil
        | @cons m kv l kvs h t ih =>
          refine .cons ?_ (ih fun z => ha (List.mem_cons_of_mem _ z))
          rw [upd_ne (fun z => ha (by rw [← z]; exact List.mem_cons_self ..))]
          exact h
      exact this a1 t
    · have hc : c ∈ l := zip_fst hm
      have ha : a ∈ cs.map (·.1) := List.mem_map.mpr ⟨_, (List.of_mem_zip hm).2, rfl⟩
      have e2 : setCh (x :: l) k d = x :: setCh l k d := by
        show (if x.num = k then d else x) :: setCh l k d = _
        rw [if_neg (fun z => b1 (List.mem_map.mpr ⟨c, hc, by rw [hk, z]⟩))]
      rw [e2]
      refine .cons ?_ (paired_put t a2 b2 hm hk)
      rw [upd_ne (fun z => a1 (by rw [z]; exact ha))]
      exact h
theorem hid_out {S : List Addr} {a : Addr} {o : HO} (h : a ∉ S) : hid S (upd H a o) = upd (hid S H) a o := funext fun z => by
  by_cases c : z ∈ S
  · rw [hid_in c, upd_ne (fun e => h (by rw [← e]; exact c)), hid_in c]
  · rw [hid_at c]
    by_cases e : z = a
    · rw [e, upd_same, upd_same]
    · rw [upd_ne e, upd_ne e, hid_at c]
theorem BkAt.mem_as (h : BkAt K B H b) {c : Vbptai.Charge} {a dx : Addr} (hm : (c, (a, dx)) ∈ b.charges.zip B.cs) : a ∈ B.as := List.mem_map.mpr ⟨_, (List.of_mem_zip hm).2, rfl⟩
theorem BkAt.putCh {c d : Vbptai.Charge} {a dx : Addr} (h : BkAt K B H b) (hm : (c, (a, dx)) ∈ b.charges.zip B.cs) (hn : (b.charges.map (·.num)).Nodup) (hd : d.num = c.num) : BkAt K B (upd H a (chO K dx d)) { b with charges := setCh b.charges c.num d } := by
  have ha := h.mem_as hm
  have ap := fun {y : Addr} (hy : y ∈ B.six) => h.apart hy ha
  obtain ⟨nd, tab, ⟨lh, o1, o2⟩, h1, h2, h3, h4, h5, tp⟩ := h
  refine ⟨nd, by rw [hid_upd (show a ∈ B.T from List.mem_append_right _ ha)]; exact tab, ⟨lh, by rw [upd_ne (ap (by simp [BkA.six]))]; exact o1, by rw [hid_upd (BkA.asS ha)]; exact o2⟩, by rw [upd_ne (ap (by simp [BkA.six]))]; exact h1, by rw [upd_ne (ap (by simp [BkA.six]))]; exact h2, by rw [upd_ne (ap (by simp [BkA.six]))]; exact h3, ?_, ?_, tp⟩
  · rw [upd_ne (ap (by simp [BkA.six])), setCh_nums hd]
    exact h4
  · rw [hid_out (fun z => ap z rfl)]
    exact paired_put h5 (List.nodup_append.mp nd).2.1 hn hm rfl
theorem paired_in {α β : Type} {R : α → β → Prop} : ∀ {l : List α} {m : List β} {q : α × β}, Paired R l m → q ∈ l.zip m → R q.1 q.2
  | _, _, _, .nil, h => nomatch h
  | _, _, _, .cons h t, hm => by
    obtain e | hm := List.mem_cons.mp hm
    · rw [e]
      exact h
    · exact paired_in t hm
theorem BkAt.ch (h : BkAt K B H b) {c : Vbptai.Charge} {a dx : Addr} (hm : (c, (a, dx)) ∈ b.charges.zip B.cs) : H a = some (chO K dx c) := (hid_of (paired_in h.cs hm)).2
/-- another charge -/
def BkA.more (B : BkA) (a dx : Addr) : BkA := { B with cs := B.cs ++ [(a, dx)] }
theorem zip_snoc {α β : Type} : ∀ {l : List α} {m : List β} {x : α} {y : β}, l.length = m.length → (l ++ [x]).zip (m ++ [y]) = l.zip m ++ [(x, y)]
  | [], [], _, _, _ => rfl
  | [], _ :: _, _, _, h => nomatch h
  | _ :: _, [], _, _, h => nomatch h
  | a :: l, b :: m, x, y, h => congrArg _ (zip_snoc (by simpa using h))
theorem BkAt.len (h : BkAt K B H b) : b.charges.length = B.cs.length := h.cs.length
theorem BkAt.has (h : BkAt K B H b) {a : Addr} (ha : a ∈ B.S) : ∃ o, H a = some o := by
  rcases List.mem_append.mp ha with h6 | hA
  · obtain ⟨ps, t1, _⟩ := h.tab
    obtain ⟨lh, o1, _⟩ := h.obj
    unfold BkA.six at h6
    simp only [List.mem_cons, List.not_mem_nil, or_false] at h6
    rcases h6 with e | e | e | e | e | e
    · exact ⟨_, by rw [e]; exact (hid_of t1).2⟩
    · exact ⟨_, by rw [e]; exact o1⟩
    · exact ⟨_, by rw [e]; exact h.la⟩
    · exact ⟨_, by rw [e]; exact h.lc⟩
    · exact ⟨_, by rw [e]; exact h.lo⟩
    · exact ⟨_, by rw [e]; exact h.dc⟩
  · obtain ⟨q, hq, rfl⟩ := List.mem_map.mp hA
    have key : ∀ {l : List Vbptai.Charge} {cs : List (Addr × Addr)}, Paired (fun c q => hid B.six H q.1 = some (chO K q.2 c)) l cs → q ∈ cs → ∃ o, H q.1 = some o := by
      intro l cs t
      induction t with
      | nil => exact fun z => nomatch z
      | cons h t ih =>
        intro z
        rcases List.mem_cons.mp z with rfl | z
        · exact ⟨_, (hid_of h).2⟩
        · exact ih z
    exact key h.cs hq
/-- charges[num] = the new charge at a -/
theorem BkAt.addCh {c : Vbptai.Charge} {a dx : Addr} (h : BkAt K B H b) (ha : H a = none) (hc : H' a = some (chO K dx c)) (e : Ex H H') (hn : c.num ∉ b.charges.map (·.num)) :
    BkAt K (B.more a dx) (upd H' B.dc (.dK (putK (chTab (b.charges.map (·.num)) B.as) (Sum.inl (c.num : Int)) (.ref a)))) { b with charges := b.charges ++ [c] } := by
  have hl := h.len
  have nS : a ∉ B.S := fun z => by
    obtain ⟨o, ho⟩ := h.has z
    rw [ho] at ha
    cases ha
  have a5 := fun {i : Nat} {y : Addr} (hi : B.six[i]? = some y) (n : i ≠ 5) => h.at6 (i := i) (j := 5) (z := B.dc) hi rfl n
  have adc : a ≠ B.dc := fun z => nS (by rw [z]; exact BkA.sixS (by simp [BkA.six]))
  have mS : (B.more a dx).S = B.S ++ [a] := by
    show B.six ++ (B.cs ++ [(a, dx)]).map (·.1) = (B.six ++ B.cs.map (·.1)) ++ [a]
    rw [List.map_append, List.append_assoc]
    rfl
  have mA : (B.more a dx).as = B.as ++ [a] := by
    show (B.cs ++ [(a, dx)]).map (·.1) = B.cs.map (·.1) ++ [a]
    rw [List.map_append]
    rfl
  have mT : (B.more a dx).T = B.T ++ [a] := by
    show [B.R, B.la, B.lc, B.lo, B.dc] ++ (B.more a dx).as = _
    rw [mA, ← List.append_assoc]
    rfl
  have out : ∀ {S S' : List Addr} {y : Addr} {o : HO}, S' = S ++ [a] → hid S H y = some o → hid S' H' y = some o := fun {S S' y o} es hy => by
    obtain ⟨y1, y2⟩ := hid_of hy
    rw [hid_at]
    · exact e _ _ y2
    · rw [es]
      intro z
      rcases List.mem_append.mp z with z | z
      · exact y1 z
      · rw [List.mem_singleton.mp z, ha] at y2
        cases y2
  obtain ⟨nd, tab, ⟨lh, o1, o2⟩, h1, h2, h3, h4, h5, tp⟩ := h
  have d6 : B.dc ∈ B.six := by simp [BkA.six]
  refine ⟨?_, ?_, ⟨lh, ?_, ?_⟩, ?_, ?_, ?_, ?_, ?_, tp⟩
  · rw [mS]
    exact List.nodup_append.mpr ⟨nd, by simp, fun x hx y hy => by rw [List.mem_singleton.mp hy]; exact fun z => nS (by rw [← z]; exact hx)⟩
  · rw [hid_upd (by rw [mT]; exact List.mem_append_left _ (by simp [BkA.T]))]
    exact tab.ext fun y o hy => out mT hy
  · show upd H' B.dc _ B.R = _
    rw [upd_ne (a5 (i := 1) rfl (by decide))]
    exact e _ _ o1
  · rw [hid_upd (by rw [mS]; exact List.mem_append_left _ (BkA.sixS d6))]
    exact out mS o2
  · show upd H' B.dc _ B.la = _
    rw [upd_ne (a5 (i := 2) rfl (by decide))]
    exact e _ _ h1
  · show upd H' B.dc _ B.lc = _
    rw [upd_ne (a5 (i := 3) rfl (by decide))]
    exact e _ _ h2
  · show upd H' B.dc _ B.lo = _
    rw [upd_ne (a5 (i := 4) rfl (by decide))]
    exact e _ _ h3
  · show upd H' B.dc _ B.dc = _
    rw [upd_same, mA]
    have hnone : valV (chTab (b.charges.map (·.num)) B.as) (Sum.inl (c.num : Int)) = none := by
      unfold chTab
      refine valV_tabN (key := fun (n : Nat) => (Sum.inl (n : Int) : Key)) fun n hn2 z => hn ?_
      have : (n : Int) = c.num := Sum.inl.inj z
      rw [← Int.ofNat_inj.mp this]
      exact hn2
    rw [putK_new _ hnone]
    congr 2
    show _ = chTab ((b.charges ++ [c]).map (·.num)) (B.as ++ [a])
    unfold chTab
    rw [List.map_append, List.map_singleton, zip_snoc (by rw [List.length_map, hl]; unfold BkA.as; rw [List.length_map]), List.map_append]
    rfl
  · show Paired _ (b.charges ++ [c]) (B.cs ++ [(a, dx)])
    rw [show (B.more a dx).six = B.six from rfl, hid_upd d6]
    refine Paired.snoc (Paired.mono (fun c q h => hid_mono e _ _ h) h5) ?_
    show hid B.six H' a = _
    rw [hid_at (fun z => nS (BkA.sixS z))]
    exact hc
end
end FB
-- B2
set_option Elab.async false
set_option linter.all false
set_option maxRecDepth 100000
set_option maxHeartbeats 3900000
namespace FB
open PySem PySem.Spec PyProof.Rows L2 Evl
open LamX NdefX
section
variable {K : PySem.W.Frag} {mg : Str → Option Value} {P : Program} {base : Heap} {w : World}
variable {σ : L2.St} {H : Hp} {ta tb tv te td : TE} {t : TT} {a dx : Addr} {c : Vbptai.Charge} {D : Ends} {tz : TS} {B : BkA} {b : Vbptai.Books} {v : V}
theorem putF_here {f : Str} {v x : V} {r : List (Str × V)} : putF f v ((f, x) :: r) = (f, v) :: r := if_pos rfl
theorem putF_past {f g : Str} {v x : V} {r : List (Str × V)} (h : g ≠ f) : putF f v ((g, x) :: r) = (g, x) :: putF f v r := if_neg h
/-- o.f = e -/
theorem s_fldSet {p C : Addr} {fs : List (Str × V)} {f : Str} (hv : Ev tv σ H v) (ho : Ev ta σ H (.ref p)) (hp : H p = some (.ins C dx fs)) (cl : Cls K C) (no : NoAttr K C f) (hl : Nat.blt fs.length 1000 = true) (k : ∀ H1, Ex H H1 → D.nx σ (upd H1 p (.ins C dx (putF f v fs)))) : sFld K ta tv f D σ H :=
  hv H (Ex.refl H) _ fun H1 e1 => ho H1 e1 _ fun H2 e2 => ⟨p, C, dx, fs, rfl, e2 _ _ (e1 _ _ hp), cl, no, Nat.le_of_ble_eq_true hl, k H2 (e1.trans e2)⟩
section
variable (T : Tx K mg) (h : H a = some (chO K dx c)) (ho : Ev ta σ H (.ref a))
include T h ho
theorem ch_number : Ev (tFld K ta "number") σ H (.int c.num) := ev_fld ho h T.k_Charge T.n_Charge_number lk_here
theorem ch_day : Ev (tFld K ta "day") σ H (.int c.day) := ev_fld ho h T.k_Charge T.n_Charge_day ((lk_past (by decide)).trans lk_here)
theorem ch_owner : Ev (tFld K ta "owner") σ H (.int c.owner) := ev_fld ho h T.k_Charge T.n_Charge_owner ((lk_past (by decide)).trans ((lk_past (by decide)).trans lk_here))
theorem ch_base : Ev (tFld K ta "base") σ H (.int c.base) := ev_fld ho h T.k_Charge T.n_Charge_base ((lk_past (by decide)).trans ((lk_past (by decide)).trans ((lk_past (by decide)).trans lk_here)))
theorem ch_late : Ev (tFld K ta "late") σ H (.int c.late) := ev_fld ho h T.k_Charge T.n_Charge_late ((lk_past (by decide)).trans ((lk_past (by decide)).trans ((lk_past (by decide)).trans ((lk_past (by decide)).trans lk_here))))
theorem ch_shared : Ev (tFld K ta "shared") σ H (.bl c.shared) := ev_fld ho h T.k_Charge T.n_Charge_shared ((lk_past (by decide)).trans ((lk_past (by decide)).trans ((lk_past (by decide)).trans ((lk_past (by decide)).trans ((lk_past (by decide)).trans lk_here)))))
theorem ch_surcharge : Ev (tFld K ta "surcharge") σ H (.int c.extra) := ev_fld ho h T.k_Charge T.n_Charge_surcharge ((lk_past (by decide)).trans ((lk_past (by decide)).trans ((lk_past (by decide)).trans ((lk_past (by decide)).trans ((lk_past (by decide)).trans ((lk_past (by decide)).trans lk_here))))))
theorem ch_paid : Ev (tFld K ta "paid") σ H (.int c.paid) := ev_fld ho h T.k_Charge T.n_Charge_paid ((lk_past (by decide)).trans ((lk_past (by decide)).trans ((lk_past (by decide)).trans ((lk_past (by decide)).trans ((lk_past (by decide)).trans ((lk_past (by decide)).trans ((lk_past (by decide)).trans lk_here)))))))
theorem ch_state : Ev (tFld K ta "state") σ H (.int c.state) := ev_fld ho h T.k_Charge T.n_Charge_state ((lk_past (by decide)).trans ((lk_past (by decide)).trans ((lk_past (by decide)).trans ((lk_past (by decide)).trans ((lk_past (by decide)).trans ((lk_past (by decide)).trans ((lk_past (by decide)).trans ((lk_past (by decide)).trans lk_here))))))))
end
section
variable (T : Tx K mg) (h : BkAt K B H b) (ho : Ev ta σ H (.ref B.R))
include T h ho
theorem bk_accounts : Ev (tFld K ta "accounts") σ H (.ref B.la) := by
  obtain ⟨lh, h1, _⟩ := h.obj
  exact ev_fld ho h1 T.k_Books T.n_Books_accounts lk_here
theorem bk_credit : Ev (tFld K ta "credit") σ H (.ref B.lc) := by
  obtain ⟨lh, h1, _⟩ := h.obj
  exact ev_fld ho h1 T.k_Books T.n_Books_credit ((lk_past (by decide)).trans lk_here)
theorem bk_sources : Ev (tFld K ta "sources") σ H (.ref B.lo) := by
  obtain ⟨lh, h1, _⟩ := h.obj
  exact ev_fld ho h1 T.k_Books T.n_Books_sources ((lk_past (by decide)).trans ((lk_past (by decide)).trans lk_here))
theorem bk_charges : Ev (tFld K ta "charges") σ H (.ref B.dc) := by
  obtain ⟨lh, h1, _⟩ := h.obj
  exact ev_fld ho h1 T.k_Books T.n_Books_charges ((lk_past (by decide)).trans ((lk_past (by decide)).trans ((lk_past (by decide)).trans lk_here)))
theorem bk_came : Ev (tFld K ta "came_in") σ H (.int b.income) := by
  obtain ⟨lh, h1, _⟩ := h.obj
  exact ev_fld ho h1 T.k_Books T.n_Books_came_in ((lk_past (by decide)).trans ((lk_past (by decide)).trans ((lk_past (by decide)).trans ((lk_past (by decide)).trans ((lk_past (by decide)).trans lk_here)))))
theorem bk_given : Ev (tFld K ta "given_back") σ H (.int b.out) := by
  obtain ⟨lh, h1, _⟩ := h.obj
  exact ev_fld ho h1 T.k_Books T.n_Books_given_back ((lk_past (by decide)).trans ((lk_past (by decide)).trans ((lk_past (by decide)).trans ((lk_past (by decide)).trans ((lk_past (by decide)).trans ((lk_past (by decide)).trans lk_here))))))
end
theorem bk_handed (T : Tx K mg) {lh : Addr} {inc : Int} {out : Nat} (h1 : H B.R = some (bkO K B lh inc out)) (ho : Ev ta σ H (.ref B.R)) : Ev (tFld K ta "handed") σ H (.ref lh) :=
  ev_fld ho h1 T.k_Books T.n_Books_handed ((lk_past (by decide)).trans ((lk_past (by decide)).trans ((lk_past (by decide)).trans ((lk_past (by decide)).trans lk_here))))
/-- a field of a charge stored -/
theorem put_paid {n : Nat} : putF "paid" (.int (n : Int)) (chNames.zip (chV c)) = chNames.zip (chV { c with paid := n }) := by
  unfold chNames chV
  simp only [List.zip_cons_cons]
  iterate 7 rw [putF_past (by decide)]
  rw [putF_here]
theorem put_state {n : Nat} : putF "state" (.int (n : Int)) (chNames.zip (chV c)) = chNames.zip (chV { c with state := n }) := by
  unfold chNames chV
  simp only [List.zip_cons_cons]
  iterate 8 rw [putF_past (by decide)]
  rw [putF_here]
theorem put_extra {n : Nat} : putF "surcharge" (.int (n : Int)) (chNames.zip (chV c)) = chNames.zip (chV { c with extra := n }) := by
  unfold chNames chV
  simp only [List.zip_cons_cons]
  iterate 6 rw [putF_past (by decide)]
  rw [putF_here]
theorem put_came {lh : Addr} {inc i : Int} {out : Nat} : putF "came_in" (.int i) (bkNames.zip (bkV B lh inc out)) = bkNames.zip (bkV B lh i out) := by
  unfold bkNames bkV
  simp only [List.zip_cons_cons]
  iterate 5 rw [putF_past (by decide)]
  rw [putF_here]
theorem put_given {lh : Addr} {inc : Int} {out n : Nat} : putF "given_back" (.int (n : Int)) (bkNames.zip (bkV B lh inc out)) = bkNames.zip (bkV B lh inc n) := by
  unfold bkNames bkV
  simp only [List.zip_cons_cons]
  iterate 6 rw [putF_past (by decide)]
  rw [putF_here]
theorem put_handed {lh l2 : Addr} {inc : Int} {out : Nat} : putF "handed" (.ref l2) (bkNames.zip (bkV B lh inc out)) = bkNames.zip (bkV B l2 inc out) := by
  unfold bkNames bkV
  simp only [List.zip_cons_cons]
  iterate 4 rw [putF_past (by decide)]
  rw [putF_here]
/-! comprehensions with a test -/
theorem given_filter {α : Type} {l : List α} {keep : α → Bool} {h : α → V} {f : Nat → Bool} {v : Nat → V} (hf : ∀ i x, l[i]? = some x → f i = keep x) (hv : ∀ i x, l[i]? = some x → v i = h x) : given l.length f v = (l.filter keep).map h := by
  have key : ∀ n, n ≤ l.length → given n f v = ((l.take n).filter keep).map h := by
    intro n
    induction n with
    | zero => exact fun _ => rfl
    | succ n ih =>
      intro hn
      have hx : l[n]? = some l[n] := List.getElem?_eq_getElem (by omega)
      rw [take_one hx, List.filter_append, List.map_append, ← ih (by omega)]
      cases k : keep l[n] with
      | true =>
        rw [given_yes ((hf _ _ hx).trans k), hv _ _ hx, List.filter_cons_of_pos k]
        rfl
      | false =>
        rw [given_no ((hf _ _ hx).trans k), List.filter_cons_of_neg (by rw [k]; decide)]
        exact (List.append_nil _).symm
  have e := key l.length (Nat.le_refl _)
  rw [List.take_length] at e
  exact e
theorem el_filt {α : Type} {wi : TI} {j : Nat} {vs : List Nat} {it : Nat → V → Prop} {l : List α} (g h : α → V) (keep : α → Bool) (hi : EvI wi σ H l.length it) (hg : ∀ i x, it i x → (l.map g)[i]? = some x) (hz : l.length ≤ 40000) (hw : ∀ x, wipe ((wipe σ vs).set j (some x)) vs = wipe σ vs)
    (ht : ∀ (a : α) H1, Ex H H1 → a ∈ l → EvT t ((wipe σ vs).set j (some (g a))) H1 (keep a)) (he : ∀ (a : α) H1, Ex H H1 → a ∈ l → keep a = true → Ev te ((wipe σ vs).set j (some (g a))) H1 (h a)) : EvL (tLc wi (gName j) t te vs) σ H ((l.filter keep).map h) := by
  have key := el_it (t := t) (te := te) (j := j) (vs := vs) (fun i => ((l[i]?).map keep).getD false) (fun i => ((l[i]?).map h).getD .non) hi hz hw (fun i x H1 e hi y => by
    obtain ⟨a, ha, rfl⟩ := map_at (hg i x y)
    rw [ha]
    exact ht a H1 e (List.mem_of_getElem? ha)) (fun i x H1 e hi y hf => by
    obtain ⟨a, ha, rfl⟩ := map_at (hg i x y)
    rw [ha] at hf ⊢
    exact he a H1 e (List.mem_of_getElem? ha) hf)
  rw [given_filter (l := l) (keep := keep) (h := h) (fun i x hx => by rw [hx]; rfl) (fun i x hx => by rw [hx]; rfl)] at key
  exact key
/-- over a dict's values, locked -/
theorem el_valsF {α : Type} {j : Nat} {vs : List Nat} {d : Addr} {kvs : List (Key × V)} {l : List α} (g h : α → V) (keep : α → Bool) (hd : H d = some (.dK kvs)) (hk : kvs.map Prod.snd = l.map g) (htd : ∀ HL, ExB d H HL → Ev td σ HL (.ref d)) (hz : l.length ≤ 40000) (hw : ∀ x, wipe ((wipe σ vs).set j (some x)) vs = wipe σ vs)
    (ht : ∀ (a : α) HL, ExB d H HL → a ∈ l → EvT t ((wipe σ vs).set j (some (g a))) HL (keep a)) (he : ∀ (a : α) HL, ExB d H HL → a ∈ l → keep a = true → Ev te ((wipe σ vs).set j (some (g a))) HL (h a)) : EvL (tLockE (tLc (iVals td) (gName j) t te vs)) σ H ((l.filter keep).map h) :=
  el_lock hd fun od HL hL eL => by
    have hl : kvs.length = l.length := by rw [← List.length_map (f := Prod.snd), hk, List.length_map]
    have i := ei_vals (htd HL eL) hL
    rw [hl] at i
    exact el_filt g h keep i (fun i x y => by rw [← hk]; exact y) hz hw (fun a H1 e => ht a H1 fun b o n z => e _ _ (eL b o n z)) fun a H1 e => he a H1 fun b o n z => e _ _ (eL b o n z)
theorem el_valsM {α : Type} {j : Nat} {vs : List Nat} {d : Addr} {kvs : List (Key × V)} {l : List α} (g h : α → V) (hd : H d = some (.dK kvs)) (hk : kvs.map Prod.snd = l.map g) (htd : ∀ HL, ExB d H HL → Ev td σ HL (.ref d)) (hz : l.length ≤ 40000) (hw : ∀ x, wipe ((wipe σ vs).set j (some x)) vs = wipe σ vs)
    (he : ∀ (a : α) HL, ExB d H HL → a ∈ l → Ev te ((wipe σ vs).set j (some (g a))) HL (h a)) : EvL (tLockE (tLc (iVals td) (gName j) tYes te vs)) σ H (l.map h) := by
  have key := el_valsF (t := tYes) (te := te) (td := td) (j := j) (vs := vs) g h (fun _ => true) hd hk htd hz hw (fun _ _ _ _ => et_yes) fun a HL e m _ => he a HL e m
  rw [List.filter_eq_self.mpr fun _ _ => rfl] at key
  exact key
/-! ### books.py -/
theorem chTab_snd : ∀ {ns : List Nat} {as : List Addr}, ns.length = as.length → (chTab ns as).map Prod.snd = as.map V.ref
  | [], [], _ => rfl
  | [], _ :: _, h => nomatch h
  | _ :: _, [], h => nomatch h
  | n :: ns, a :: as, h => congrArg (V.ref a :: ·) (chTab_snd (by simpa using h))
/-- the charges with their places -/
def prs (b : Vbptai.Books) (B : BkA) : List (Vbptai.Charge × Addr × Addr) := b.charges.zip B.cs
def refP (q : Vbptai.Charge × Addr × Addr) : V := .ref q.2.1
theorem map_snd_zip {α β γ : Type} {f : β → γ} : ∀ {l : List α} {m : List β}, l.length = m.length → (l.zip m).map (fun q => f q.2) = m.map f
  | [], [], _ => rfl
  | [], _ :: _, h => nomatch h
  | _ :: _, [], h => nomatch h
  | a :: l, b :: m, h => congrArg _ (map_snd_zip (by simpa using h))
theorem map_fst_zip {α β γ : Type} {f : α → γ} : ∀ {l : List α} {m : List β}, l.length = m.length → (l.zip m).map (fun q => f q.1) = l.map f
  | [], [], _ => rfl
  | [], _ :: _, h => nomatch h
  | _ :: _, [], h => nomatch h
  | a :: l, b :: m, h => congrArg _ (map_fst_zip (by simpa using h))
theorem BkAt.vals (h : BkAt K B H b) : (chTab (b.charges.map (·.num)) B.as).map Prod.snd = (prs b B).map refP := by
  have hl := h.len
  rw [chTab_snd (by rw [List.length_map, hl]; unfold BkA.as; rw [List.length_map])]
  unfold prs refP BkA.as
  rw [List.map_map, map_snd_zip (f := fun q : Addr × Addr => V.ref q.1) hl]
  rfl
theorem BkAt.prs_len (h : BkAt K B H b) : (prs b B).length = b.charges.length := by
  unfold prs
  rw [List.length_zip, ← h.len, Nat.min_self]
/-- books at a heap where the dict of charges is locked -/
theorem BkAt.chL (h : BkAt K B H b) {HL : Hp} (e : ExB B.dc H HL) {q : Vbptai.Charge × Addr × Addr} (hq : q ∈ prs b B) : HL q.2.1 = some (chO K q.2.2 q.1) := by
  have hm := h.mem_as (c := q.1) (a := q.2.1) (dx := q.2.2) hq
  exact e _ _ (Ne.symm (h.apart (by simp [BkA.six]) hm)) (h.ch hq)
theorem BkAt.chargesL (T : Tx K mg) (h : BkAt K B H b) (ho : ∀ HL, Ev ta σ HL (.ref B.R)) {HL : Hp} (e : ExB B.dc H HL) : Ev (tFld K ta "charges") σ HL (.ref B.dc) := by
  obtain ⟨lh, h1, _⟩ := h.obj
  exact ev_fld (ho HL) (e _ _ (h.at6 (i := 1) (j := 5) rfl rfl (by decide)) h1) T.k_Books T.n_Books_charges ((lk_past (by decide)).trans ((lk_past (by decide)).trans ((lk_past (by decide)).trans lk_here)))
abbrev s_rest_of : Stmt := topS 11
abbrev N_rest_of : List Str := ["charge"]
theorem sc_rest_of : FnScope N_rest_of ["charge"] (defScope s_rest_of) := ⟨rfl, rfl, rfl, by decide +kernel, rfl, by decide +kernel, by decide +kernel⟩
def sp_rest_of (K : PySem.W.Frag) : Sp := fun vs H Q _ => ∃ (a dx : Addr) (c : Vbptai.Charge), vs = [.ref a] ∧ H a = some (chO K dx c) ∧ ∀ H2, Ex H H2 → Q (.int ((c.base : Int) + c.extra - c.paid)) H2
theorem ok_rest_of (T : Tx K mg) : Own P w K mg base CX0 1 "rest_of" ["charge"] (sp_rest_of K) := by
  refine own_mk T.d_rest_of T.g_rest_of (fun _ _ _ _ _ _ us hl => match us, hl with | [_], _ => rfl) fun fd F => ?_
  refine F.ok sc_rest_of (fun vs H Q E h => by obtain ⟨a, dx, c, rfl, _⟩ := h; rfl) (fun cdv A outer s H vs Q E hr h => ⟨_, PSs.nox
    (pss_one (ps_ret (pe_op op_sub (pe_op op_add (pe_fld (pv 0) rfl) (pe_fld (pv 0) rfl)) (pe_fld (pv 0) rfl)))), ?_⟩)
  obtain ⟨a, dx, c, rfl, hc, k⟩ := h
  exact s_ret (ev_op (ev_op (ch_base T hc (ev_var rfl)) (ch_surcharge T hc (ev_var rfl)) rv_I0) (ch_paid T hc (ev_var rfl)) rv_I0) k
theorem spV_rest (hc : H a = some (chO K dx c)) : SpV (sp_rest_of K) [.ref a] H (.int ((c.base : Int) + c.extra - c.paid)) := fun H1 e Q q E => ⟨a, dx, c, rfl, e _ _ hc, fun H2 e2 => q H2 e2⟩
abbrev s_open_charges : Stmt := topS 12
abbrev N_open_charges : List Str := ["books", "charge"]
theorem sc_open_charges : FnScope N_open_charges ["books"] (defScope s_open_charges) := ⟨rfl, rfl, rfl, by decide +kernel, rfl, by decide +kernel, by decide +kernel⟩
def isOpen (c : Vbptai.Charge) : Bool := decide (c.state = 0)
def openP (b : Vbptai.Books) (B : BkA) : List (Vbptai.Charge × Addr × Addr) := (prs b B).filter fun q => isOpen q.1
def sp_open_charges (K : PySem.W.Frag) : Sp := fun vs H Q _ => ∃ (B : BkA) (b : Vbptai.Books), vs = [.ref B.R] ∧ BkAt K B H b ∧ b.charges.length ≤ 1000 ∧ RetL ((openP b B).map refP) H Q
theorem dec_nat (n m : Nat) : decide (V.int (n : Int) = V.int (m : Int)) = decide (n = m) := by
  by_cases h : n = m
  · rw [h, decide_eq_true rfl, decide_eq_true rfl]
  · rw [decide_eq_false h, decide_eq_false (fun q => h (Int.ofNat_inj.mp (V.int.inj q)))]
theorem rv_eqN {n m : Nat} : RV rEq (.int (n : Int)) (.int (m : Int)) H (.bl (decide (n = m))) := by
  rw [← dec_nat]
  exact rv_eq rfl
theorem ok_open_charges (T : Tx K mg) : Own P w K mg base CX0 1 "open_charges" ["books"] (sp_open_charges K) := by
  refine own_mk T.d_open_charges T.g_open_charges (fun _ _ _ _ _ _ us hl => match us, hl with | [_], _ => rfl) fun fd F => ?_
  refine F.ok sc_open_charges (fun vs H Q E h => by obtain ⟨B, b, rfl, _⟩ := h; rfl) (fun cdv A outer s H vs Q E hr h => ⟨_, PSs.nox
    (pss_one (ps_ret (pe_lock (pe_lc (own := [("charge", 1)]) (g := gName 1) rfl sc_open_charges.nd (pi_values (pe_fld (pv 0) rfl)) (blkOk_by (N := N_open_charges) (sc := defScope s_open_charges) (by decide +kernel)) (fun _ _ _ _ _ => by exact (pg_name (i := 1) sc_open_charges.nd rfl (Or.inl rfl))) (fun _ _ _ _ _ => by exact (pts_one (pt_cmpR op_eq (pe_fldK (K := K) rfl (pv 1) (by rfl)) (pe_cint T.c_OPEN) (nomark _)))) (fun _ _ _ _ _ => by exact (pv 1)))))), ?_⟩)
  obtain ⟨B, b, rfl, hB, hz, k⟩ := h
  refine s_retL (el_valsF refP refP (fun q => isOpen q.1) hB.dc hB.vals (fun HL e => hB.chargesL T (fun HL => ev_var rfl) e) (by rw [hB.prs_len]; omega) (fun _ => rfl) (fun q HL e hq => ?_) (fun q HL e hq _ => ev_var rfl)) k
  exact et_test (ev_op (ch_state T (hB.chL e hq) (ev_var rfl)) ev_c (rv_eqN (m := 0)))
theorem spL_open (hB : BkAt K B H b) (hz : b.charges.length ≤ 1000) : SpL (sp_open_charges K) [.ref B.R] H ((openP b B).map refP) := fun H1 e Q q E => ⟨B, b, rfl, hB.stay e, hz, q⟩
abbrev s_open_charges_of : Stmt := topS 13
abbrev N_open_charges_of : List Str := ["books", "owner", "charge"]
theorem sc_open_charges_of : FnScope N_open_charges_of ["books", "owner"] (defScope s_open_charges_of) := ⟨rfl, rfl, rfl, by decide +kernel, rfl, by decide +kernel, by decide +kernel⟩
def ownP (b : Vbptai.Books) (B : BkA) (o : Nat) : List (Vbptai.Charge × Addr × Addr) := (openP b B).filter fun q => decide (q.1.owner = o)
def sp_open_charges_of (K : PySem.W.Frag) : Sp := fun vs H Q _ => ∃ (B : BkA) (b : Vbptai.Books) (o : Nat), vs = [.ref B.R, .int o] ∧ BkAt K B H b ∧ b.charges.length ≤ 1000 ∧ RetL ((ownP b B o).map refP) H Q
theorem ei_new {xs : List V} (h : EvL te σ H xs) : EvI (iList K te) σ H xs.length (fun i x => xs[i]? = some x) := fun H1 e R q =>
  h H1 e _ fun p H2 _ e2 h2 => ⟨p, rfl, ⟨xs, sq_of h2⟩, q _ H2 _ e2 walk_list fun H3 e3 => sq_of (e3 _ _ h2)⟩
theorem ok_open_charges_of (T : Tx K mg) : Own P w K mg base CX0 2 "open_charges_of" ["books", "owner"] (sp_open_charges_of K) := by
  refine own_mk T.d_open_charges_of T.g_open_charges_of (fun _ _ _ _ _ _ us hl => match us, hl with | [_, _], _ => rfl) fun fd F => ?_
  refine F.ok sc_open_charges_of (fun vs H Q E h => by obtain ⟨B, b, o, rfl, _⟩ := h; rfl) (fun cdv A outer s H vs Q E hr h => ⟨_, PSs.nox
    (pss_one (ps_ret (pe_lc (own := [("charge", 2)]) (g := gName 2) rfl sc_open_charges_of.nd (pi_list (pe_own (ok_open_charges T) hr (by decide) pass0 (pa_cons (pv 0) pa_nil))) (blkOk_by (N := N_open_charges_of) (sc := defScope s_open_charges_of) (by decide +kernel)) (fun _ _ _ _ _ => by exact (pg_name (i := 2) sc_open_charges_of.nd rfl (Or.inl rfl))) (fun _ _ _ _ _ => by exact (pts_one (pt_cmpR op_eq (pe_fldK (K := K) rfl (pv 2) (by rfl)) (pv 1) (nomark _)))) (fun _ _ _ _ _ => by exact (pv 2))))), ?_⟩)
  obtain ⟨B, b, o, rfl, hB, hz, k⟩ := h
  have i := ei_new (K := K) (el_call (E := E0) (ea_cons (ev_var (i := 0) (σ := [some (.ref B.R), some (.int o), none]) rfl) ea_nil) (spL_open hB hz))
  rw [List.length_map] at i
  refine s_retL (el_filt refP refP (fun q => decide (q.1.owner = o)) i (fun i x y => y) (Nat.le_trans (List.length_filter_le ..) (by rw [hB.prs_len]; omega)) (fun _ => rfl) (fun q HL e hq => ?_) (fun q HL e hq _ => ev_var rfl)) k
  exact et_test (ev_op (ch_owner T (e _ _ (hB.ch ((List.mem_filter.mp hq).1))) (ev_var rfl)) (ev_var rfl) rv_eqN)
abbrev s_kept : Stmt := topS 14
abbrev N_kept : List Str := ["books", "charge"]
theorem sc_kept : FnScope N_kept ["books"] (defScope s_kept) := ⟨rfl, rfl, rfl, by decide +kernel, rfl, by decide +kernel, by decide +kernel⟩
def paidSum (l : List Vbptai.Charge) : Int := (l.map fun c => (c.paid : Int)).sum
def natSum (l : List Nat) : Int := (l.map fun (x : Nat) => (x : Int)).sum
def sp_kept (K : PySem.W.Frag) : Sp := fun vs H Q _ => ∃ (B : BkA) (b : Vbptai.Books), vs = [.ref B.R] ∧ BkAt K B H b ∧ b.charges.length ≤ 1000 ∧ ∀ H2, Ex H H2 → Q (.int (paidSum b.charges - natSum b.handed)) H2
theorem natV_eq (l : List Nat) : natV l = (l.map fun (x : Nat) => (x : Int)).map V.int := by
  unfold natV
  rw [List.map_map]
  rfl
theorem ev_sumN {ns : List Int} (h : EvL te σ H (ns.map V.int)) : Ev (tCB (rSum K) (tCons te tNil)) σ H (.int ns.sum) := fun H1 e Q q => h H1 e _ fun p H2 _ e2 h2 => ⟨p, ns, rfl, sq_of h2, q H2 e2⟩
theorem ev_handedSum (T : Tx K mg) (h : BkAt K B H b) (ho : Ev ta σ H (.ref B.R)) : Ev (tCB (rSum K) (tCons (tFld K ta "handed") tNil)) σ H (.int (natSum b.handed)) := by
  obtain ⟨lh, h1, h2⟩ := h.obj
  exact ev_sumL (bk_handed T h1 ho) (sq_of (by rw [← natV_eq]; exact (hid_of h2).2))
theorem ok_kept (T : Tx K mg) : Own P w K mg base CX0 1 "kept" ["books"] (sp_kept K) := by
  refine own_mk T.d_kept T.g_kept (fun _ _ _ _ _ _ us hl => match us, hl with | [_], _ => rfl) fun fd F => ?_
  refine F.ok sc_kept (fun vs H Q E h => by obtain ⟨B, b, rfl, _⟩ := h; rfl) (fun cdv A outer s H vs Q E hr h => ⟨_, PSs.nox
    (pss_one (ps_ret (pe_op op_sub (pe_callB (cr_sum rfl) (by rfl) T.b_sum (by decide +kernel) (pa_cons (pe_lock (pe_lc (own := [("charge", 1)]) (g := gName 1) (tt := tYes) rfl sc_kept.nd (pi_values (pe_fld (pv 0) rfl)) (blkOk_by (N := N_kept) (sc := defScope s_kept) (by decide +kernel)) (fun _ _ _ _ _ => by exact (pg_name (i := 1) sc_kept.nd rfl (Or.inl rfl))) (fun _ _ _ _ _ => by exact pts_nil) (fun _ _ _ _ _ => by exact (pe_fldK (K := K) rfl (pv 1) (by rfl))))) pa_nil)) (pe_callB (cr_sum rfl) (by rfl) T.b_sum (by decide +kernel) (pa_cons (pe_fld (pv 0) rfl) pa_nil))))), ?_⟩)
  obtain ⟨B, b, rfl, hB, hz, k⟩ := h
  have l := el_valsM (td := tFld K (tVar 0) "charges") (te := tFld K (tVar 1) "paid") (σ := [some (.ref B.R), none]) (j := 1) (vs := [1]) refP (fun q => V.int (q.1.paid : Int)) hB.dc hB.vals (fun HL e => hB.chargesL T (fun HL => ev_var rfl) e) (by rw [hB.prs_len]; omega) (fun _ => rfl) (fun q HL e hq => ch_paid T (hB.chL e hq) (ev_var rfl))
  have e1 : (prs b B).map (fun q => V.int (q.1.paid : Int)) = (b.charges.map fun c => (c.paid : Int)).map V.int := by
    unfold prs
    rw [map_fst_zip (f := fun c : Vbptai.Charge => V.int (c.paid : Int)) hB.len, List.map_map]
    rfl
  rw [e1] at l
  exact s_ret (ev_op (ev_sumN l) (ev_handedSum T hB (ev_var rfl)) rv_I0) k
abbrev s_pot_of : Stmt := topS 15
abbrev N_pot_of : List Str := ["books", "charge"]
theorem sc_pot_of : FnScope N_pot_of ["books"] (defScope s_pot_of) := ⟨rfl, rfl, rfl, by decide +kernel, rfl, by decide +kernel, by decide +kernel⟩
def potM (b : Vbptai.Books) : Int := paidSum (b.charges.filter fun c => c.shared) - natSum b.handed
def sp_pot_of (K : PySem.W.Frag) : Sp := fun vs H Q _ => ∃ (B : BkA) (b : Vbptai.Books), vs = [.ref B.R] ∧ BkAt K B H b ∧ b.charges.length ≤ 1000 ∧ ∀ H2, Ex H H2 → Q (.int (potM b)) H2
theorem filter_zip {α β : Type} {p : α → Bool} {γ : Type} {f : α → γ} : ∀ {l : List α} {m : List β}, l.length = m.length → ((l.zip m).filter fun q => p q.1).map (fun q => f q.1) = (l.filter p).map f
  | [], [], _ => rfl
  | [], _ :: _, h => nomatch h
  | _ :: _, [], h => nomatch h
  | a :: l, b :: m, h => by
    have ih := filter_zip (p := p) (f := f) (l := l) (m := m) (by simpa using h)
    rw [List.zip_cons_cons]
    cases q : p a with
    | true => rw [List.filter_cons_of_pos (by exact q), List.filter_cons_of_pos q, List.map_cons, List.map_cons, ih]
    | false => rw [List.filter_cons_of_neg (by rw [q]; decide), List.filter_cons_of_neg (by rw [q]; decide), ih]
theorem ok_pot_of (T : Tx K mg) : Own P w K mg base CX0 1 "pot_of" ["books"] (sp_pot_of K) := by
  refine own_mk T.d_pot_of T.g_pot_of (fun _ _ _ _ _ _ us hl => match us, hl with | [_], _ => rfl) fun fd F => ?_
  refine F.ok sc_pot_of (fun vs H Q E h => by obtain ⟨B, b, rfl, _⟩ := h; rfl) (fun cdv A outer s H vs Q E hr h => ⟨_, PSs.nox
    (pss_one (ps_ret (pe_op op_sub (pe_callB (cr_sum rfl) (by rfl) T.b_sum (by decide +kernel) (pa_cons (pe_lock (pe_lc (own := [("charge", 1)]) (g := gName 1) rfl sc_pot_of.nd (pi_values (pe_fld (pv 0) rfl)) (blkOk_by (N := N_pot_of) (sc := defScope s_pot_of) (by decide +kernel)) (fun _ _ _ _ _ => by exact (pg_name (i := 1) sc_pot_of.nd rfl (Or.inl rfl))) (fun _ _ _ _ _ => by exact (pts_one (pt_val (pe_fldK (K := K) rfl (pv 1) (by rfl))))) (fun _ _ _ _ _ => by exact (pe_fldK (K := K) rfl (pv 1) (by rfl))))) pa_nil)) (pe_callB (cr_sum rfl) (by rfl) T.b_sum (by decide +kernel) (pa_cons (pe_fld (pv 0) rfl) pa_nil))))), ?_⟩)
  obtain ⟨B, b, rfl, hB, hz, k⟩ := h
  have l := el_valsF (t := tB (tFld K (tVar 1) "shared")) (td := tFld K (tVar 0) "charges") (te := tFld K (tVar 1) "paid") (σ := [some (.ref B.R), none]) (j := 1) (vs := [1]) refP (fun q => V.int (q.1.paid : Int)) (fun q => q.1.shared) hB.dc hB.vals (fun HL e => hB.chargesL T (fun HL => ev_var rfl) e) (by rw [hB.prs_len]; omega) (fun _ => rfl) (fun q HL e hq => et_B (ch_shared T (hB.chL e hq) (ev_var rfl))) (fun q HL e hq _ => ch_paid T (hB.chL e hq) (ev_var rfl))
  have e1 : ((prs b B).filter fun q => q.1.shared).map (fun q => V.int (q.1.paid : Int)) = ((b.charges.filter fun c => c.shared).map fun c => (c.paid : Int)).map V.int := by
    unfold prs
    rw [filter_zip (p := fun c : Vbptai.Charge => c.shared) (f := fun c : Vbptai.Charge => V.int (c.paid : Int)) hB.len, List.map_map]
    rfl
  rw [e1] at l
  exact s_ret (ev_op (ev_sumN l) (ev_handedSum T hB (ev_var rfl)) rv_I0) k
end
end FB
-- B3
set_option Elab.async false
set_option linter.all false
set_option maxRecDepth 100000
set_option maxHeartbeats 3900000
namespace FB
open PySem PySem.Spec PyProof.Rows L2 Evl
open LamX NdefX
/-! ### what the books keep to -/
structure WfB (b : Vbptai.Books) : Prop where
  acc : b.accounts.length = 20
  cre : b.credits.length = 40
  ord : b.orders.length = 40
  ords : ∀ x ∈ b.orders, x ≤ 20
  nums : (b.charges.map (·.num)).Nodup
  own : ∀ c ∈ b.charges, 1 ≤ c.owner ∧ c.owner ≤ 40
  pay : ∀ c ∈ b.charges, c.paid ≤ c.base + c.extra
  few : b.charges.length ≤ 60
  ext : ∀ c ∈ b.charges, c.extra ≤ (c.base * c.late + 99) / 100
  lat : ∀ c ∈ b.charges, c.late ≤ 100
  han : b.handed.length ≤ 10
section
variable {b : Vbptai.Books} {c d : Vbptai.Charge} {l : List Nat} {li : List Int} {o n : Nat}
theorem natV_len : (natV (0 :: l)).length = l.length + 1 := by
  unfold natV
  rw [List.length_map, List.length_cons]
theorem natV_get (h1 : 1 ≤ o) (h2 : o ≤ l.length) : (natV (0 :: l))[o]? = some (.int (Vbptai.nth l o : Nat)) := by
  unfold natV Vbptai.nth
  obtain ⟨o, rfl⟩ : ∃ k, o = k + 1 := ⟨o - 1, by omega⟩
  rw [List.getElem?_map, List.getElem?_cons_succ, List.getElem?_eq_getElem (by omega), Nat.add_sub_cancel, List.getD_eq_getElem?_getD, List.getElem?_eq_getElem (by omega)]
  rfl
theorem natV_set (h1 : 1 ≤ o) : (natV (0 :: l)).set o (.int (n : Nat)) = natV (0 :: l.set (o - 1) n) := by
  unfold natV
  obtain ⟨o, rfl⟩ : ∃ k, o = k + 1 := ⟨o - 1, by omega⟩
  rw [List.map_cons, List.set_cons_succ, Nat.add_sub_cancel, List.map_cons, List.map_set]
theorem acc_get (h1 : 1 ≤ o) (h2 : o ≤ li.length) : (V.int 0 :: li.map V.int)[o]? = some (.int (Vbptai.nthInt li o)) := by
  unfold Vbptai.nthInt
  obtain ⟨o, rfl⟩ : ∃ k, o = k + 1 := ⟨o - 1, by omega⟩
  rw [List.getElem?_cons_succ, List.getElem?_map, List.getElem?_eq_getElem (by omega), Nat.add_sub_cancel, List.getD_eq_getElem?_getD, List.getElem?_eq_getElem (by omega)]
  rfl
theorem acc_set {i : Int} (h1 : 1 ≤ o) : (V.int 0 :: li.map V.int).set o (.int i) = V.int 0 :: (li.set (o - 1) i).map V.int := by
  obtain ⟨o, rfl⟩ : ∃ k, o = k + 1 := ⟨o - 1, by omega⟩
  rw [List.set_cons_succ, Nat.add_sub_cancel, List.map_set]
theorem set_same (l : List Nat) (i : Nat) : l.set i (l.getD i 0) = l := by
  by_cases h : i < l.length
  · rw [List.getD_eq_getElem?_getD, List.getElem?_eq_getElem h]
    exact List.set_getElem_self h
  · exact List.set_eq_of_length_le (by omega)
theorem find_num {l : List Vbptai.Charge} (nd : (l.map (·.num)).Nodup) (hc : c ∈ l) : l.find? (fun x => x.num == c.num) = some c := by
  cases q : l.find? (fun x => x.num == c.num) with
  | none => exact absurd (beq_self_eq_true c.num) (List.find?_eq_none.mp q c hc)
  | some x => rw [nodup_inj nd x (List.mem_of_find?_eq_some q) c hc (by have z := List.find?_some q; simpa using z)]
theorem setCh_self {l : List Vbptai.Charge} (nd : (l.map (·.num)).Nodup) (hc : c ∈ l) : setCh l c.num c = l := by
  unfold setCh
  refine (List.map_congr_left fun x hx => ?_).trans (List.map_id _)
  show (if x.num = c.num then c else x) = id x
  split
  · rename_i h
    rw [nodup_inj nd x hx c hc h]
    rfl
  · rfl
theorem mem_setCh {l : List Vbptai.Charge} {k : Nat} {x : Vbptai.Charge} (h : x ∈ setCh l k d) : x = d ∨ x ∈ l := by
  obtain ⟨y, hy, rfl⟩ := List.mem_map.mp h
  split
  · exact .inl rfl
  · exact .inr hy
/-! the steps of settling -/
def pay1 (b : Vbptai.Books) (c : Vbptai.Charge) (n : Nat) : Vbptai.Books := { b with credits := b.credits.set (c.owner - 1) (Vbptai.nth b.credits c.owner - n), charges := setCh b.charges c.num { c with paid := c.paid + n } }
def pay2 (b : Vbptai.Books) (c : Vbptai.Charge) (n : Nat) : Vbptai.Books := { b with accounts := b.accounts.set (Vbptai.nth b.orders c.owner - 1) (Vbptai.nthInt b.accounts (Vbptai.nth b.orders c.owner) - (n : Int)), charges := setCh b.charges c.num { c with paid := c.paid + n } }
def mark (b : Vbptai.Books) (c : Vbptai.Charge) (n : Nat) : Vbptai.Books := { b with charges := setCh b.charges c.num { c with state := n } }
def useOf (b : Vbptai.Books) (c : Vbptai.Charge) : Nat := min (Vbptai.restOf c) (Vbptai.nth b.credits c.owner)
def goOf (b : Vbptai.Books) (c : Vbptai.Charge) : Bool := Vbptai.nth b.orders c.owner != 0 && (decide (0 < Vbptai.restOf c) && decide ((Vbptai.restOf c : Int) ≤ Vbptai.nthInt b.accounts (Vbptai.nth b.orders c.owner)))
def step2 (b : Vbptai.Books) (c : Vbptai.Charge) : Vbptai.Books := if goOf b c = true then pay2 b c (Vbptai.restOf c) else b
def chg2 (b : Vbptai.Books) (c : Vbptai.Charge) : Vbptai.Charge := if goOf b c = true then { c with paid := c.paid + Vbptai.restOf c } else c
def step3 (b : Vbptai.Books) (c : Vbptai.Charge) : Vbptai.Books := if Vbptai.restOf c = 0 then mark b c 1 else b
theorem settleOne_eq (nd : (b.charges.map (·.num)).Nodup) (hc : c ∈ b.charges) (hs : c.state = 0) : Vbptai.settleOne b c.num = step3 (step2 (pay1 b c (useOf b c)) { c with paid := c.paid + useOf b c }) (chg2 (pay1 b c (useOf b c)) { c with paid := c.paid + useOf b c }) := by
  unfold Vbptai.settleOne
  rw [find_num nd hc]
  dsimp only
  rw [if_neg (fun z => z hs)]
  change (let c1 : Vbptai.Charge := { c with paid := c.paid + useOf b c }
    let b1 : Vbptai.Books := { b with credits := b.credits.set (c.owner - 1) (Vbptai.nth b.credits c.owner - useOf b c) }
    let b2 : Vbptai.Books := if goOf (pay1 b c (useOf b c)) c1 = true then { b1 with accounts := b.accounts.set (Vbptai.nth b.orders c.owner - 1) (Vbptai.nthInt b.accounts (Vbptai.nth b.orders c.owner) - (Vbptai.restOf c1 : Int)) } else b1
    let c2 : Vbptai.Charge := if goOf (pay1 b c (useOf b c)) c1 = true then { c1 with paid := c1.paid + Vbptai.restOf c1 } else c1
    let c3 : Vbptai.Charge := if Vbptai.restOf c2 = 0 then { c2 with state := 1 } else c2
    ({ b2 with charges := setCh b2.charges c.num c3 } : Vbptai.Books)) = _
  unfold step3 step2 chg2
  by_cases h1 : goOf (pay1 b c (useOf b c)) { c with paid := c.paid + useOf b c } = true
  · rw [if_pos h1, if_pos h1]
    dsimp only
    rw [if_pos h1, if_pos h1]
    by_cases h2 : Vbptai.restOf { c with paid := c.paid + useOf b c + Vbptai.restOf { c with paid := c.paid + useOf b c } } = 0
    · rw [if_pos h2, if_pos h2]
      unfold mark pay2 pay1
      dsimp only
      rw [setCh_twice (k := c.num), setCh_twice (k := c.num)] <;> rfl
    · rw [if_neg h2, if_neg h2]
      unfold pay2 pay1
      dsimp only
      rw [setCh_twice (k := c.num)]; rfl
  · rw [if_neg h1, if_neg h1]
    dsimp only
    rw [if_neg h1, if_neg h1]
    by_cases h2 : Vbptai.restOf { c with paid := c.paid + useOf b c } = 0
    · rw [if_pos h2, if_pos h2]
      unfold mark pay1
      dsimp only
      rw [setCh_twice (k := c.num)]; rfl
    · rw [if_neg h2, if_neg h2]
      rfl
/-! what is kept -/
theorem mem_set {l : List Nat} {i x y : Nat} (h : y ∈ l.set i x) : y = x ∨ y ∈ l := (List.mem_or_eq_of_mem_set h).symm
theorem WfB.charge (W : WfB b) (hc : c ∈ b.charges) (hd : d.num = c.num) (ho : d.owner = c.owner) (hp : d.paid ≤ d.base + d.extra) (he : d.extra ≤ (d.base * d.late + 99) / 100) (hl : d.late ≤ 100) : WfB { b with charges := setCh b.charges c.num d } := by
  obtain ⟨w1, w2, w3, w4, w5, w6, w7, w8, w9, wl, wh⟩ := W
  refine ⟨w1, w2, w3, w4, ?_, fun x hx => ?_, fun x hx => ?_, ?_, fun x hx => ?_, fun x hx => ?_, wh⟩
  · show ((setCh b.charges c.num d).map (·.num)).Nodup
    rw [setCh_nums hd]
    exact w5
  · rcases mem_setCh hx with rfl | hx
    · rw [ho]
      exact w6 c hc
    · exact w6 x hx
  · rcases mem_setCh hx with rfl | hx
    · exact hp
    · exact w7 x hx
  · show (setCh b.charges c.num d).length ≤ 60
    unfold setCh
    rw [List.length_map]
    exact w8
  · rcases mem_setCh hx with rfl | hx
    · exact he
    · exact w9 x hx
  · rcases mem_setCh hx with rfl | hx
    · exact hl
    · exact wl x hx
theorem in_setCh {l : List Vbptai.Charge} (hc : c ∈ l) : d ∈ setCh l c.num d := List.mem_map.mpr ⟨c, hc, if_pos rfl⟩
theorem WfB.pay1 (W : WfB b) (hc : c ∈ b.charges) (hn : n ≤ Vbptai.restOf c) : WfB (pay1 b c n) := by
  have h := W.charge (d := { c with paid := c.paid + n }) hc rfl rfl (by
    have := W.pay c hc
    unfold Vbptai.restOf at hn
    show c.paid + n ≤ c.base + c.extra
    omega) (W.ext c hc) (W.lat c hc)
  exact ⟨h.acc, by show (b.credits.set _ _).length = 40; rw [List.length_set]; exact W.cre, h.ord, h.ords, h.nums, h.own, h.pay, h.few, h.ext, h.lat, h.han⟩
theorem WfB.pay2 (W : WfB b) (hc : c ∈ b.charges) (hn : n ≤ Vbptai.restOf c) : WfB (pay2 b c n) := by
  have h := W.charge (d := { c with paid := c.paid + n }) hc rfl rfl (by
    have := W.pay c hc
    unfold Vbptai.restOf at hn
    show c.paid + n ≤ c.base + c.extra
    omega) (W.ext c hc) (W.lat c hc)
  exact ⟨by show (b.accounts.set _ _).length = 20; rw [List.length_set]; exact W.acc, h.cre, h.ord, h.ords, h.nums, h.own, h.pay, h.few, h.ext, h.lat, h.han⟩
theorem WfB.mark (W : WfB b) (hc : c ∈ b.charges) : WfB (mark b c n) := W.charge (d := { c with state := n }) hc rfl rfl (W.pay c hc) (W.ext c hc) (W.lat c hc)
theorem WfB.settleOne (W : WfB b) (k : Nat) : WfB (Vbptai.settleOne b k) := by
  cases q : b.charges.find? (fun c => c.num == k) with
  | none =>
    unfold Vbptai.settleOne
    rw [q]
    exact W
  | some c =>
    have hc := List.mem_of_find?_eq_some q
    have hk : c.num = k := by have z := List.find?_some q; simpa using z
    by_cases hs : c.state = 0
    · rw [← hk, settleOne_eq W.nums hc hs]
      have W1 := W.pay1 (n := useOf b c) hc (Nat.min_le_left ..)
      have m1 : ({ c with paid := c.paid + useOf b c } : Vbptai.Charge) ∈ (FB.pay1 b c (useOf b c)).charges := in_setCh hc
      unfold step3 step2 chg2
      by_cases h1 : goOf (FB.pay1 b c (useOf b c)) { c with paid := c.paid + useOf b c } = true
      · rw [if_pos h1, if_pos h1]
        have W2 := W1.pay2 (n := Vbptai.restOf { c with paid := c.paid + useOf b c }) m1 (Nat.le_refl _)
        split
        · exact W2.mark (in_setCh m1)
        · exact W2
      · rw [if_neg h1, if_neg h1]
        split
        · exact W1.mark m1
        · exact W1
    · unfold Vbptai.settleOne
      rw [q]
      dsimp only
      rw [if_pos hs]
      exact W
/-! only one charge changes -/
def Only (f : Vbptai.Books → Nat → Vbptai.Books) : Prop := ∀ b j, WfB b → (f b j).charges = b.charges ∨ ∃ d : Vbptai.Charge, d.num = j ∧ (∃ c ∈ b.charges, c.num = j ∧ d.day = c.day) ∧ (f b j).charges = setCh b.charges j d
theorem settle_only : Only Vbptai.settleOne := fun b k W => by
  cases q : b.charges.find? (fun c => c.num == k) with
  | none =>
    unfold Vbptai.settleOne
    rw [q]
    exact .inl rfl
  | some c =>
    have hc := List.mem_of_find?_eq_some q
    have hk : c.num = k := by have z := List.find?_some q; simpa using z
    by_cases hs : c.state = 0
    · right
      rw [← hk, settleOne_eq W.nums hc hs]
      unfold step3 step2 chg2
      by_cases h1 : goOf (FB.pay1 b c (useOf b c)) { c with paid := c.paid + useOf b c } = true
      · rw [if_pos h1, if_pos h1]
        split
        · refine ⟨{ c with paid := c.paid + useOf b c + Vbptai.restOf { c with paid := c.paid + useOf b c }, state := 1 }, rfl, ⟨c, hc, rfl, rfl⟩, ?_⟩
          unfold mark pay2 pay1
          dsimp only
          rw [setCh_twice (k := c.num), setCh_twice (k := c.num)] <;> rfl
        · refine ⟨{ c with paid := c.paid + useOf b c + Vbptai.restOf { c with paid := c.paid + useOf b c } }, rfl, ⟨c, hc, rfl, rfl⟩, ?_⟩
          unfold pay2 pay1
          dsimp only
          rw [setCh_twice (k := c.num)]; rfl
      · rw [if_neg h1, if_neg h1]
        split
        · refine ⟨{ c with paid := c.paid + useOf b c, state := 1 }, rfl, ⟨c, hc, rfl, rfl⟩, ?_⟩
          unfold mark pay1
          dsimp only
          rw [setCh_twice (k := c.num)]; rfl
        · exact ⟨{ c with paid := c.paid + useOf b c }, rfl, ⟨c, hc, rfl, rfl⟩, rfl⟩
    · left
      unfold Vbptai.settleOne
      rw [q]
      dsimp only
      rw [if_pos hs]
theorem setCh_keep {k : Nat} : ∀ {l : List Vbptai.Charge} {cs : List (Addr × Addr)} {q : Addr × Addr}, (c, q) ∈ l.zip cs → c.num ≠ k → (c, q) ∈ (setCh l k d).zip cs
  | [], _, _, h, _ => nomatch h
  | _ :: _, [], _, h, _ => nomatch h
  | x :: l, y :: cs, q, h, hk => by
    obtain e | h := List.mem_cons.mp h
    · cases e
      show (_, y) ∈ ((if _ = k then d else _) :: _).zip _
      rw [if_neg hk]
      exact List.mem_cons_self ..
    · exact List.mem_cons_of_mem _ (setCh_keep h hk)
theorem fold_keep {f : Vbptai.Books → Nat → Vbptai.Books} (hf : Only f) (hw : ∀ b k, WfB b → WfB (f b k)) {cs : List (Addr × Addr)} {q : Addr × Addr} : ∀ {ks : List Nat} {b : Vbptai.Books}, WfB b → (c, q) ∈ b.charges.zip cs → c.num ∉ ks → (c, q) ∈ (ks.foldl f b).charges.zip cs
  | [], _, _, h, _ => h
  | k :: ks, b, W, h, hk => by
    refine fold_keep hf hw (ks := ks) (b := f b k) (hw b k W) ?_ fun z => hk (List.mem_cons_of_mem _ z)
    rcases hf b k W with e | ⟨d, _, _, e⟩
    · rw [e]
      exact h
    · rw [e]
      exact setCh_keep h fun z => hk (by rw [z]; exact List.mem_cons_self ..)
theorem fold_wf {f : Vbptai.Books → Nat → Vbptai.Books} (hw : ∀ b k, WfB b → WfB (f b k)) : ∀ {ks : List Nat} {b : Vbptai.Books}, WfB b → WfB (ks.foldl f b)
  | [], _, W => W
  | k :: ks, b, W => fold_wf hw (ks := ks) (hw b k W)
def openNums (b : Vbptai.Books) : List Nat := (b.charges.filter isOpen).map (·.num)
/-! time -/
def timeC (d : Nat) (c : Vbptai.Charge) : Vbptai.Charge := if d = c.day + 31 then { c with extra := (c.base * c.late + 99) / 100 } else c
def lapsed (b : Vbptai.Books) (c : Vbptai.Charge) : Vbptai.Books := { b with credits := b.credits.set (c.owner - 1) (Vbptai.nth b.credits c.owner + c.paid), charges := setCh b.charges c.num { c with paid := 0, state := 2 } }
def timeOne (d : Nat) (b : Vbptai.Books) (k : Nat) : Vbptai.Books := match b.charges.find? fun c => c.num == k with
  | none => b
  | some c => if d = c.day + 181 then lapsed { b with charges := setCh b.charges c.num (timeC d c) } (timeC d c) else { b with charges := setCh b.charges c.num (timeC d c) }
theorem timeC_num {y : Nat} : (timeC y c).num = c.num := by
  unfold timeC
  split <;> rfl
theorem timeC_owner {y : Nat} : (timeC y c).owner = c.owner := by
  unfold timeC
  split <;> rfl
theorem WfB.timeC (W : WfB b) (hc : c ∈ b.charges) (y : Nat) : WfB { b with charges := setCh b.charges c.num (timeC y c) } := by
  have h1 := W.pay c hc
  have h2 := W.ext c hc
  have h3 := W.lat c hc
  refine W.charge hc timeC_num timeC_owner ?_ ?_ ?_
  · unfold FB.timeC
    split
    · dsimp only
      omega
    · exact h1
  · unfold FB.timeC
    split
    · exact Nat.le_refl _
    · exact h2
  · unfold FB.timeC
    split <;> exact h3
theorem WfB.lapsed (W : WfB b) (hc : c ∈ b.charges) : WfB (lapsed b c) := by
  have h := W.charge (d := { c with paid := 0, state := 2 }) hc rfl rfl (Nat.zero_le _) (W.ext c hc) (W.lat c hc)
  exact ⟨h.acc, by show (b.credits.set _ _).length = 40; rw [List.length_set]; exact W.cre, h.ord, h.ords, h.nums, h.own, h.pay, h.few, h.ext, h.lat, h.han⟩
theorem timeOne_eq {y : Nat} (nd : (b.charges.map (·.num)).Nodup) (hc : c ∈ b.charges) : timeOne y b c.num = if y = c.day + 181 then FB.lapsed { b with charges := setCh b.charges c.num (FB.timeC y c) } (FB.timeC y c) else { b with charges := setCh b.charges c.num (FB.timeC y c) } := by
  unfold timeOne
  rw [find_num nd hc]
theorem in_timeC {y : Nat} (hc : c ∈ b.charges) : FB.timeC y c ∈ setCh b.charges c.num (FB.timeC y c) := in_setCh hc
theorem WfB.timeOne (W : WfB b) (y k : Nat) : WfB (timeOne y b k) := by
  unfold FB.timeOne
  cases q : b.charges.find? (fun c => c.num == k) with
  | none => exact W
  | some c =>
    have hc := List.mem_of_find?_eq_some q
    have W1 := W.timeC hc y
    dsimp only
    split
    · have := W1.lapsed (c := FB.timeC y c) (in_setCh hc)
      exact this
    · exact W1
theorem time_only (y : Nat) : Only (timeOne y) := fun b k W => by
  unfold timeOne
  cases q : b.charges.find? (fun c => c.num == k) with
  | none => exact .inl rfl
  | some c =>
    have hk : c.num = k := by have z := List.find?_some q; simpa using z
    have hc := List.mem_of_find?_eq_some q
    have td : (FB.timeC y c).day = c.day := by
      unfold FB.timeC
      split <;> rfl
    right
    dsimp only
    split
    · refine ⟨{ FB.timeC y c with paid := 0, state := 2 }, timeC_num.trans hk, ⟨c, hc, hk, td⟩, ?_⟩
      unfold FB.lapsed
      dsimp only
      rw [timeC_num, hk, setCh_twice (timeC_num.trans hk)]
    · exact ⟨FB.timeC y c, timeC_num.trans hk, ⟨c, hc, hk, td⟩, by rw [hk]⟩
end
end FB
-- B4
set_option Elab.async false
set_option linter.all false
set_option maxRecDepth 100000
set_option maxHeartbeats 3900000
namespace FB
open PySem PySem.Spec PyProof.Rows L2 Evl
open LamX NdefX
section
variable {K : PySem.W.Frag} {mg : Str → Option Value} {P : Program} {base : Heap} {w : World}
variable {σ : L2.St} {H : Hp} {ta tb tv te td : TE} {t : TT} {D : Ends} {tz tu : TS} {B : BkA} {b : Vbptai.Books} {c d : Vbptai.Charge} {a dx : Addr} {v : V} {n k : Nat}
theorem q_dropC {sp : Sp} {E : XK} {t : TA} {vs : List V} (ht : EvA t σ H vs) (h : ∀ H1, Ex H H1 → sp vs H1 (fun _ H2 => tz D σ H2) E) : tSeq (tDrop (tCall sp [] E t)) tz D σ H := ht H (Ex.refl H) _ fun H1 e1 => by
  rw [List.append_nil]
  exact h H1 e1
theorem s_dropC {sp : Sp} {E : XK} {t : TA} {vs : List V} (ht : EvA t σ H vs) (h : ∀ H1, Ex H H1 → sp vs H1 (fun _ H2 => D.nx σ H2) E) : tDrop (tCall sp [] E t) D σ H := ht H (Ex.refl H) _ fun H1 e1 => by
  rw [List.append_nil]
  exact h H1 e1
theorem q_fldSet {p C : Addr} {fs : List (Str × V)} {f : Str} (hv : Ev tv σ H v) (ho : Ev ta σ H (.ref p)) (hp : H p = some (.ins C dx fs)) (cl : Cls K C) (no : NoAttr K C f) (hl : Nat.blt fs.length 1000 = true) (k : ∀ H1, Ex H H1 → tz D σ (upd H1 p (.ins C dx (putF f v fs)))) : tSeq (sFld K ta tv f) tz D σ H :=
  s_fldSet (D := { D with nx := tz D }) hv ho hp cl no hl k
section
variable (T : Tx K mg) (hc : H a = some (chO K dx c)) (ho : Ev ta σ H (.ref a))
include T hc ho
theorem s_paid (hv : Ev tv σ H (.int (n : Nat))) (k : ∀ H1, Ex H H1 → D.nx σ (upd H1 a (chO K dx { c with paid := n }))) : sFld K ta tv "paid" D σ H := s_fldSet hv ho hc T.k_Charge T.n_Charge_paid rfl fun H1 e => by
  rw [put_paid]
  exact k H1 e
theorem s_state (hv : Ev tv σ H (.int (n : Nat))) (k : ∀ H1, Ex H H1 → D.nx σ (upd H1 a (chO K dx { c with state := n }))) : sFld K ta tv "state" D σ H := s_fldSet hv ho hc T.k_Charge T.n_Charge_state rfl fun H1 e => by
  rw [put_state]
  exact k H1 e
theorem s_extra (hv : Ev tv σ H (.int (n : Nat))) (k : ∀ H1, Ex H H1 → D.nx σ (upd H1 a (chO K dx { c with extra := n }))) : sFld K ta tv "surcharge" D σ H := s_fldSet hv ho hc T.k_Charge T.n_Charge_surcharge rfl fun H1 e => by
  rw [put_extra]
  exact k H1 e
theorem q_paid (hv : Ev tv σ H (.int (n : Nat))) (k : ∀ H1, Ex H H1 → tz D σ (upd H1 a (chO K dx { c with paid := n }))) : tSeq (sFld K ta tv "paid") tz D σ H := s_paid (D := { D with nx := tz D }) T hc ho hv k
end
theorem BkAt.asS (h : BkAt K B H b) (hm : (c, (a, dx)) ∈ b.charges.zip B.cs) : a ∈ B.S := BkA.asS (h.mem_as hm)
/-- books.credit[o], books.accounts[o], books.sources[o] -/
theorem bk_cr (T : Tx K mg) (h : BkAt K B H b) (W : WfB b) (ho : Ev ta σ H (.ref B.R)) (hi : Ev tb σ H (.int (n : Nat))) (h1 : 1 ≤ n) (h2 : n ≤ 40) : Ev (tOp (rIxL K) (tFld K ta "credit") tb) σ H (.int (Vbptai.nth b.credits n : Nat)) := ev_item (bk_credit T h ho) hi (sq_of h.lc) (natV_get h1 (by rw [W.cre]; exact h2))
theorem bk_so (T : Tx K mg) (h : BkAt K B H b) (W : WfB b) (ho : Ev ta σ H (.ref B.R)) (hi : Ev tb σ H (.int (n : Nat))) (h1 : 1 ≤ n) (h2 : n ≤ 40) : Ev (tOp (rIxL K) (tFld K ta "sources") tb) σ H (.int (Vbptai.nth b.orders n : Nat)) := ev_item (bk_sources T h ho) hi (sq_of h.lo) (natV_get h1 (by rw [W.ord]; exact h2))
theorem bk_ac (T : Tx K mg) (h : BkAt K B H b) (W : WfB b) (ho : Ev ta σ H (.ref B.R)) (hi : Ev tb σ H (.int (n : Nat))) (h1 : 1 ≤ n) (h2 : n ≤ 20) : Ev (tOp (rIxL K) (tFld K ta "accounts") tb) σ H (.int (Vbptai.nthInt b.accounts n)) := ev_item (bk_accounts T h ho) hi (sq_of h.la) (acc_get h1 (by rw [W.acc]; exact h2))
/-- .. = e -/
theorem q_cr (T : Tx K mg) (h : BkAt K B H b) (W : WfB b) (ho : Ev ta σ H (.ref B.R)) (hi : Ev tb σ H (.int (n : Nat))) (h1 : 1 ≤ n) (h2 : n ≤ 40) (hv : Ev tv σ H (.int (k : Nat))) (go : ∀ H1, ExS B.S H H1 → BkAt K B H1 { b with credits := b.credits.set (n - 1) k } → tz D σ H1) : tSeq (tAsg tv (gSub (tFld K ta "credit") tb rSetL)) tz D σ H :=
  q_setL h.lc hv (bk_credit T h ho) hi (by rw [natV_len, W.cre]; omega) fun H1 e1 => by
    rw [natV_set h1]
    exact go _ ((ExS.of e1).upd (BkA.sixS (by simp [BkA.six]))) (h.stay e1).putC
theorem q_ac {i : Int} (T : Tx K mg) (h : BkAt K B H b) (W : WfB b) (ho : Ev ta σ H (.ref B.R)) (hi : Ev tb σ H (.int (n : Nat))) (h1 : 1 ≤ n) (h2 : n ≤ 20) (hv : Ev tv σ H (.int i)) (go : ∀ H1, ExS B.S H H1 → BkAt K B H1 { b with accounts := b.accounts.set (n - 1) i } → tz D σ H1) : tSeq (tAsg tv (gSub (tFld K ta "accounts") tb rSetL)) tz D σ H :=
  q_setL h.la hv (bk_accounts T h ho) hi (by rw [List.length_cons, List.length_map, W.acc]; omega) fun H1 e1 => by
    rw [acc_set h1]
    exact go _ ((ExS.of e1).upd (BkA.sixS (by simp [BkA.six]))) (h.stay e1).putA
theorem cast_sub' {x y : Nat} (h : y ≤ x) : V.int ((x : Int) - (y : Int)) = V.int ((x - y : Nat) : Int) := by
  congr 1
  omega
abbrev s_pay_from_credit : Stmt := topS 29
abbrev N_pay_from_credit : List Str := ["books", "charge", "amount"]
theorem sc_pay_from_credit : FnScope N_pay_from_credit ["books", "charge", "amount"] (defScope s_pay_from_credit) := ⟨rfl, rfl, rfl, by decide +kernel, rfl, by decide +kernel, by decide +kernel⟩
def sp_pay1 (K : PySem.W.Frag) : Sp := fun vs H Q _ => ∃ (B : BkA) (b : Vbptai.Books) (c : Vbptai.Charge) (a dx : Addr) (n : Nat), vs = [.ref B.R, .ref a, .int n] ∧ BkAt K B H b ∧ WfB b ∧ (c, (a, dx)) ∈ b.charges.zip B.cs ∧ n ≤ Vbptai.nth b.credits c.owner ∧
  ∀ H2, ExS B.S H H2 → BkAt K B H2 (pay1 b c n) → Q .non H2
theorem ok_pay_from_credit (T : Tx K mg) : Own P w K mg base CX0 1 "pay_from_credit" ["books", "charge", "amount"] (sp_pay1 K) := by
  refine own_mk T.d_pay_from_credit T.g_pay_from_credit (fun _ _ _ _ _ _ us hl => match us, hl with | [_, _, _], _ => rfl) fun fd F => ?_
  refine F.ok sc_pay_from_credit (fun vs H Q E h => by obtain ⟨_, _, _, _, _, _, rfl, _⟩ := h; rfl) (fun cdv A outer s H vs Q E hr h => ⟨_, PSs.nox
    (pss_cons (ps_asg (pe_op op_sub (pe_ix ix_list (pe_fld (pv 0) rfl) (pe_fld (pv 1) rfl) (fun _ _ => rfl)) (pv 2)) (pg_sub (pe_fld (pv 0) rfl) (pe_fld (pv 1) rfl) set_list))
    (pss_one (ps_fld (pv 1) (pe_op op_add (pe_fld (pv 1) rfl) (pv 2)) rfl))), ?_⟩)
  obtain ⟨B, b, c, a, dx, n, rfl, hB, W, hm, hn, k⟩ := h
  obtain ⟨o1, o2⟩ := W.own c (zip_fst hm)
  have hc := hB.ch hm
  refine q_cr T hB W (ev_var rfl) (ch_owner T hc (ev_var rfl)) o1 o2 (ev_is (ev_op (bk_cr T hB W (ev_var rfl) (ch_owner T hc (ev_var rfl)) o1 o2) (ev_var rfl) rv_I0) (cast_sub' hn)) fun H1 e1 h1 => ?_
  have hc1 := h1.ch (c := c) hm
  refine s_paid T hc1 (ev_var rfl) (ev_is (ev_op (ch_paid T hc1 (ev_var rfl)) (ev_var rfl) rv_I0) rfl) fun H2 e2 => ?_
  exact k _ ((e1.trans (ExS.of e2)).upd (hB.asS hm)) ((h1.stay e2).putCh hm W.nums rfl)
abbrev s_pay_from_account : Stmt := topS 30
abbrev N_pay_from_account : List Str := ["books", "charge", "amount", "source"]
theorem sc_pay_from_account : FnScope N_pay_from_account ["books", "charge", "amount"] (defScope s_pay_from_account) := ⟨rfl, rfl, rfl, by decide +kernel, rfl, by decide +kernel, by decide +kernel⟩
def sp_pay2 (K : PySem.W.Frag) : Sp := fun vs H Q _ => ∃ (B : BkA) (b : Vbptai.Books) (c : Vbptai.Charge) (a dx : Addr) (n : Nat), vs = [.ref B.R, .ref a, .int n] ∧ BkAt K B H b ∧ WfB b ∧ (c, (a, dx)) ∈ b.charges.zip B.cs ∧ Vbptai.nth b.orders c.owner ≠ 0 ∧
  ∀ H2, ExS B.S H H2 → BkAt K B H2 (pay2 b c n) → Q .non H2
theorem nth_le {l : List Nat} {m o : Nat} (h : ∀ x ∈ l, x ≤ m) : Vbptai.nth l o ≤ m := by
  unfold Vbptai.nth
  (rw [List.getD_eq_getElem?_getD])
  cases q : l[o - 1]? with
  | none => exact Nat.zero_le _
  | some x => exact h x (List.mem_of_getElem? q)
theorem ok_pay_from_account (T : Tx K mg) : Own P w K mg base CX0 1 "pay_from_account" ["books", "charge", "amount"] (sp_pay2 K) := by
  refine own_mk T.d_pay_from_account T.g_pay_from_account (fun _ _ _ _ _ _ us hl => match us, hl with | [_, _, _], _ => rfl) fun fd F => ?_
  refine F.ok sc_pay_from_account (fun vs H Q E h => by obtain ⟨_, _, _, _, _, _, rfl, _⟩ := h; rfl) (fun cdv A outer s H vs Q E hr h => ⟨_, PSs.nox
    (pss_cons (ps_set (i := 3) sc_pay_from_account.nd rfl (Or.inl rfl) (pe_ix ix_list (pe_fld (pv 0) rfl) (pe_fld (pv 1) rfl) (fun _ _ => rfl)))
    (pss_cons (ps_asg (pe_op op_sub (pe_ix ix_list (pe_fld (pv 0) rfl) (pv 3) (fun _ _ => rfl)) (pv 2)) (pg_sub (pe_fld (pv 0) rfl) (pv 3) set_list))
    (pss_one (ps_fld (pv 1) (pe_op op_add (pe_fld (pv 1) rfl) (pv 2)) rfl)))), ?_⟩)
  obtain ⟨B, b, c, a, dx, n, rfl, hB, W, hm, hn, k⟩ := h
  obtain ⟨o1, o2⟩ := W.own c (zip_fst hm)
  have hc := hB.ch hm
  refine q_asg (bk_so T hB W (ev_var rfl) (ch_owner T hc (ev_var rfl)) o1 o2) fun H0 e0 => ?_
  have hB0 := hB.stay e0
  have s2 : Vbptai.nth b.orders c.owner ≤ 20 := nth_le W.ords
  refine q_ac T hB0 W (ev_var rfl) (ev_var rfl) (by omega) s2 (ev_op (bk_ac T hB0 W (ev_var rfl) (ev_var rfl) (by omega) s2) (ev_var rfl) rv_I0) fun H1 e1 h1 => ?_
  have hc1 := h1.ch (c := c) hm
  refine s_paid T hc1 (ev_var rfl) (ev_is (ev_op (ch_paid T hc1 (ev_var rfl)) (ev_var rfl) rv_I0) rfl) fun H2 e2 => ?_
  exact k _ ((((ExS.of e0).trans e1).trans (ExS.of e2)).upd (hB.asS hm)) ((h1.stay e2).putCh hm W.nums rfl)
abbrev s_settle_charge : Stmt := topS 31
abbrev N_settle_charge : List Str := ["books", "charge", "rest", "part", "source"]
theorem sc_settle_charge : FnScope N_settle_charge ["books", "charge"] (defScope s_settle_charge) := ⟨rfl, rfl, rfl, by decide +kernel, rfl, by decide +kernel, by decide +kernel⟩
def sp_settle_charge (K : PySem.W.Frag) : Sp := fun vs H Q _ => ∃ (B : BkA) (b : Vbptai.Books) (c : Vbptai.Charge) (a dx : Addr), vs = [.ref B.R, .ref a] ∧ BkAt K B H b ∧ WfB b ∧ (c, (a, dx)) ∈ b.charges.zip B.cs ∧ c.state = 0 ∧
  ∀ H2, ExS B.S H H2 → BkAt K B H2 (Vbptai.settleOne b c.num) → Q .non H2
theorem rest_cast (h : c.paid ≤ c.base + c.extra) : V.int ((c.base : Int) + c.extra - c.paid) = V.int (Vbptai.restOf c : Nat) := by
  unfold Vbptai.restOf
  congr 1
  omega
theorem ok_settle_charge (T : Tx K mg) : Own P w K mg base CX0 2 "settle_charge" ["books", "charge"] (sp_settle_charge K) := by
  refine own_mk T.d_settle_charge T.g_settle_charge (fun _ _ _ _ _ _ us hl => match us, hl with | [_, _], _ => rfl) fun fd F => ?_
  refine F.ok sc_settle_charge (fun vs H Q E h => by obtain ⟨_, _, _, _, _, rfl, _⟩ := h; rfl) (fun cdv A outer s H vs Q E hr h => ⟨_, PSs.nox
    (pss_cons (ps_set (i := 2) sc_settle_charge.nd rfl (Or.inl rfl) (pe_own (ok_rest_of T) hr (by decide) pass0 (pa_cons (pv 1) pa_nil)))
    (pss_cons (ps_set (i := 3) sc_settle_charge.nd rfl (Or.inl rfl) (pe_callB (call_min2 rfl) (by rfl) T.b_min (by decide +kernel) (pa_cons (pe_ix ix_list (pe_fld (pv 0) rfl) (pe_fld (pv 1) rfl) (fun _ _ => rfl)) (pa_cons (pv 2) pa_nil))))
    (pss_cut (ps_if (pt_cmpR op_gt (pv 3) pe_int (nomark _))
      (pss_cons (ps_expr (pe_own (ok_pay_from_credit T) hr (by decide) pass0 (pa_cons (pv 0) (pa_cons (pv 1) (pa_cons (pv 3) pa_nil)))))
      (pss_one (ps_set (i := 2) sc_settle_charge.nd rfl (Or.inl rfl) (pe_op op_sub (pv 2) (pv 3)))))
      pss_nil)
    (pss_cons (ps_set (i := 4) sc_settle_charge.nd rfl (Or.inl rfl) (pe_ix ix_list (pe_fld (pv 0) rfl) (pe_fld (pv 1) rfl) (fun _ _ => rfl)))
    (pss_cut (ps_if (PW.pt (pw_and (pt_cmpR op_ne (pv 4) pe_int (nomark _)) (pw_and1 (pt_chain op_lt op_le pe_int (pv 2) (pe_ix ix_list (pe_fld (pv 0) rfl) (pv 4) (fun _ _ => rfl))))))
      (pss_cons (ps_expr (pe_own (ok_pay_from_account T) hr (by decide) pass0 (pa_cons (pv 0) (pa_cons (pv 1) (pa_cons (pv 2) pa_nil)))))
      (pss_one (ps_set (i := 2) sc_settle_charge.nd rfl (Or.inl rfl) pe_int)))
      pss_nil)
    (pss_one (ps_if (pt_cmpR op_eq (pv 2) pe_int (nomark _))
      (pss_one (ps_fld (pv 1) (pe_cint T.c_PAID) rfl))
      pss_nil))))))), ?_⟩)
  obtain ⟨B, b, c, a, dx, rfl, hB, W, hm, hs, k⟩ := h
  have hin := zip_fst hm
  obtain ⟨o1, o2⟩ := W.own c hin
  rw [settleOne_eq W.nums hin hs] at k
  refine q_asg (ev_is (ev_call (ea_cons (ev_var rfl) ea_nil) (spV_rest (hB.ch hm))) (rest_cast (W.pay c hin))) fun H1 e1 => ?_
  have hB1 := hB.stay e1
  refine q_asg (v := .int (useOf b c : Nat)) (ev_is (ev_cb (z := .int (if ((Vbptai.restOf c : Nat) : Int) < ((Vbptai.nth b.credits c.owner : Nat) : Int) then ((Vbptai.restOf c : Nat) : Int) else ((Vbptai.nth b.credits c.owner : Nat) : Int))) (ea_cons (bk_cr T hB1 W (ev_var rfl) (ch_owner T (hB1.ch hm) (ev_var rfl)) o1 o2) (ea_cons (ev_var rfl) ea_nil)) fun H2 e2 Q q => ⟨_, _, rfl, q H2 (Ex.refl _)⟩) ?_) fun H2 e2 => ?_
  · unfold useOf
    congr 1
    split <;> omega
  have hB2 := hB1.stay e2
  have e12 := e1.trans e2
  have hu1 : useOf b c ≤ Vbptai.restOf c := Nat.min_le_left ..
  have hu2 : useOf b c ≤ Vbptai.nth b.credits c.owner := Nat.min_le_right ..
  have W1 := W.pay1 (n := useOf b c) hin hu1
  have hm1 : (({ c with paid := c.paid + useOf b c } : Vbptai.Charge), (a, dx)) ∈ (pay1 b c (useOf b c)).charges.zip B.cs := setCh_zip hm
  have hr1 : Vbptai.restOf { c with paid := c.paid + useOf b c } = Vbptai.restOf c - useOf b c := by
    unfold Vbptai.restOf
    dsimp only
    omega
  generalize hb1 : pay1 b c (useOf b c) = b1 at *
  generalize hc1 : ({ c with paid := c.paid + useOf b c } : Vbptai.Charge) = c1 at *
  refine q_cut (M := fun σ' H' => σ' = [some (.ref B.R), some (.ref a), some (.int (Vbptai.restOf c1 : Nat)), some (.int (useOf b c : Nat)), none] ∧ ExS B.S H H' ∧ BkAt K B H' b1) (s_when (b := decide (0 < useOf b c)) (et_is (et_test (ev_op (ev_var rfl) ev_c rv_cmp)) ?_) (fun hb H3 e3 => ?_) (fun hb H3 e3 => ?_)) fun σ' H' hM => ?_
  · show decide (((useOf b c : Nat) : Int) > 0) = _
    exact (decide_eq_decide.mpr (by omega))
  · have hB3 := hB2.stay e3
    refine q_dropC (ea_cons (ev_var rfl) (ea_cons (ev_var rfl) (ea_cons (ev_var rfl) ea_nil))) fun H4 e4 => ⟨B, b, c, a, dx, useOf b c, rfl, hB3.stay e4, W, hm, hu2, fun H5 e5 h5 => ?_⟩
    refine s_asg (ev_is (ev_op (ev_var rfl) (ev_var rfl) rv_I0) (cast_sub' hu1)) fun H6 e6 => ⟨?_, (((ExS.of (e12.trans (e3.trans e4))).trans e5).trans (ExS.of e6)), by rw [← hb1]; exact h5.stay e6⟩
    rw [hr1]
    rfl
  · have h0 : useOf b c = 0 := by
      have := of_decide_eq_false hb
      omega
    refine ⟨?_, ExS.of (e12.trans e3), ?_⟩
    · rw [hr1, h0, Nat.sub_zero]
      rfl
    · have : b1 = b := by
        rw [← hb1, h0]
        unfold pay1
        rw [Nat.sub_zero, show b.credits.set (c.owner - 1) (Vbptai.nth b.credits c.owner) = b.credits from set_same _ _]
        have e : ({ c with paid := c.paid + 0 } : Vbptai.Charge) = c := rfl
        rw [e, setCh_self W.nums hin]
      rw [this]
      exact hB2.stay e3
  obtain ⟨rfl, eS, hB3⟩ := hM
  have in1 := zip_fst hm1
  obtain ⟨p1, p2⟩ := W1.own c1 in1
  have hc3 := hB3.ch hm1
  refine q_asg (bk_so T hB3 W1 (ev_var rfl) (ch_owner T hc3 (ev_var rfl)) p1 p2) fun H4 e4 => ?_
  have hB4 := hB3.stay e4
  have s2 : Vbptai.nth b1.orders c1.owner ≤ 20 := nth_le W1.ords
  have W2 : WfB (step2 b1 c1) := by
    unfold step2
    split
    · exact W1.pay2 in1 (Nat.le_refl _)
    · exact W1
  have hm2 : (chg2 b1 c1, (a, dx)) ∈ (step2 b1 c1).charges.zip B.cs := by
    unfold step2 chg2
    split
    · exact setCh_zip hm1
    · exact hm1
  refine q_cut (M := fun σ' H' => σ' = [some (.ref B.R), some (.ref a), some (.int (Vbptai.restOf (chg2 b1 c1) : Nat)), some (.int (useOf b c : Nat)), some (.int (Vbptai.nth b1.orders c1.owner : Nat))] ∧ ExS B.S H H' ∧ BkAt K B H' (step2 b1 c1)) (s_when (b := goOf b1 c1) (et_is (et_and (et_test (ev_op (ev_var rfl) ev_c rv_neI)) fun hne => et_test (ev_chain ev_c (ev_var rfl) (bk_ac T hB4 W1 (ev_var rfl) (ev_var rfl) ?_ s2))) ?_) (fun hb H5 e5 => ?_) (fun hb H5 e5 => ?_)) fun σ' H' hM => ?_
  · have : ¬ ((Vbptai.nth b1.orders c1.owner : Nat) : Int) = 0 := by simpa using hne
    omega
  · unfold goOf
    congr 1
    · by_cases z : Vbptai.nth b1.orders c1.owner = 0
      · rw [z]
        rfl
      · rw [decide_eq_false (by omega), bne_iff_ne.mpr z]
        rfl
    · congr 1
      exact (decide_eq_decide.mpr (by omega))
  · have hne : Vbptai.nth b1.orders c1.owner ≠ 0 := by
      unfold goOf at hb
      intro z
      rw [z] at hb
      cases hb
    refine q_dropC (ea_cons (ev_var rfl) (ea_cons (ev_var rfl) (ea_cons (ev_var rfl) ea_nil))) fun H6 e6 => ⟨B, b1, c1, a, dx, Vbptai.restOf c1, rfl, hB4.stay (e5.trans e6), W1, hm1, hne, fun H7 e7 h7 => ?_⟩
    refine s_asg ev_c fun H8 e8 => ⟨?_, ((eS.trans (ExS.of (e4.trans (e5.trans e6)))).trans e7).trans (ExS.of e8), ?_⟩
    · have : Vbptai.restOf (chg2 b1 c1) = 0 := by
        unfold chg2
        rw [if_pos hb]
        unfold Vbptai.restOf
        dsimp only
        omega
      rw [this]
      rfl
    · unfold step2
      rw [if_pos hb]
      exact h7.stay e8
  · refine ⟨?_, eS.trans (ExS.of (e4.trans e5)), ?_⟩
    · unfold chg2
      rw [if_neg (by rw [hb]; decide)]
      rfl
    · unfold step2
      rw [if_neg (by rw [hb]; decide)]
      exact hB4.stay e5
  obtain ⟨rfl, eS2, hB5⟩ := hM
  refine s_when (b := decide (Vbptai.restOf (chg2 b1 c1) = 0)) (et_test (ev_op (ev_var rfl) ev_c (rv_eqN (m := 0)))) (fun hb H6 e6 => ?_) (fun hb H6 e6 => ?_)
  · have hB6 := hB5.stay e6
    refine s_state (n := 1) T (hB6.ch hm2) (ev_var rfl) ev_c fun H7 e7 => ?_
    refine k _ ((eS2.trans (ExS.of (e6.trans e7))).upd (hB6.asS hm2)) ?_
    unfold step3
    rw [if_pos (of_decide_eq_true hb)]
    exact (hB6.stay e7).putCh hm2 W2.nums rfl
  · refine k _ (eS2.trans (ExS.of e6)) ?_
    unfold step3
    rw [if_neg (of_decide_eq_false hb)]
    exact hB5.stay e6
end
end FB
-- B5
set_option Elab.async false
set_option linter.all false
set_option maxRecDepth 100000
set_option maxHeartbeats 3900000
namespace FB
open PySem PySem.Spec PyProof.Rows L2 Evl
open LamX NdefX
section
variable {K : PySem.W.Frag} {mg : Str → Option Value} {P : Program} {base : Heap} {w : World}
variable {σ : L2.St} {H : Hp} {ta tb tv te td : TE} {t : TT} {D : Ends} {tz tu : TS} {B : BkA} {b : Vbptai.Books} {c d : Vbptai.Charge} {a dx : Addr} {v : V} {n k : Nat}
theorem openP_nums (h : BkAt K B H b) : (openP b B).map (·.1.num) = openNums b := by
  unfold openP openNums prs
  exact filter_zip (p := isOpen) (f := fun c : Vbptai.Charge => c.num) h.len
theorem openNums_nodup (W : WfB b) : (openNums b).Nodup := List.Pairwise.sublist ((List.filter_sublist (p := isOpen)).map _) W.nums
theorem not_in_take {l : List Nat} {i x : Nat} (nd : l.Nodup) (h : l[i]? = some x) : x ∉ l.take i := fun z => by
  have e := take_one h
  have n2 : (l.take (i + 1)).Nodup := List.Pairwise.sublist (List.take_sublist ..) nd
  rw [e] at n2
  exact (List.nodup_append.mp n2).2.2 x z x (List.mem_singleton.mpr rfl) rfl
/-- for charge in open_charges(books): .. -/
theorem s_forOpen {f : Vbptai.Books → Nat → Vbptai.Books} {j : Nat} {E : XK} (hf : Only f) (hw : ∀ b k, WfB b → WfB (f b k)) (hB : BkAt K B H b) (W : WfB b) (hv : σ[0]? = some (some (.ref B.R)))
    (hstep : ∀ b' c a dx H' (D' : Ends), BkAt K B H' b' → WfB b' → (c, (a, dx)) ∈ b'.charges.zip B.cs → c.state = 0 → (∀ H2, ExS B.S H' H2 → BkAt K B H2 (f b' c.num) → D'.nx (σ.set j (some (.ref a))) H2) → tu D' (σ.set j (some (.ref a))) H')
    (k : ∀ σ' H2, ExS B.S H H2 → BkAt K B H2 ((openNums b).foldl f b) → D.nx σ' H2) : tFor (iList K (tCall (sp_open_charges K) [] E (tCons (tVar 0) tNil))) (gName j) tu D σ H := by
  have nums := openP_nums hB
  have nd := openNums_nodup W
  refine s_forNL (K := K) (el_call (ea_cons (ev_var hv) ea_nil) (spL_open hB (by have := W.few; omega))) (fun p i σ' H' => (∀ x, σ'.set j x = σ.set j x) ∧ p ∉ B.S ∧ H' p = some (.lst ((openP b B).map refP)) ∧ ExS B.S H H' ∧ BkAt K B H' (((openNums b).take i).foldl f b)) (fun p H1 hp e1 h1 => ⟨fun _ => rfl, fun z => ?_, h1, ExS.of e1, hB.stay e1⟩) (fun p i σ' H' _ h => sq_of h.2.2.1) (fun p i x σ' H' hx h => ?_) (fun p σ' H' h => ?_)
  · obtain ⟨o, ho⟩ := hB.has z
    rw [ho] at hp
    cases hp
  · obtain ⟨hσ, hpS, hp, eS, h'⟩ := h
    obtain ⟨q, hq, rfl⟩ := map_at hx
    have hn : (openNums b)[i]? = some q.1.num := by
      rw [← nums, List.getElem?_map, hq]
      rfl
    have hqm := List.mem_filter.mp (List.mem_of_getElem? hq)
    have hmem := fold_keep hf hw (ks := (openNums b).take i) (c := q.1) (q := q.2) (cs := B.cs) W hqm.1 (not_in_take nd hn)
    show tu _ (σ'.set j (some (refP q))) H'
    rw [hσ]
    refine hstep _ q.1 q.2.1 q.2.2 H' _ h' (fold_wf hw W) hmem (of_decide_eq_true hqm.2) fun H2 e2 h2 => ⟨fun x => ?_, hpS, e2.get hpS hp, eS.trans e2, ?_⟩
    · rw [List.set_set]
    · rw [take_one hn, List.foldl_append]
      exact h2
  · obtain ⟨_, _, _, eS, h'⟩ := h
    rw [List.length_map, ← List.length_map (f := fun q : Vbptai.Charge × Addr × Addr => q.1.num), nums, List.take_length] at h'
    exact k _ _ eS h'
def settleP (b : Vbptai.Books) : Vbptai.Books := (openNums b).foldl Vbptai.settleOne b
def passP (y : Nat) (b : Vbptai.Books) : Vbptai.Books := (openNums b).foldl (timeOne y) b
abbrev s_settle : Stmt := topS 32
abbrev N_settle : List Str := ["books", "charge"]
theorem sc_settle : FnScope N_settle ["books"] (defScope s_settle) := ⟨rfl, rfl, rfl, by decide +kernel, rfl, by decide +kernel, by decide +kernel⟩
/-- the books alone change -/
def spBk (K : PySem.W.Frag) (f : Vbptai.Books → Vbptai.Books) : Sp := fun vs H Q _ => ∃ (B : BkA) (b : Vbptai.Books), vs = [.ref B.R] ∧ BkAt K B H b ∧ WfB b ∧ ∀ H2, ExS B.S H H2 → BkAt K B H2 (f b) → Q .non H2
theorem ok_settle (T : Tx K mg) : Own P w K mg base CX0 3 "settle" ["books"] (spBk K settleP) := by
  refine own_mk T.d_settle T.g_settle (fun _ _ _ _ _ _ us hl => match us, hl with | [_], _ => rfl) fun fd F => ?_
  refine F.ok sc_settle (fun vs H Q E h => by obtain ⟨_, _, rfl, _⟩ := h; rfl) (fun cdv A outer s H vs Q E hr h => ⟨_, PSs.nox
    (pss_one (ps_for PassesOwn.never rfl (pi_list (pe_own (ok_open_charges T) hr (by decide) pass0 (pa_cons (pv 0) pa_nil))) (pg_name (i := 1) sc_settle.nd rfl (Or.inl rfl))
      (pss_one (ps_expr (pe_own (ok_settle_charge T) hr (by decide) pass0 (pa_cons (pv 0) (pa_cons (pv 1) pa_nil))))))), ?_⟩)
  obtain ⟨B, b, rfl, hB, W, k⟩ := h
  refine s_forOpen (f := Vbptai.settleOne) settle_only (fun b k W => W.settleOne k) hB W rfl (fun b' c a dx H' D' h' W' hm hs go => ?_) fun σ' H2 e2 h2 => k H2 e2 h2
  exact s_dropC (ea_cons (ev_var rfl) (ea_cons (ev_var rfl) ea_nil)) fun H1 e1 => ⟨B, b', c, a, dx, rfl, h'.stay e1, W', hm, hs, fun H2 e2 h2 => go H2 ((ExS.of e1).trans e2) h2⟩
abbrev s_lapse : Stmt := topS 33
abbrev N_lapse : List Str := ["books", "charge"]
theorem sc_lapse : FnScope N_lapse ["books", "charge"] (defScope s_lapse) := ⟨rfl, rfl, rfl, by decide +kernel, rfl, by decide +kernel, by decide +kernel⟩
def sp_lapse (K : PySem.W.Frag) : Sp := fun vs H Q _ => ∃ (B : BkA) (b : Vbptai.Books) (c : Vbptai.Charge) (a dx : Addr), vs = [.ref B.R, .ref a] ∧ BkAt K B H b ∧ WfB b ∧ (c, (a, dx)) ∈ b.charges.zip B.cs ∧ ∀ H2, ExS B.S H H2 → BkAt K B H2 (lapsed b c) → Q .non H2
theorem ok_lapse (T : Tx K mg) : Own P w K mg base CX0 1 "lapse" ["books", "charge"] (sp_lapse K) := by
  refine own_mk T.d_lapse T.g_lapse (fun _ _ _ _ _ _ us hl => match us, hl with | [_, _], _ => rfl) fun fd F => ?_
  refine F.ok sc_lapse (fun vs H Q E h => by obtain ⟨_, _, _, _, _, rfl, _⟩ := h; rfl) (fun cdv A outer s H vs Q E hr h => ⟨_, PSs.nox
    (pss_cons (ps_asg (pe_op op_add (pe_ix ix_list (pe_fld (pv 0) rfl) (pe_fld (pv 1) rfl) (fun _ _ => rfl)) (pe_fld (pv 1) rfl)) (pg_sub (pe_fld (pv 0) rfl) (pe_fld (pv 1) rfl) set_list))
    (pss_cons (ps_fld (pv 1) pe_int rfl)
    (pss_one (ps_fld (pv 1) (pe_cint T.c_LAPSED) rfl)))), ?_⟩)
  obtain ⟨B, b, c, a, dx, rfl, hB, W, hm, k⟩ := h
  obtain ⟨o1, o2⟩ := W.own c (zip_fst hm)
  have hc := hB.ch hm
  refine q_cr (k := Vbptai.nth b.credits c.owner + c.paid) T hB W (ev_var rfl) (ch_owner T hc (ev_var rfl)) o1 o2 (ev_is (ev_op (bk_cr T hB W (ev_var rfl) (ch_owner T hc (ev_var rfl)) o1 o2) (ch_paid T hc (ev_var rfl)) rv_I0) rfl) fun H1 e1 h1 => ?_
  have hc1 := h1.ch (c := c) hm
  refine q_paid (n := 0) T hc1 (ev_var rfl) ev_c fun H2 e2 => ?_
  have h2 := (h1.stay e2).putCh (d := { c with paid := 0 }) hm W.nums rfl
  have hm2 : (({ c with paid := 0 } : Vbptai.Charge), (a, dx)) ∈ (setCh b.charges c.num { c with paid := 0 }).zip B.cs := setCh_zip hm
  refine s_state (n := 2) T (h2.ch hm2) (ev_var rfl) ev_c fun H3 e3 => ?_
  refine k _ ((((e1.trans (ExS.of e2)).upd (hB.asS hm)).trans (ExS.of e3)).upd (hB.asS hm)) ?_
  have h3 := (h2.stay e3).putCh (d := { c with paid := 0, state := 2 }) hm2 (by show ((setCh b.charges c.num _).map (·.num)).Nodup; rw [setCh_nums (k := c.num) (by rfl)]; exact W.nums) rfl
  dsimp only at h3
  rw [setCh_twice (k := c.num) (by rfl)] at h3
  exact h3
abbrev s_add_surcharge : Stmt := topS 34
abbrev N_add_surcharge : List Str := ["charge"]
theorem sc_add_surcharge : FnScope N_add_surcharge ["charge"] (defScope s_add_surcharge) := ⟨rfl, rfl, rfl, by decide +kernel, rfl, by decide +kernel, by decide +kernel⟩
def sp_add_surcharge (K : PySem.W.Frag) : Sp := fun vs H Q _ => ∃ (a dx : Addr) (c : Vbptai.Charge), vs = [.ref a] ∧ H a = some (chO K dx c) ∧ c.late ≤ 100 ∧ ∀ H1, Ex H H1 → Q .non (upd H1 a (chO K dx { c with extra := (c.base * c.late + 99) / 100 }))
theorem ok_add_surcharge (T : Tx K mg) : Own P w K mg base CX0 1 "add_surcharge" ["charge"] (sp_add_surcharge K) := by
  refine own_mk T.d_add_surcharge T.g_add_surcharge (fun _ _ _ _ _ _ us hl => match us, hl with | [_], _ => rfl) fun fd F => ?_
  refine F.ok sc_add_surcharge (fun vs H Q E h => by obtain ⟨_, _, _, rfl, _⟩ := h; rfl) (fun cdv A outer s H vs Q E hr h => ⟨_, PSs.nox
    (pss_one (ps_fld (pv 0) (pe_op op_fdiv (pe_op op_add (pe_op op_mul (pe_fld (pv 0) rfl) (pe_fld (pv 0) rfl)) pe_int) pe_int) rfl)), ?_⟩)
  obtain ⟨a, dx, c, rfl, hc, hl, k⟩ := h
  exact s_extra (n := (c.base * c.late + 99) / 100) T hc (ev_var rfl) (ev_is (ev_op (ev_op (ev_op (ch_base T hc (ev_var rfl)) (ch_late T hc (ev_var rfl)) (rv_I (.inr ⟨by omega, by omega⟩))) ev_c rv_I0) ev_c (rv_I ⟨by decide, by decide⟩)) rfl) k
abbrev s_pass_time : Stmt := topS 35
abbrev N_pass_time : List Str := ["books", "day", "charge"]
theorem sc_pass_time : FnScope N_pass_time ["books", "day"] (defScope s_pass_time) := ⟨rfl, rfl, rfl, by decide +kernel, rfl, by decide +kernel, by decide +kernel⟩
def sp_pass_time (K : PySem.W.Frag) : Sp := fun vs H Q _ => ∃ (B : BkA) (b : Vbptai.Books) (y : Nat), vs = [.ref B.R, .int y] ∧ BkAt K B H b ∧ WfB b ∧ ∀ H2, ExS B.S H H2 → BkAt K B H2 (passP y b) → Q .non H2
theorem ok_pass_time (T : Tx K mg) : Own P w K mg base CX0 2 "pass_time" ["books", "day"] (sp_pass_time K) := by
  refine own_mk T.d_pass_time T.g_pass_time (fun _ _ _ _ _ _ us hl => match us, hl with | [_, _], _ => rfl) fun fd F => ?_
  refine F.ok sc_pass_time (fun vs H Q E h => by obtain ⟨_, _, _, rfl, _⟩ := h; rfl) (fun cdv A outer s H vs Q E hr h => ⟨_, PSs.nox
    (pss_one (ps_for PassesOwn.never rfl (pi_list (pe_own (ok_open_charges T) hr (by decide) pass0 (pa_cons (pv 0) pa_nil))) (pg_name (i := 2) sc_pass_time.nd rfl (Or.inl rfl))
      (pss_cut (ps_if (pt_cmpR op_eq (pv 1) (pe_op op_add (pe_op op_add (pe_fld (pv 2) rfl) (pe_cint T.c_DAYS_WITHOUT_SURCHARGE)) pe_int) (nomark _))
        (pss_one (ps_expr (pe_own (ok_add_surcharge T) hr (by decide) pass0 (pa_cons (pv 2) pa_nil))))
        pss_nil)
      (pss_one (ps_if (pt_cmpR op_eq (pv 1) (pe_op op_add (pe_op op_add (pe_fld (pv 2) rfl) (pe_cint T.c_DAYS_BEFORE_LAPSE)) pe_int) (nomark _))
        (pss_one (ps_expr (pe_own (ok_lapse T) hr (by decide) pass0 (pa_cons (pv 0) (pa_cons (pv 2) pa_nil)))))
        pss_nil))))), ?_⟩)
  obtain ⟨B, b, y, rfl, hB, W, k⟩ := h
  refine s_forOpen (f := timeOne y) (time_only y) (fun b k W => W.timeOne y k) hB W rfl (fun b' c a dx H' D' h' W' hm hs go => ?_) fun σ' H2 e2 h2 => k H2 e2 h2
  have hin := zip_fst hm
  rw [timeOne_eq W'.nums hin] at go
  have hc := h'.ch hm
  have m1 : (timeC y c, (a, dx)) ∈ (setCh b'.charges c.num (timeC y c)).zip B.cs := setCh_zip hm
  have td : (timeC y c).day = c.day := by
    unfold timeC
    split <;> rfl
  have W1 := W'.timeC hin y
  refine q_cut (M := fun σ' H2 => σ' = [some (.ref B.R), some (.int (y : Nat)), some (.ref a)] ∧ ExS B.S H' H2 ∧ BkAt K B H2 { b' with charges := setCh b'.charges c.num (timeC y c) }) (s_when (b := decide (y = c.day + 31)) (et_is (et_test (ev_op (ev_var rfl) (ev_op (ev_op (ch_day T hc (ev_var rfl)) ev_c rv_I0) ev_c rv_I0) rv_eqI)) ?_) (fun hb H1 e1 => ?_) (fun hb H1 e1 => ?_)) fun σ' H2 hM => ?_
  · exact decide_eq_decide.mpr (by show (y : Int) = (c.day : Int) + 30 + 1 ↔ _; omega)
  · refine s_dropC (ea_cons (ev_var rfl) ea_nil) fun H2 e2 => ⟨a, dx, c, rfl, (e1.trans e2) _ _ hc, W'.lat c hin, fun H3 e3 => ⟨rfl, (ExS.of (e1.trans (e2.trans e3))).upd (h'.asS hm), ?_⟩⟩
    have := (h'.stay (e1.trans (e2.trans e3))).putCh (d := timeC y c) hm W'.nums timeC_num
    unfold timeC at this ⊢
    rw [if_pos (of_decide_eq_true hb)] at this ⊢
    exact this
  · refine ⟨rfl, ExS.of e1, ?_⟩
    unfold timeC
    rw [if_neg (of_decide_eq_false hb), setCh_self W'.nums hin]
    exact h'.stay e1
  obtain ⟨rfl, e2, h2⟩ := hM
  refine s_when (b := decide (y = c.day + 181)) (et_is (et_test (ev_op (ev_var rfl) (ev_op (ev_op (ch_day T (h2.ch m1) (ev_var rfl)) ev_c rv_I0) ev_c rv_I0) rv_eqI)) ?_) (fun hb H3 e3 => ?_) (fun hb H3 e3 => ?_)
  · exact decide_eq_decide.mpr (by rw [td]; show (y : Int) = (c.day : Int) + 180 + 1 ↔ _; omega)
  · rw [if_pos (of_decide_eq_true hb)] at go
    exact s_dropC (ea_cons (ev_var rfl) (ea_cons (ev_var rfl) ea_nil)) fun H4 e4 => ⟨B, _, timeC y c, a, dx, rfl, h2.stay (e3.trans e4), W1, m1, fun H5 e5 h5 => go H5 ((e2.trans (ExS.of (e3.trans e4))).trans e5) h5⟩
  · rw [if_neg (of_decide_eq_false hb)] at go
    exact go H3 (e2.trans (ExS.of e3)) (h2.stay e3)
end
end FB
-- SE2
set_option Elab.async false
set_option linter.all false
set_option maxRecDepth 100000
set_option maxHeartbeats 3900000
namespace FB
open PySem PySem.Spec PyProof.Rows L2 Evl
section
variable {P : Program} {w : World} {A : Around} {E : Value → Shared → Prop} {s : Shared} {l : Addr} {items : Array Value} {Q : Value → Shared → Prop}
theorem ints_at {ns : List Int} (hi : IntsAre items.toList ns) (i : Nat) (v : Value) (hv : items[i]? = some v) : ∃ k t, ns[i]? = some k ∧ v = .int k t := by
  rw [← Array.getElem?_toList] at hv
  have key : ∀ {us : List Value} {ms : List Int} (j : Nat), IntsAre us ms → us[j]? = some v → ∃ k t, ms[j]? = some k ∧ v = .int k t := by
    intro us ms j h
    induction h generalizing j with
    | nil => exact fun z => nomatch z
    | cons n t _ ih =>
      cases j with
      | zero => exact fun z => ⟨n, t, rfl, (Option.some.inj z).symm⟩
      | succ j => exact fun z => ih j z
  exact key i hi hv
/-- set(l) of a list of whole numbers -/
theorem set_of_ints (ns : List Int) (hh : A.handled = none) (hl : s.heap.IsList l items) (hi : IntsAre items.toList ns) (few : ns.length + 1 < scanBound)
    (h : ∀ h' tk c, Kp s.heap h' → L2.SetR w h' s.heap.objs.size (fun j => decide (j ∈ ns)) c → c ≤ ns.length → Q (.ref s.heap.objs.size) { s with heap := h', toks := tk }) : wpAny (model P w) A (call (.type "set") [.ref l]) Q E s := by
  have sz : items.size = ns.length := by rw [← Array.length_toList, hi.length]
  have lS : l < s.heap.objs.size := by
    obtain ⟨o, ho, _⟩ := hl
    exact Heap.lt_size ho
  have z1 : (s.heap.push (setO w)).objs.size = s.heap.objs.size + 1 := Heap.size_push ..
  refine set_of_list (Fi := fun h' => ∃ c, L2.SetR w h' s.heap.objs.size (fun j => decide (j ∈ ns)) c ∧ c ≤ ns.length) hl (fun R hR => ?_) fun h' tk k ⟨c, z2, z3⟩ => h h' tk c k z2 z3
  have lI : l ≠ (s.heap.push (setO w)).objs.size := by rw [z1]; exact Nat.ne_of_lt (Nat.lt_succ_of_lt lS)
  have h3 : A.in1.in1.in1.handled = none := hh
  have isL : (s.heap.push (setO w)).IsList l items := hl.push _
  refine L2.set_update_ints ((Walks.list h3 (s.heap.push (setO w)).objs.size l lI items).toS) s.heap.objs.size (fun z => ?_) ns sz few (ints_at hi) items.size 0 _ rfl (Nat.zero_le _) ⟨⟨_, Heap.get?_push_size _ rfl, rfl, rfl⟩, isL.push _⟩ ⟨0, Nat.le_refl 0, L2.setR_new_at (Heap.get?_push_of_some _ (Heap.get?_push_size _ rfl))⟩ fun s2 c mv hc hS => ?_
  · obtain z | z := List.mem_cons.mp z
    · rw [z1] at z
      exact Nat.ne_of_lt (Nat.lt_succ_self _) z
    · exact Nat.ne_of_gt lS (List.mem_singleton.mp z)
  · have e2 : s2 = { s with heap := s2.heap, toks := s2.toks } := by
      obtain ⟨a1, a2, a3, a4, a5⟩ := s2
      obtain ⟨b1, b2, b3, b4, b5⟩ := s
      have m1 := mv.gens
      have m2 := mv.drawn
      have m3 := mv.os
      dsimp only at m1 m2 m3 ⊢
      rw [m1, m2, m3]
    rw [e2]
    refine hR s2.heap s2.toks (fun b o hb => ?_) ⟨c, hS, by omega⟩
    have lb := Heap.lt_size hb
    refine mv.heap b o (fun z => ?_) (Heap.get?_push_of_some _ (Heap.get?_push_of_some _ hb))
    obtain z | z := List.mem_cons.mp z
    · exact Nat.ne_of_lt lb z
    · have z2 := List.mem_singleton.mp z
      rw [z1] at z2
      exact Nat.ne_of_lt (Nat.lt_succ_of_lt lb) z2
/-- sorted of a set of whole numbers, any number of them -/
theorem sorted_ints_set {a : Addr} {S : Int → Bool} {n : Nat} (R : L2.SetR w s.heap a S n) (hh : A.handled = none)
    (hQ : ∀ s2 p (out : List Value) (c : Nat) (ns : List Int), Kp s.heap s2.heap → s2.gens = s.gens → s2.os = s.os → s.heap.objs.size ≤ p → s2.heap.get? p = some (seqObj "list" out.toArray c) → IntsAre out ns → ns.Pairwise (· < ·) → (∀ k, k ∈ ns ↔ S k = true) → ns.length = n → Q (.ref p) s2) :
    wpAny (model P w) A (PySem.call (.builtin "sorted") [.ref a]) Q E s := by
  obtain ⟨o, es, ep, t, ho, exact_, hd, good, nd, hm, hb, hf, hn, rises, hl⟩ := R
  refine Calls.call_function_entry kind_sorted plain_sorted entry_sorted (args_sorted1 _) (wpAny_bind (m := checkCount "sorted" 1 1 _) (wpAny_pure (wpAny_bind (L2.collect_set (A := A.in1) hh ⟨o, ho, exact_.1, hd⟩ hf hb rises hl fun s1 vs k1 sz g1 o1 pm => ?_))))
  have len : vs.length = n := by rw [pm.length_eq, List.length_map, Array.length_toList, hn]
  have few : n < scanBound := by rw [← hn]; exact hb
  have fits : vs.length ≤ sizeLine := by
    rw [len, sizeLine_eq]
    unfold scanBound at few
    omega
  have isI : IntsAre vs (vs.map SrtO.iv) := SrtO.ints_iv fun v hv => by
    obtain ⟨e, he, rfl⟩ := List.mem_map.mp (pm.mem_iff.mp hv)
    obtain ⟨k, tk, h1, _⟩ := good e he
    exact ⟨k, tk, h1⟩
  have pk : (vs.map SrtO.iv).Perm (es.toList.map L2.keyOf) := by
    have q := pm.map SrtO.iv
    rw [List.map_map] at q
    refine q.trans (List.Perm.of_eq (List.map_congr_left fun e he => ?_))
    obtain ⟨k, tk, h1, _⟩ := good e he
    show SrtO.iv e.2 = L2.keyOf e
    unfold L2.keyOf
    rw [h1]
    rfl
  refine wpAny_bind (wpAny_newList ?_ fits)
  have at_ : (s1.heap.push (seqObj "list" vs.toArray 0)).get? s1.heap.objs.size = some (seqObj "list" vs.toArray 0) := Heap.get?_push_size _ rfl
  refine wpAny_bind (wpAny_holding (wpAny_call_entry slot_list_sort ⟨_, at_, rfl⟩ entry_list_sort (SrtO.list_sort_ord SrtO.swo_int at_ fits (fun two => SrtO.ints_sortable isI two) fun out a1 a2 => ⟨_, rfl, ?_⟩) (args_list_sort _)))
  obtain ⟨b1, b2, b3⟩ := SrtO.ints_out isI a1 a2
  have pn := b2.trans pk
  obtain ⟨c, hc⟩ := sortedHeap_at (vs := vs) (out := out.toArray) at_
  refine wpAny_pure ⟨_, rfl, hQ _ s1.heap.objs.size out c (out.map SrtO.iv) (fun b u q => ?_) g1 o1 sz hc b1 (L2.lt_of_le_nodup _ b3 (pn.nodup_iff.mpr nd)) (fun k => by rw [pn.mem_iff, ← hm k]) (by rw [pn.length_eq, List.length_map, Array.length_toList, hn])⟩
  have q1 := k1 b u q
  have lt := Heap.lt_size q1
  refine (sortedHeap_old (Nat.ne_of_lt lt) (by rw [size_push']; exact Nat.lt_succ_of_lt lt)).trans (Heap.get?_push_of_some _ q1)
end
/-- sorted(set(e)), e a list of whole numbers -/
def tSortSet (K : PySem.W.Frag) (ta : TE) : TE := fun σ H Q => ta σ H fun x H1 => ∃ (l : Addr) (ns : List Int), x = V.ref l ∧ SqL K H1 l (ns.map V.int) ∧ ns.length ≤ 4000 ∧ ∀ (out : List Int) (p : Addr), out.Pairwise (· < ·) → (∀ k, k ∈ out ↔ k ∈ ns) → H1 p = none → Q (.ref p) (upd H1 p (.lst (out.map V.int)))
theorem pe_sortSet {X : Cx} {a : Expr} {ta : TE} {p p2 q pos : Pos} (hc : X.calm = true) (hm : X.mg "sorted" = none) (hm2 : X.mg "set" = none) (ha : PE X a ta) (hg : Gl X "sorted" := by rfl) (hg2 : Gl X "set" := by rfl)
    (na : starEach [a] X.env = (false, eval a X.env) :: starEach [] X.env := by rfl) : PE X (.Call (.Name "sorted" p) [.Call (.Name "set" p2) [a] [] q] [] pos) (tSortSet X.K ta) := by
  refine ⟨fun pins s σ H Q J h => Call_ (ld_blt J hg hm (u := .builtin "sorted") (by decide +kernel) (PyProof.Rows.callWith_builtin1 (PyProof.Rows.args_cons (Call_ (ld_blt J hg2 hm2 PyProof.Rows.boot_set (PyProof.Rows.callWith_type1 (PyProof.Rows.args_cons (thn (ha.run pins s σ H _ J h) fun v s1 ⟨x, H1, J1, r1, q1⟩ => PyProof.Rows.args_nil ?_) na) na rfl))) rfl) rfl rfl))⟩
  obtain ⟨l, ns, rfl, hq, few, q2⟩ := q1
  cases r1
  obtain ⟨its, rv, pl, hz⟩ := J1.list hq
  have hd := J1.ok.hd hc
  refine set_of_ints ns hd pl.isList (by simpa using rv.ints) (by unfold scanBound; omega) fun h' tk c k R hcn => PyProof.Rows.args_nil ?_
  have J2 : Inv X pins σ H1 { s1 with heap := h', toks := tk } := J1.kept k
  refine sorted_ints_set R hd fun s2 pp out c2 ms k2 g2 o2 sz at2 ii lt mem len => ?_
  have J3 : Inv X pins σ H1 s2 := J2.call' (ch := []) o2 (Un.kept k2) (J2.hok.kept k2) (by rw [g2]; exact J2.bare) fun _ z => nomatch z
  have fresh : H1 pp = none := J2.hok.fresh sz
  have J4 : Inv X pins σ (upd H1 pp (.lst (ms.map V.int))) s2 := J2.call' (ch := []) o2 (Un.laid k2 sz fresh) (J2.hok.laid k2 sz ⟨by rw [List.length_map, len, sizeLine_eq]; omega, out, c2, vals_of_ints ii, at2⟩) (by rw [g2]; exact J2.bare) fun _ z => nomatch z
  exact ⟨.ref pp, _, J4, rfl, q2 ms pp lt (fun j => by rw [mem]; exact decide_eq_true_iff) fresh⟩
end FB
-- B6
set_option Elab.async false
set_option linter.all false
set_option maxRecDepth 100000
set_option maxHeartbeats 3900000
namespace FB
open PySem PySem.Spec PyProof.Rows L2 Evl
/-! ### what the document's state keeps to, further -/
def deedOk (s : Vbptai.State) (e : Vbptai.Event) : Prop := match e.deed with
  | .deposit a _ => 1 ≤ a ∧ a ≤ 20
  | .bounce k => ∃ x ∈ s.events, x.num = k ∧ Vbptai.isDeposit x = true ∧ x.day ≤ e.day
  | .charge o u _ => 1 ≤ o ∧ o ≤ 40 ∧ u ≤ 10000
  | .pay o _ => 1 ≤ o ∧ o ≤ 40
  | .order a o => a ≤ 20 ∧ 1 ≤ o ∧ o ≤ 40
  | .refund k => ∃ x ∈ s.events, x.num = k ∧ Vbptai.isCharge x = true ∧ x.day ≤ e.day
  | .closing => True
structure Wide (s : Vbptai.State) : Prop where
  schs : s.schedules.Pairwise fun x y => x.day < y.day
  evs : s.events.Pairwise fun x y => Vbptai.before x y = true
  fees : ∀ x ∈ s.schedules, ∀ f ∈ x.fees, f.late ≤ 100 ∧ f.small ≤ 100 ∧ f.amount ≤ 999999999
  text : ∀ x ∈ s.schedules, x.text.length ≤ 2000
  lands : 1 ≤ s.lands.length ∧ s.lands.length ≤ 10 ∧ (∀ x ∈ s.lands, x ≤ 1000) ∧ ∃ x ∈ s.lands, 0 < x
  deeds : ∀ e ∈ s.events, deedOk s e
/-! ### prices -/
section
variable {s : Vbptai.State} {m : RecM} {d : Nat}
theorem last_most {α : Type} {R : α → α → Prop} {l : List α} {x : α} (h : l.Pairwise R) (hx : l.getLast? = some x) : ∀ y ∈ l, y = x ∨ R y x := by
  obtain ⟨ys, rfl⟩ := List.getLast?_eq_some_iff.mp hx
  intro y hy
  obtain hy | hy := List.mem_append.mp hy
  · exact .inr ((List.pairwise_append.mp h).2.2 y hy x (List.mem_singleton.mpr rfl))
  · exact .inl (List.mem_singleton.mp hy)
theorem inForce_none (h : Vbptai.inForce s d = none) : ∀ y ∈ s.schedules, ¬ y.day ≤ d := fun y hy z => by
  unfold Vbptai.inForce at h
  have := List.getLast?_eq_none_iff.mp h
  have hm : y ∈ s.schedules.filter fun x => decide (x.day ≤ d) := List.mem_filter.mpr ⟨hy, decide_eq_true z⟩
  rw [this] at hm
  cases hm
theorem inForce_some (W : Wide s) {x : Vbptai.Schedule} (h : Vbptai.inForce s d = some x) : x ∈ s.schedules ∧ x.day ≤ d ∧ ∀ y ∈ s.schedules, y.day ≤ d → y.day ≤ x.day := by
  unfold Vbptai.inForce at h
  have hx := List.mem_filter.mp (List.mem_of_getLast? h)
  refine ⟨hx.1, of_decide_eq_true hx.2, fun y hy hd => ?_⟩
  rcases last_most (List.Pairwise.sublist List.filter_sublist W.schs) h y (List.mem_filter.mpr ⟨hy, decide_eq_true hd⟩) with rfl | z
  · exact Nat.le_refl _
  · exact Nat.le_of_lt z
end
section
variable {K : PySem.W.Frag} {mg : Str → Option Value} {P : Program} {base : Heap} {w : World}
variable {σ : L2.St} {H : Hp} {ta tb tv te td : TE} {t : TT} {D : Ends} {tz tu : TS} {A : RecA} {m : RecM} {s : Vbptai.State}
theorem q_asgLk {i : Nat} {xs : List V} (h : EvL (tLockE te) σ H xs) (k : ∀ p H1, H p = none → Ex H H1 → H1 p = some (.lst xs) → tz D (σ.set i (some (.ref p))) H1) : tSeq (tLock (tAsg te (gName i))) tz D σ H := h H (Ex.refl H) _ k
theorem ei_keys {d : Addr} {od : Obj} {kvs : List (Key × V)} (h : Ev td σ H (.ref d)) (hd : H d = some (.frz od (.dK kvs))) : EvI (iKeys td) σ H kvs.length (fun i x => (kvs.map fun q => kV q.1)[i]? = some x) := fun H1 e R q =>
  h H1 e _ fun H2 e2 => ⟨d, od, rfl, .inl ⟨kvs, e2 _ _ (e _ _ hd), q _ H2 _ e2 (walk_keys.mono (fun _ h => h) fun i H x H' _ _ y => by
    obtain ⟨rfl, k, v, hk, rfl⟩ := y
    exact ⟨rfl, by show (kvs.map fun q => kV q.1)[i]? = some (kV k); rw [List.getElem?_map, hk]; rfl⟩) fun H3 e3 => e3 _ _ (e2 _ _ (e _ _ hd))⟩⟩
theorem el_keysF {α : Type} {j : Nat} {vs : List Nat} {d : Addr} {kvs : List (Key × V)} {l : List α} (g h : α → V) (keep : α → Bool) (hd : H d = some (.dK kvs)) (hk : (kvs.map fun q => kV q.1) = l.map g) (htd : ∀ HL, ExB d H HL → Ev td σ HL (.ref d)) (hz : l.length ≤ 40000) (hw : ∀ x, wipe ((wipe σ vs).set j (some x)) vs = wipe σ vs)
    (ht : ∀ (a : α) HL, ExB d H HL → a ∈ l → EvT t ((wipe σ vs).set j (some (g a))) HL (keep a)) (he : ∀ (a : α) HL, ExB d H HL → a ∈ l → keep a = true → Ev te ((wipe σ vs).set j (some (g a))) HL (h a)) : EvL (tLockE (tLc (iKeys td) (gName j) t te vs)) σ H ((l.filter keep).map h) :=
  el_lock hd fun od HL hL eL => by
    have hl : kvs.length = l.length := by rw [← List.length_map (f := fun q : Key × V => kV q.1), hk, List.length_map]
    have i := ei_keys (htd HL eL) hL
    rw [hl] at i
    exact el_filt g h keep i (fun i x y => by rw [← hk]; exact y) hz hw (fun a H1 e => ht a H1 fun b o n z => e _ _ (eL b o n z)) fun a H1 e => he a H1 fun b o n z => e _ _ (eL b o n z)
theorem Tabl.keys {α : Type} {key : α → Key} {R : α → V → Prop} {l : List α} {kvs : List (Key × V)} (t : Tabl key R l kvs) : (kvs.map fun q => kV q.1) = l.map fun m => kV (key m) := by
  induction t with
  | nil => rfl
  | cons h _ ih => rw [List.map_cons, List.map_cons, ih, h.1]
theorem ev_maxL {p : Addr} {ns : List Int} {mx : Int} (h : Ev te σ H (.ref p)) (hs : SqL K H p (ns.map V.int)) (hm : mx ∈ ns) (hx : ∀ y ∈ ns, y ≤ mx) : Ev (tCB (rMax K) (tCons te tNil)) σ H (.int mx) := fun H1 e Q q =>
  h H1 e _ fun H2 e2 => ⟨p, ns, rfl, ex_l (e.trans e2) hs, List.length_pos_of_mem hm, fun mz h1 h2 => by
    have : mz = mx := by
      have a := hx mz h1
      have b := h2 mx hm
      omega
    rw [this]
    exact q H2 e2⟩
abbrev s_schedule_in_force : Stmt := topS 17
abbrev N_schedule_in_force : List Str := ["record", "day", "begun", "begin"]
theorem sc_schedule_in_force : FnScope N_schedule_in_force ["record", "day"] (defScope s_schedule_in_force) := ⟨rfl, rfl, rfl, by decide +kernel, rfl, by decide +kernel, by decide +kernel⟩
/-- what is known of a record that is asked -/
structure Ask (K : PySem.W.Frag) (A : RecA) (H : Hp) (m : RecM) (s : Vbptai.State) : Prop where
  at_ : RecAt K A H m
  rel : Rel m s
  well : Well s
  wide : Wide s
theorem Ask.stay {H' : Hp} (e : Ex H H') (h : Ask K A H m s) : Ask K A H' m s := ⟨h.at_.stay e, h.rel, h.well, h.wide⟩
def sp_schedule_in_force (K : PySem.W.Frag) : Sp := fun vs H Q _ => ∃ (A : RecA) (m : RecM) (s : Vbptai.State) (d : Nat), vs = [.ref A.R, .int d] ∧ Ask K A H m s ∧
  (Vbptai.inForce s d = none → ∀ H2, Ex H H2 → Q .non H2) ∧ (∀ x, Vbptai.inForce s d = some x → ∀ a H2, Ex H H2 → SchAt K (hid A.S H2) a (schM x) → Q (.ref a) H2)
theorem ok_schedule_in_force (T : Tx K mg) : Own P w K mg base CX0 1 "schedule_in_force" ["record", "day"] (sp_schedule_in_force K) := by
  refine own_mk T.d_schedule_in_force T.g_schedule_in_force (fun _ _ _ _ _ _ us hl => match us, hl with | [_, _], _ => rfl) fun fd F => ?_
  refine F.ok sc_schedule_in_force (fun vs H Q E h => by obtain ⟨_, _, _, _, rfl, _⟩ := h; rfl) (fun cdv A outer s H vs Q E hr h => ⟨_, PSs.nox
    (pss_cons (ps_lock (ps_setLc (i := 2) (own := [("begin", 3)]) (g := gName 3) rfl sc_schedule_in_force.nd rfl rfl (sw_true rfl rfl rfl (by decide +kernel)) (pi_keys (pe_fld (pv 0) rfl)) (blkOk_by (N := N_schedule_in_force) (sc := defScope s_schedule_in_force) (by decide +kernel)) (fun _ _ _ _ _ => by exact (pg_name (i := 3) sc_schedule_in_force.nd rfl (Or.inl rfl))) (fun _ _ _ _ _ => by exact (pts_one (pt_cmpR op_le (pv 3) (pv 1) (nomark _)))) (fun _ _ _ _ _ => by exact (pv 3))))
    (pss_cons (ps_if (pt_cmpR op_eq (pe_callB call_len_seq (by rfl) T.b_len PySem.boot_len (pa_cons (pv 2) pa_nil)) pe_int (nomark _))
      (pss_one (ps_ret pe_non))
      pss_nil)
    (pss_one (ps_ret (pe_dget (hu_of hr) (pe_fld (pv 0) rfl) (pe_callB (cr_max rfl) (by rfl) T.b_max (by decide +kernel) (pa_cons (pv 2) pa_nil)) (fun _ _ => rfl)))))), ?_⟩)
  obtain ⟨A, m, s, d, rfl, hA, k1, k2⟩ := h
  obtain ⟨kvs, hk, ht⟩ := hA.at_.sch
  have few : m.schedules.length ≤ 8 := by
    rw [hA.rel.sch.length_eq, List.length_map]
    exact hA.well.sfew
  obtain ⟨lw, o1, _⟩ := hA.at_.obj
  refine q_asgLk (el_keysF (fun x : SchM => V.int x.day) (fun x => V.int x.day) (fun x => decide (x.day ≤ (d : Int))) hk ht.keys (fun HL e => ev_fld (ev_var rfl) (e _ _ (Ne.symm hA.at_.neR.1) o1) T.k_Record T.n_Record_schedules lk_here) (by omega) (fun _ => rfl) (fun x HL e _ => et_test (ev_op (ev_var rfl) (ev_var rfl) rv_cmp)) fun x HL e _ _ => ev_var rfl) fun p H1 hp e1 h1 => ?_
  have hl : (((m.schedules.filter fun x => decide (x.day ≤ (d : Int))).map fun x => V.int x.day).length : Int) = ((m.schedules.filter fun x => decide (x.day ≤ (d : Int))).length : Int) := by rw [List.length_map]
  have inM : ∀ {y : Vbptai.Schedule}, y ∈ s.schedules → schM y ∈ m.schedules := fun hy => hA.rel.sch.mem_iff.mpr (List.mem_map.mpr ⟨_, hy, rfl⟩)
  have ofM : ∀ {y : SchM}, y ∈ m.schedules → ∃ z ∈ s.schedules, schM z = y := fun hy => List.mem_map.mp (hA.rel.sch.mem_iff.mp hy)
  refine q_when (et_test (ev_op (ev_is (ev_lenL (ev_var rfl) (sq_of h1)) (congrArg V.int hl)) ev_c rv_eqI)) (fun hb H2 e2 => ?_) (fun hb H2 e2 => ?_)
  · have h0 := of_decide_eq_true hb
    have hnil : m.schedules.filter (fun x => decide (x.day ≤ (d : Int))) = [] := List.eq_nil_of_length_eq_zero (by omega)
    refine s_ret ev_c fun H3 e3 => k1 ?_ H3 (e1.trans (e2.trans e3))
    unfold Vbptai.inForce
    refine List.getLast?_eq_none_iff.mpr (List.filter_eq_nil_iff.mpr fun y hy z => ?_)
    refine List.filter_eq_nil_iff.mp hnil _ (inM hy) (decide_eq_true ?_)
    have := of_decide_eq_true z
    show (y.day : Int) ≤ d
    omega
  · have h0 := of_decide_eq_false hb
    cases q : Vbptai.inForce s d with
    | none =>
      exfalso
      refine h0 ?_
      have : m.schedules.filter (fun x => decide (x.day ≤ (d : Int))) = [] := List.filter_eq_nil_iff.mpr fun y hy z => by
        obtain ⟨u, hu, rfl⟩ := ofM hy
        refine inForce_none q u hu ?_
        have := of_decide_eq_true z
        have z2 : (u.day : Int) ≤ d := this
        omega
      rw [this]
      rfl
    | some x =>
      obtain ⟨x1, x2, x3⟩ := inForce_some hA.wide q
      have hfind : ∃ v, valV kvs (Sum.inl (x.day : Int)) = some v ∧ schR K (hid A.S H) (schM x) v := by
        rcases ht.find (Sum.inl (x.day : Int)) with ⟨_, f2⟩ | ⟨u, v, f1, f2, f3⟩
        · exact absurd (decide_eq_true rfl) (List.find?_eq_none.mp f2 _ (inM x1))
        · obtain ⟨y, hy, rfl⟩ := ofM (List.mem_of_find?_eq_some f1)
          have hk2 : schK (schM y) = Sum.inl (x.day : Int) := by have z := List.find?_some f1; simpa using z
          have hd : (y.day : Int) = x.day := Sum.inl.inj hk2
          have : y = x := nodup_inj hA.well.days y hy x x1 (by omega)
          rw [this] at f3
          exact ⟨v, f2, f3⟩
      obtain ⟨v, hv, a, rfl, ha⟩ := hfind
      have e12 := e1.trans e2
      have h2 := e2 _ _ h1
      have mp : (m.schedules.filter fun x => decide (x.day ≤ (d : Int))).map (fun x => V.int x.day) = ((m.schedules.filter fun x => decide (x.day ≤ (d : Int))).map fun x => x.day).map V.int := by rw [List.map_map]; rfl
      rw [mp] at h2
      refine s_ret (ev_dget (k := Sum.inl (x.day : Int)) (rd_schedules T (hA.at_.stay e12) (ev_var rfl)) (ev_maxL (ev_var rfl) (sq_of h2) ?_ fun y hy => ?_) (e12 _ _ hk) hv) fun H3 e3 => k2 x q a H3 (e12.trans e3) (ha.stay (hid_mono (e12.trans e3)))
      · exact List.mem_map.mpr ⟨schM x, List.mem_filter.mpr ⟨inM x1, decide_eq_true (by show (x.day : Int) ≤ d; omega)⟩, rfl⟩
      · obtain ⟨u, hu, rfl⟩ := List.mem_map.mp hy
        obtain ⟨hu1, hu2⟩ := List.mem_filter.mp hu
        obtain ⟨y, hy2, rfl⟩ := ofM hu1
        have z : (y.day : Int) ≤ d := of_decide_eq_true hu2
        have := x3 y hy2 (by omega)
        show (y.day : Int) ≤ x.day
        omega
abbrev s_fee_in_force : Stmt := topS 18
abbrev N_fee_in_force : List Str := ["record", "day", "name", "schedule", "fee"]
theorem sc_fee_in_force : FnScope N_fee_in_force ["record", "day", "name"] (defScope s_fee_in_force) := ⟨rfl, rfl, rfl, by decide +kernel, rfl, by decide +kernel, by decide +kernel⟩
def sp_fee_in_force (K : PySem.W.Frag) : Sp := fun vs H Q _ => ∃ (A : RecA) (m : RecM) (s : Vbptai.State) (d : Nat) (r : Addr) (nm : List Nat), vs = [.ref A.R, .int d, .ref r] ∧ Ask K A H m s ∧ H r = some (.lst ((cI nm).map V.int)) ∧
  (Vbptai.feeOn s d nm = none → ∀ H2, Ex H H2 → Q .non H2) ∧ (∀ f, Vbptai.feeOn s d nm = some f → ∀ a H2, Ex H H2 → FeeAt K (hid A.S H2) (feeOf f) a → Q (.ref a) H2)
theorem rv_isN {H2 : Hp} {v : V} : RV (fun x y H Q => y = .non ∧ Q (.bl (decide (x = .non))) H) v .non H2 (.bl (decide (v = .non))) := fun H3 e3 Q q => ⟨rfl, q H3 (Ex.refl H3)⟩
theorem find_take {α : Type} {p : α → Bool} {l : List α} {i : Nat} {x : α} (hx : l[i]? = some x) (h0 : ∀ y ∈ l.take i, p y = false) (hp : p x = true) : l.find? p = some x := by
  have e : l = l.take i ++ x :: l.drop (i + 1) := by
    obtain ⟨hi, e⟩ := List.getElem?_eq_some_iff.mp hx
    rw [← e, ← List.drop_eq_getElem_cons hi, List.take_append_drop]
  rw [e, List.find?_append, List.find?_eq_none.mpr fun y hy => by rw [h0 y hy]; decide]
  show (x :: _).find? p = some x
  exact List.find?_cons_of_pos hp
theorem ok_fee_in_force (T : Tx K mg) : Own P w K mg base CX0 2 "fee_in_force" ["record", "day", "name"] (sp_fee_in_force K) := by
  refine own_mk T.d_fee_in_force T.g_fee_in_force (fun _ _ _ _ _ _ us hl => match us, hl with | [_, _, _], _ => rfl) fun fd F => ?_
  refine F.ok sc_fee_in_force (fun vs H Q E h => by obtain ⟨_, _, _, _, _, _, rfl, _⟩ := h; rfl) (fun cdv A outer s H vs Q E hr h => ⟨_, PSs.nox
    (pss_cons (ps_set (i := 3) sc_fee_in_force.nd rfl (Or.inl rfl) (pe_own (ok_schedule_in_force T) hr (by decide) pass0 (pa_cons (pv 0) (pa_cons (pv 1) pa_nil))))
    (pss_cons (ps_if (pt_cmpR op_isN (pv 3) pe_non (nomark _))
      (pss_one (ps_ret pe_non))
      pss_nil)
    (pss_cons (ps_for PassesOwn.never rfl (pi_list (pe_fld (pv 3) rfl)) (pg_name (i := 4) sc_fee_in_force.nd rfl (Or.inl rfl))
      (pss_one (ps_if (pt_cmpR (op_eqD hr.units) (pe_fld (pv 4) rfl) (pv 2) (nomark _))
        (pss_one (ps_ret (pv 4)))
        pss_nil)))
    (pss_one (ps_ret pe_non))))), ?_⟩)
  obtain ⟨A, m, s, d, r, nm, rfl, hA, hnm, k1, k2⟩ := h
  unfold Vbptai.feeOn at k1 k2
  refine q_asgC (ea_cons (ev_var rfl) (ea_cons (ev_var rfl) ea_nil)) fun H1 e1 => ⟨A, m, s, d, rfl, hA.stay e1, fun q H2 e2 => ?_, fun x q a H2 e2 ha => ?_⟩
  · rw [q] at k1
    refine q_when (et_test (ev_op (ev_var rfl) ev_c rv_isN)) (fun _ H3 e3 => ?_) (fun h => Bool.noConfusion h)
    exact s_ret ev_c fun H4 e4 => k1 rfl H4 (e1.trans (e2.trans (e3.trans e4)))
  · rw [q] at k1 k2
    refine q_when (et_test (ev_op (ev_var rfl) ev_c rv_isN)) (fun h => Bool.noConfusion h) (fun _ H3 e3 => ?_)
    obtain ⟨dx, tt, f, xs, g1, g2, g3, g4⟩ := ha
    have e13 := e1.trans (e2.trans e3)
    have g1' := e3 _ _ (hid_le _ _ g1)
    have g3' := e3 _ _ (hid_le _ _ g3)
    refine q_forLn (K := K) (xs := xs) (ev_fld (ev_var rfl) g1' T.k_Schedule T.n_Schedule_fees ((lk_past (by decide)).trans ((lk_past (by decide)).trans lk_here))) (sq_of g3') (fun i σ' H' => (∃ u, σ' = [some (.ref A.R), some (.int (d : Nat)), some (.ref r), some (.ref a), u]) ∧ Ex H3 H' ∧ ∀ y ∈ x.fees.take i, (y.name == nm) = false) (fun H4 e4 => ⟨⟨_, rfl⟩, e4, fun y hy => by cases hy⟩) (fun i σ' H' _ h => sq_of (h.2.1 _ _ g3')) (fun i v σ' H' hv h => ?_) (fun σ' H' h => ?_)
    · obtain ⟨⟨u, rfl⟩, e4, h0⟩ := h
      obtain ⟨fm, hfm, b, rfl, hb⟩ := paired_atR g4 hv
      obtain ⟨f0, hf0, rfl⟩ : ∃ f0, x.fees[i]? = some f0 ∧ feeOf f0 = fm := by
        have z : (x.fees.map feeOf)[i]? = some fm := hfm
        rw [List.getElem?_map] at z
        cases y : x.fees[i]? with
        | none => rw [y] at z; cases z
        | some f0 => rw [y] at z; exact ⟨f0, rfl, Option.some.inj z⟩
      have hb0 := hb
      obtain ⟨dx2, l2, b1, b2⟩ := hb.stay hid_le
      have e34 := e3.trans e4
      refine s_when (b := f0.name == nm) (et_is (et_test (ev_op (ev_fld (ev_var rfl) (e34 _ _ b1) T.k_Fee T.n_Fee_name lk_here) (ev_var rfl) (rv_eqInts (sq_of (e34 _ _ b2)) (sq_of ((e13.trans e4) _ _ hnm))))) ?_) (fun hb2 H5 e5 => ?_) (fun hb2 H5 e5 => ?_)
      · show decide (cI f0.name = cI nm) = _
        by_cases z : f0.name = nm
        · rw [z, decide_eq_true rfl]
          exact (beq_self_eq_true nm).symm
        · rw [decide_eq_false (fun w => z (cI_inj w))]
          exact (beq_eq_false_iff_ne.mpr z).symm
      · refine s_ret (ev_var rfl) fun H6 e6 => k2 f0 ?_ b H6 (e13.trans (e4.trans (e5.trans e6))) ?_
        · show x.fees.find? _ = _
          exact find_take hf0 h0 hb2
        · exact hb0.stay (hid_mono (e34.trans (e5.trans e6)))
      · refine ⟨⟨_, rfl⟩, e4.trans e5, fun y hy => ?_⟩
        rw [take_one hf0] at hy
        obtain hy | hy := List.mem_append.mp hy
        · exact h0 y hy
        · rw [List.mem_singleton.mp hy]
          exact hb2
    · obtain ⟨⟨u, rfl⟩, e4, h0⟩ := h
      refine s_ret ev_c fun H5 e5 => k1 ?_ H5 (e13.trans (e4.trans e5))
      show x.fees.find? _ = none
      refine List.find?_eq_none.mpr fun y hy => ?_
      rw [show xs.length = x.fees.length by rw [← g4.length]; exact List.length_map .., List.take_length] at h0
      rw [h0 y hy]
      decide
end
end FB
-- B7
set_option Elab.async false
set_option linter.all false
set_option maxRecDepth 100000
set_option maxHeartbeats 3900000
namespace FB
open PySem PySem.Spec PyProof.Rows L2 Evl
section
variable {K : PySem.W.Frag} {mg : Str → Option Value} {P : Program} {base : Heap} {w : World}
variable {σ : L2.St} {H : Hp} {ta tb tv te td : TE} {t : TT} {D : Ends} {tz tu : TS} {A : RecA} {m : RecM} {s : Vbptai.State}
abbrev s_price_of : Stmt := topS 19
abbrev N_price_of : List Str := ["fee", "units", "small", "price"]
theorem sc_price_of : FnScope N_price_of ["fee", "units", "small"] (defScope s_price_of) := ⟨rfl, rfl, rfl, by decide +kernel, rfl, by decide +kernel, by decide +kernel⟩
def sp_price_of (K : PySem.W.Frag) : Sp := fun vs H Q _ => ∃ (a : Addr) (f : Vbptai.Fee) (u : Nat) (sm : Bool), vs = [.ref a, .int u, .bl sm] ∧ FeeAt K H (feeOf f) a ∧ f.small ≤ 100 ∧ f.amount ≤ 999999999 ∧ ∀ H2, Ex H H2 → Q (.int (Vbptai.price f u sm : Nat)) H2
section
variable {f : Vbptai.Fee} {a dx l : Addr} (T : Tx K mg) (h : H a = some (.ins (He.ga K "Fee") dx (feeNames.zip (feeV l (feeOf f))))) (ho : Ev ta σ H (.ref a))
include T h ho
theorem fe_amount : Ev (tFld K ta "amount") σ H (.int (f.amount : Nat)) := ev_fld ho h T.k_Fee T.n_Fee_amount ((lk_past (by decide)).trans lk_here)
theorem fe_above : Ev (tFld K ta "above") σ H (.int (f.above.getD 0 : Nat)) := ev_fld ho h T.k_Fee T.n_Fee_above ((lk_past (by decide)).trans ((lk_past (by decide)).trans lk_here))
theorem fe_late : Ev (tFld K ta "late") σ H (.int (f.late : Nat)) := ev_fld ho h T.k_Fee T.n_Fee_late ((lk_past (by decide)).trans ((lk_past (by decide)).trans ((lk_past (by decide)).trans lk_here)))
theorem fe_small : Ev (tFld K ta "small") σ H (.int (f.small : Nat)) := ev_fld ho h T.k_Fee T.n_Fee_small ((lk_past (by decide)).trans ((lk_past (by decide)).trans ((lk_past (by decide)).trans ((lk_past (by decide)).trans lk_here))))
theorem fe_shared : Ev (tFld K ta "shared") σ H (.bl f.shared) := ev_fld ho h T.k_Fee T.n_Fee_shared ((lk_past (by decide)).trans ((lk_past (by decide)).trans ((lk_past (by decide)).trans ((lk_past (by decide)).trans ((lk_past (by decide)).trans lk_here)))))
end
theorem ok_price_of (T : Tx K mg) : Own P w K mg base CX0 1 "price_of" ["fee", "units", "small"] (sp_price_of K) := by
  refine own_mk T.d_price_of T.g_price_of (fun _ _ _ _ _ _ us hl => match us, hl with | [_, _, _], _ => rfl) fun fd F => ?_
  refine F.ok sc_price_of (fun vs H Q E h => by obtain ⟨_, _, _, _, rfl, _⟩ := h; rfl) (fun cdv A outer s H vs Q E hr h => ⟨_, PSs.nox
    (pss_cons (ps_set (i := 3) sc_price_of.nd rfl (Or.inl rfl) (pe_op op_mul (pe_fld (pv 0) rfl) (pe_callB (call_max2 rfl) (by rfl) T.b_max (by decide +kernel) (pa_cons pe_int (pa_cons (pe_op op_sub (pv 1) (pe_fld (pv 0) rfl)) pa_nil)))))
    (pss_cons (ps_if (pt_val (pv 2))
      (pss_one (ps_ret (pe_op op_sub (pv 3) (pe_op op_fdiv (pe_op op_mul (pv 3) (pe_fld (pv 0) rfl)) pe_int))))
      pss_nil)
    (pss_one (ps_ret (pv 3))))), ?_⟩)
  obtain ⟨a, f, u, sm, rfl, ⟨dx, l, h1, h2⟩, hs, ha, k⟩ := h
  have mx : (if ((u : Int) - ((f.above.getD 0 : Nat) : Int)) > 0 then ((u : Int) - ((f.above.getD 0 : Nat) : Int)) else 0) = ((u - f.above.getD 0 : Nat) : Int) := by
    split <;> omega
  refine q_asg (v := .int ((f.amount * (u - f.above.getD 0) : Nat) : Int)) (ev_is (ev_op (fe_amount T h1 (ev_var rfl)) (ev_is (ev_max2 ev_c (ev_op (ev_var rfl) (fe_above T h1 (ev_var rfl)) rv_I0)) (congrArg V.int mx)) (rv_I (.inl ⟨by omega, by omega⟩))) ?_) fun H1 e1 => ?_
  · congr 1
  unfold Vbptai.price at k
  generalize hfull : f.amount * (u - f.above.getD 0) = full at k ⊢
  refine q_when (et_B (ev_var rfl)) (fun hb H2 e2 => ?_) (fun hb H2 e2 => ?_)
  · dsimp only at k
    rw [if_pos hb] at k
    refine s_ret (ev_is (ev_op (ev_var rfl) (ev_op (ev_op (ev_var rfl) (fe_small T (e2 _ _ (e1 _ _ h1)) (ev_var rfl)) (rv_I (.inr ⟨by omega, by omega⟩))) ev_c (rv_I ⟨by decide, by decide⟩)) rv_I0) ?_) fun H3 e3 => k H3 (e1.trans (e2.trans e3))
    congr 1
    have le : full * f.small / 100 ≤ full := by
      have : full * f.small ≤ full * 100 := Nat.mul_le_mul_left _ hs
      omega
    have e : ((full : Int) * (f.small : Int)) / 100 = ((full * f.small / 100 : Nat) : Int) := by
      rw [← Int.natCast_mul]
      rfl
    rw [e]
    omega
  · dsimp only at k
    rw [if_neg (by rw [hb]; decide)] at k
    exact s_ret (ev_var rfl) fun H3 e3 => k H3 (e1.trans (e2.trans e3))
/-! ### events in their order -/
section
variable {a dx r : Addr} {x : EvM} (T : Tx K mg) (h : H a = some (.ins (He.ga K "Event") dx (eventNames.zip (evV r x)))) (ho : Ev ta σ H (.ref a))
include T h ho
theorem ev_kind : Ev (tFld K ta "kind") σ H (.int x.kind) := ev_fld ho h T.k_Event T.n_Event_kind lk_here
theorem ev_number : Ev (tFld K ta "number") σ H (.int x.number) := ev_fld ho h T.k_Event T.n_Event_number ((lk_past (by decide)).trans lk_here)
theorem ev_day : Ev (tFld K ta "day") σ H (.int x.day) := ev_fld ho h T.k_Event T.n_Event_day ((lk_past (by decide)).trans ((lk_past (by decide)).trans lk_here))
theorem ev_account : Ev (tFld K ta "account") σ H (.int x.account) := ev_fld ho h T.k_Event T.n_Event_account ((lk_past (by decide)).trans ((lk_past (by decide)).trans ((lk_past (by decide)).trans lk_here)))
theorem ev_source : Ev (tFld K ta "source") σ H (.int x.source) := ev_fld ho h T.k_Event T.n_Event_source ((lk_past (by decide)).trans ((lk_past (by decide)).trans ((lk_past (by decide)).trans ((lk_past (by decide)).trans lk_here))))
theorem ev_owner : Ev (tFld K ta "owner") σ H (.int x.owner) := ev_fld ho h T.k_Event T.n_Event_owner ((lk_past (by decide)).trans ((lk_past (by decide)).trans ((lk_past (by decide)).trans ((lk_past (by decide)).trans ((lk_past (by decide)).trans lk_here)))))
theorem ev_amount : Ev (tFld K ta "amount") σ H (.int x.amount) := ev_fld ho h T.k_Event T.n_Event_amount ((lk_past (by decide)).trans ((lk_past (by decide)).trans ((lk_past (by decide)).trans ((lk_past (by decide)).trans ((lk_past (by decide)).trans ((lk_past (by decide)).trans lk_here))))))
theorem ev_units : Ev (tFld K ta "units") σ H (.int x.units) := ev_fld ho h T.k_Event T.n_Event_units ((lk_past (by decide)).trans ((lk_past (by decide)).trans ((lk_past (by decide)).trans ((lk_past (by decide)).trans ((lk_past (by decide)).trans ((lk_past (by decide)).trans ((lk_past (by decide)).trans lk_here)))))))
theorem ev_about : Ev (tFld K ta "about") σ H (.int x.about) := ev_fld ho h T.k_Event T.n_Event_about ((lk_past (by decide)).trans ((lk_past (by decide)).trans ((lk_past (by decide)).trans ((lk_past (by decide)).trans ((lk_past (by decide)).trans ((lk_past (by decide)).trans ((lk_past (by decide)).trans ((lk_past (by decide)).trans lk_here))))))))
theorem ev_name : Ev (tFld K ta "name") σ H (.ref r) := ev_fld ho h T.k_Event T.n_Event_name ((lk_past (by decide)).trans ((lk_past (by decide)).trans ((lk_past (by decide)).trans ((lk_past (by decide)).trans ((lk_past (by decide)).trans ((lk_past (by decide)).trans ((lk_past (by decide)).trans ((lk_past (by decide)).trans ((lk_past (by decide)).trans lk_here)))))))))
end
abbrev s_event_order : Stmt := topS 26
abbrev N_event_order : List Str := ["event"]
theorem sc_event_order : FnScope N_event_order ["event"] (defScope s_event_order) := ⟨rfl, rfl, rfl, by decide +kernel, rfl, by decide +kernel, by decide +kernel⟩
def ordK (x : EvM) : List Int := [x.day, x.kind, x.number]
def sp_event_order (K : PySem.W.Frag) : Sp := fun vs H Q _ => ∃ (a : Addr) (x : EvM), vs = [.ref a] ∧ EvAt K H a x ∧ ∀ p H2, H p = none → Ex H H2 → H2 p = some (.tup ((ordK x).map V.int)) → Q (.ref p) H2
theorem ok_event_order (T : Tx K mg) : Own P w K mg base CX0 1 "event_order" ["event"] (sp_event_order K) := by
  refine own_mk T.d_event_order T.g_event_order (fun _ _ _ _ _ _ us hl => match us, hl with | [_], _ => rfl) fun fd F => ?_
  refine F.ok sc_event_order (fun vs H Q E h => by obtain ⟨_, _, rfl, _⟩ := h; rfl) (fun cdv A outer s H vs Q E hr h => ⟨_, PSs.nox
    (pss_one (ps_ret (pe_tup (pa_cons (pe_fld (pv 0) rfl) (pa_cons (pe_fld (pv 0) rfl) (pa_cons (pe_fld (pv 0) rfl) pa_nil)))))), ?_⟩)
  obtain ⟨a, x, rfl, ⟨dx, r, h1, h2⟩, k⟩ := h
  exact s_retU (eu_tup (ea_cons (ev_day T h1 (ev_var rfl)) (ea_cons (ev_kind T h1 (ev_var rfl)) (ea_cons (ev_number T h1 (ev_var rfl)) ea_nil))) (by show 3 ≤ 100000; decide)) k
theorem EvAt.uniq {a : Addr} {x y : EvM} (h1 : EvAt K H a x) (h2 : EvAt K H a y) : ordK x = ordK y := by
  obtain ⟨_, _, a1, _⟩ := h1
  obtain ⟨_, _, a2, _⟩ := h2
  rw [a1] at a2
  have e := HO.ins.inj (Option.some.inj a2)
  have e3 := e.2.2
  unfold evV eventNames at e3
  simp only [List.zip_cons_cons, List.cons.injEq, Prod.mk.injEq, V.int.injEq, true_and] at e3
  unfold ordK
  rw [e3.1, e3.2.1, e3.2.2.1]
open Classical in
noncomputable def keyAt (K : PySem.W.Frag) (H : Hp) (v : V) : List Int := if h : ∃ x, evR K H x v then ordK h.choose else [0]
theorem keyAt_eq {x : EvM} {v : V} (h : evR K H x v) : keyAt K H v = ordK x := by
  unfold keyAt
  rw [dif_pos ⟨x, h⟩]
  have h2 := (⟨x, h⟩ : ∃ x, evR K H x v).choose_spec
  obtain ⟨a, rfl, ha⟩ := h
  obtain ⟨b, e, hb⟩ := h2
  cases e
  exact hb.uniq ha
theorem paired_perm {α β : Type} {R : α → β → Prop} {ys zs : List β} (p : ys.Perm zs) : ∀ {l : List α}, Paired R l zs → ∃ l' : List α, l'.Perm l ∧ Paired R l' ys := by
  induction p with
  | nil => exact fun h => ⟨_, .refl _, h⟩
  | cons x p ih =>
    intro l h
    cases h with
    | cons h t =>
      obtain ⟨l', p', t'⟩ := ih t
      exact ⟨_, p'.cons _, .cons h t'⟩
  | swap x y l0 =>
    intro l h
    cases h with
    | cons h t =>
      cases t with
      | cons h2 t2 => exact ⟨_, .swap .., .cons h2 (.cons h t2)⟩
  | trans p1 p2 ih1 ih2 =>
    intro l h
    obtain ⟨l1, q1, t1⟩ := ih2 h
    obtain ⟨l2, q2, t2⟩ := ih1 t1
    exact ⟨l2, q2.trans q1, t2⟩
theorem Tabl.vals {α : Type} {key : α → Key} {R : α → V → Prop} {l : List α} {kvs : List (Key × V)} (t : Tabl key R l kvs) : Paired R l (kvs.map (·.2)) := by
  induction t with
  | nil => exact .nil
  | cons h t ih => exact .cons h.2 ih
/-- events by their order -/
theorem kind_rank (e : Vbptai.Event) : (evM e).kind = (Vbptai.rankOf e.deed : Int) + 3 := by
  obtain ⟨n, d, x⟩ := e
  cases x <;> rfl
theorem before_of {x y : Vbptai.Event} (h : lexI (ordK (evM y)) (ordK (evM x)) = false) (hn : x.num ≠ y.num) : Vbptai.before x y = true := by
  unfold ordK at h
  rw [evM_day, evM_day, evM_num, evM_num, kind_rank, kind_rank] at h
  unfold Vbptai.before
  rw [lexI_cons, lexI_cons, lexI_cons, lexI_nil] at h
  simp only [Bool.or_eq_true, decide_eq_true_eq, Bool.and_eq_true, beq_iff_eq]
  split at h
  · split at h
    · split at h
      · omega
      · have := (of_decide_eq_false h)
        omega
    · have := (of_decide_eq_false h)
      omega
  · have := (of_decide_eq_false h)
    omega
theorem before_asym {x y : Vbptai.Event} (h1 : Vbptai.before x y = true) (h2 : Vbptai.before y x = true) : False := by
  unfold Vbptai.before at h1 h2
  simp only [Bool.or_eq_true, decide_eq_true_eq, Bool.and_eq_true, beq_iff_eq] at h1 h2
  omega
abbrev s_events_in_order : Stmt := topS 27
abbrev N_events_in_order : List Str := ["record"]
theorem sc_events_in_order : FnScope N_events_in_order ["record"] (defScope s_events_in_order) := ⟨rfl, rfl, rfl, by decide +kernel, rfl, by decide +kernel, by decide +kernel⟩
def sp_events_in_order (K : PySem.W.Frag) : Sp := fun vs H Q _ => ∃ (A : RecA) (m : RecM) (s : Vbptai.State) (S : List Addr), vs = [.ref A.R] ∧ Ask K A (hid S H) m s ∧
  ∀ p xs H2, H p = none → Ex H H2 → H2 p = some (.lst xs) → Paired (fun e v => evR K (hid S H) (evM e) v) s.events xs → Q (.ref p) H2
theorem paired_mapL {α β γ : Type} {R : α → β → Prop} {f : γ → α} : ∀ {l : List γ} {ys : List β}, Paired R (l.map f) ys → Paired (fun c y => R (f c) y) l ys
  | [], _, h => by cases h; exact .nil
  | c :: l, _, h => by
    cases h with
    | cons h t => exact .cons h (paired_mapL t)
theorem paired_self {α β : Type} {f : α → β} : ∀ m : List α, Paired (fun (a : α) (b : β) => b = f a) m (m.map f)
  | [] => .nil
  | a :: m => .cons rfl (paired_self m)
theorem perm_map {α β : Type} {f : α → β} {l : List β} {m : List α} (p : l.Perm (m.map f)) : ∃ l' : List α, l'.Perm m ∧ l = l'.map f := by
  obtain ⟨l', p', t⟩ := paired_perm (R := fun (a : α) (b : β) => b = f a) p (l := m) (paired_self m)
  refine ⟨l', p', ?_⟩
  clear p p'
  induction t with
  | nil => rfl
  | cons h t ih => rw [List.map_cons, h, ih]
theorem paired_pair {R : Vbptai.Event → V → Prop} {S : V → V → Prop} {Q : Vbptai.Event → Vbptai.Event → Prop} (hq : ∀ a b x y, R a x → R b y → S x y → Q a b) : ∀ {l : List Vbptai.Event} {ys : List V}, Paired R l ys → ys.Pairwise S → l.Pairwise Q
  | _, _, .nil, _ => .nil
  | _, _, .cons (l₂ := l2) h t, hp => by
    obtain ⟨p1, p2⟩ := List.pairwise_cons.mp hp
    refine List.pairwise_cons.mpr ⟨fun b hb => ?_, paired_pair hq t p2⟩
    obtain ⟨i, hi⟩ := List.mem_iff_getElem?.mp hb
    obtain ⟨y, hy, hr⟩ := paired_at t hi
    exact hq _ b _ y h hr (p1 y (List.mem_of_getElem? hy))
theorem events_sorted {es : List Vbptai.Event} {ys : List V} (W : Well s) (Wd : Wide s) (p : es.Perm s.events) (t : Paired (fun e v => evR K H (evM e) v) es ys) (so : InKeys (keyAt K H) ys) : es = s.events := by
  have nd : (es.map (·.num)).Nodup := (p.map (·.num)).nodup_iff.mpr W.nums
  have nd2 : es.Pairwise fun x y => x.num ≠ y.num := List.pairwise_map.mp nd
  have o : es.Pairwise fun x y => lexI (ordK (evM y)) (ordK (evM x)) = false := paired_pair (fun a b x y ha hb hs => by
    rw [← keyAt_eq ha, ← keyAt_eq hb]
    exact hs) t so
  have o2 : es.Pairwise fun x y => Vbptai.before x y = true := (o.and nd2).imp fun h => before_of h.1 h.2
  exact List.Perm.eq_of_pairwise (fun a b _ _ h1 h2 => (before_asym h1 h2).elim) o2 Wd.evs p
theorem ok_events_in_order (T : Tx K mg) : Own P w K mg base CX0 4 "events_in_order" ["record"] (sp_events_in_order K) := by
  refine own_mk T.d_events_in_order T.g_events_in_order (fun _ _ _ _ _ _ us hl => match us, hl with | [_], _ => rfl) fun fd F => ?_
  refine F.ok sc_events_in_order (fun vs H Q E h => by obtain ⟨_, _, _, _, rfl, _⟩ := h; rfl) (fun cdv A outer s H vs Q E hr h => ⟨_, PSs.nox
    (pss_one (ps_ret (pe_callBK (cr_sortVals (k := 1) rfl hr) (by rfl) T.b_sorted (by decide +kernel) (pa_cons (pe_valsV (pe_fld (pv 0) rfl)) pa_nil) (pk_cons (pe_cref T.g_event_order) pk_nil)))), ?_⟩)
  obtain ⟨A, m, s, S, rfl, hA, k⟩ := h
  obtain ⟨kvs, hk0, ht⟩ := hA.at_.evs
  have hk := hid_le _ _ hk0
  have hv := ht.vals
  have rd : Ev (tFld K (tVar 0) "events") [some (.ref A.R)] H (.ref A.de) := rd_events T (hA.at_.stay hid_le) (ev_var rfl)
  show tFld K (tVar 0) "events" [some (.ref A.R)] H fun x H1 => ∃ d kvs, x = .ref d ∧ H1 d = some (.dK kvs) ∧ ∀ p, H1 p = none → rSortVals P w K mg base 1 [.ref p] [.ref (He.ga K "event_order")] (upd H1 p (ValO p d)) Q
  refine rd H (Ex.refl _) _ fun H1 e1 => ?_
  refine ⟨A.de, kvs, rfl, e1 _ _ hk, fun p hp => ?_⟩
  have e2 : Ex H1 (upd H1 p (ValO p A.de)) := Ex.new hp
  have e12 := e1.trans e2
  have item : ∀ v ∈ kvs.map (·.2), ∃ x a, v = V.ref a ∧ EvAt K (hid A.S (hid S H)) a x := fun v hv2 => by
    obtain ⟨i, hi⟩ := List.mem_iff_getElem?.mp hv2
    obtain ⟨x, _, a, rfl, ha⟩ := paired_atR hv hi
    exact ⟨x, a, rfl, ha⟩
  refine ⟨p, A.de, He.ga K "event_order", kvs, sp_event_order K, keyAt K (hid A.S (hid S H)), rfl, rfl, upd_same, e12 _ _ hk, ?_, (ok_event_order T).held (Nat.le_refl _), fun v hv2 => ?_, fun v hv2 => ?_, fun v hv2 H3 e3 Q' q' => ?_, fun ys l H3 hl e3 h3 pm so => ?_⟩
  · rw [ht.len, hA.rel.len]
    exact Nat.le_trans hA.well.few (by decide)
  · obtain ⟨x, a, rfl, _⟩ := item v hv2
    exact ⟨a, rfl⟩
  · obtain ⟨x, a, rfl, ha⟩ := item v hv2
    rw [keyAt_eq ⟨a, rfl, ha⟩]
    exact fun z => nomatch z
  · obtain ⟨x, a, rfl, ha⟩ := item v hv2
    refine ⟨a, x, rfl, ((ha.stay hid_le).stay hid_le).stay (e12.trans e3), fun p2 H4 _ e4 h4 => q' p2 H4 e4 ?_⟩
    rw [keyAt_eq ⟨a, rfl, ha⟩]
    exact h4
  · obtain ⟨l1, p1, t1⟩ := paired_perm pm hv
    obtain ⟨es, p2, rfl⟩ := perm_map (p1.trans hA.rel.evs)
    have t2 := paired_mapL t1
    have hes := events_sorted hA.well hA.wide p2 t2 so
    rw [hes] at t2
    exact k l ys H3 (fresh_back e12 hl) (e12.trans e3) h3 (Paired.mono (fun e v h => evR.stay hid_le h) t2)
abbrev s_days_of_change : Stmt := topS 46
abbrev N_days_of_change : List Str := ["events", "event", "days"]
theorem sc_days_of_change : FnScope N_days_of_change ["events"] (defScope s_days_of_change) := ⟨rfl, rfl, rfl, by decide +kernel, rfl, by decide +kernel, by decide +kernel⟩
def dayPut (e : Vbptai.Event) : List Int := if Vbptai.isCharge e = true then [(e.day : Int) + 30 + 1, (e.day : Int) + 180 + 1] else []
def daysM (es : List Vbptai.Event) : List Int := es.map (fun e => (e.day : Int)) ++ es.flatMap dayPut
def sp_days_of_change (K : PySem.W.Frag) : Sp := fun vs H Q _ => ∃ (p : Addr) (xs : List V) (es : List Vbptai.Event), vs = [.ref p] ∧ H p = some (.lst xs) ∧ Paired (fun e v => evR K H (evM e) v) es xs ∧ es.length ≤ 60 ∧
  ∀ (out : List Int) l H2, out.Pairwise (· < ·) → (∀ i, i ∈ out ↔ i ∈ daysM es) → H l = none → Ex H H2 → H2 l = some (.lst (out.map V.int)) → Q (.ref l) H2
theorem kind_charge (e : Vbptai.Event) : decide ((evM e).kind = 5) = Vbptai.isCharge e := by
  obtain ⟨n, d, x⟩ := e
  cases x <;> rfl
theorem dayPut_len (e : Vbptai.Event) : (dayPut e).length ≤ 2 := by
  unfold dayPut
  split
  · exact Nat.le_refl _
  · exact Nat.zero_le _
theorem flat_len : ∀ es : List Vbptai.Event, (es.flatMap dayPut).length ≤ 2 * es.length
  | [] => Nat.le_refl _
  | e :: es => by
    have h1 := dayPut_len e
    have h2 := flat_len es
    rw [List.flatMap_cons, List.length_append, List.length_cons]
    omega
theorem ok_days_of_change (T : Tx K mg) : Own P w K mg base CX0 1 "days_of_change" ["events"] (sp_days_of_change K) := by
  refine own_mk T.d_days_of_change T.g_days_of_change (fun _ _ _ _ _ _ us hl => match us, hl with | [_], _ => rfl) fun fd F => ?_
  refine F.ok sc_days_of_change (fun vs H Q E h => by obtain ⟨_, _, _, rfl, _⟩ := h; rfl) (fun cdv A outer s H vs Q E hr h => ⟨_, PSs.nox
    (pss_cons (ps_setLc (i := 2) (own := [("event", 1)]) (g := gName 1) (tt := tYes) rfl sc_days_of_change.nd rfl rfl (sw_true rfl rfl rfl (by decide +kernel)) (pi_list (pv 0)) (blkOk_by (N := N_days_of_change) (sc := defScope s_days_of_change) (by decide +kernel)) (fun _ _ _ _ _ => by exact (pg_name (i := 1) sc_days_of_change.nd rfl (Or.inl rfl))) (fun _ _ _ _ _ => by exact pts_nil) (fun _ _ _ _ _ => by exact (pe_fldK (K := K) rfl (pv 1) (by rfl))))
    (pss_cons (ps_for PassesOwn.never rfl (pi_list (pv 0)) (pg_name (i := 1) sc_days_of_change.nd rfl (Or.inl rfl))
      (pss_one (ps_if (pt_cmpR op_eq (pe_fld (pv 1) rfl) (pe_cint T.c_CHARGE) (nomark _))
        (pss_cons (ps_expr (pe_bm PySem.F.plainAttrs_list PySem.F.slot_list_append PySem.F.type_list_append mt_append (pv 2) (pa_cons (pe_op op_add (pe_op op_add (pe_fld (pv 1) rfl) (pe_cint T.c_DAYS_WITHOUT_SURCHARGE)) pe_int) pa_nil)))
        (pss_one (ps_expr (pe_bm PySem.F.plainAttrs_list PySem.F.slot_list_append PySem.F.type_list_append mt_append (pv 2) (pa_cons (pe_op op_add (pe_op op_add (pe_fld (pv 1) rfl) (pe_cint T.c_DAYS_BEFORE_LAPSE)) pe_int) pa_nil)))))
        pss_nil)))
    (pss_one (ps_ret (pe_sortSet rfl T.b_sorted T.b_set (pv 2)))))), ?_⟩)
  obtain ⟨p, xs, es, rfl, hp, hx, hz, k⟩ := h
  have hlen := hx.length
  obtain ⟨ks, ek1, ek2, hks⟩ := paired_zip hx
  have i1 : EvI (iList K (tVar 0)) [some (.ref p), none, none] H ks.length (fun i x => (ks.map (·.2))[i]? = some x) := by
    have := ei_list (K := K) (tl := tVar 0) (σ := [some (.ref p), none, none]) (ev_var rfl) (sq_of hp)
    rw [ek2, List.length_map] at this
    exact this
  have kl : ks.length ≤ 60 := by
    rw [ek1, List.length_map] at hz
    exact hz
  have l := el_map (te := tFld K (tVar 1) "day") (vs := [1]) (j := 1) (·.2) (fun q => V.int ((q.1.day : Nat) : Int)) i1 (fun i x y => y) (by omega) (fun _ => rfl) (fun q H1 e1 hq => by
    obtain ⟨a, ea, dx, r, g1, _⟩ := hks q hq
    rw [ea]
    have := ev_day T (e1 _ _ g1) (ev_var (i := 1) (σ := (wipe [some (.ref p), none, none] [1]).set 1 (some (.ref a))) rfl)
    rw [evM_day] at this
    exact this)
  have dl : ks.map (fun q => V.int ((q.1.day : Nat) : Int)) = (es.map fun e => ((e.day : Nat) : Int)).map V.int := by
    rw [ek1, List.map_map, List.map_map]
    rfl
  rw [dl] at l
  refine q_asgL l fun pd H1 hpd e1 h1 => ?_
  have npd : p ≠ pd := fun z => by
    rw [z, hpd] at hp
    cases hp
  refine q_forLn (K := K) (xs := xs) (ev_var rfl) (sq_of (e1 _ _ hp)) (fun i σ' H' => (∃ u, σ' = [some (.ref p), u, some (.ref pd)]) ∧ ExB pd H1 H' ∧ H' pd = some (.lst ((es.map (fun e => ((e.day : Nat) : Int)) ++ (es.take i).flatMap dayPut).map V.int))) (fun H2 e2 => ⟨⟨_, rfl⟩, fun b o _ h => e2 b o h, by rw [List.take_zero, List.flatMap_nil, List.append_nil]; exact e2 _ _ h1⟩) (fun i σ' H' _ h => sq_of (h.2.1 _ _ npd (e1 _ _ hp))) (fun i v σ' H' hv h => ?_) (fun σ' H' h => ?_)
  · obtain ⟨⟨u, rfl⟩, eb, hd⟩ := h
    obtain ⟨e, he, a, rfl, dx, r, g1, g2⟩ := paired_atR hx hv
    have ne : ∀ {b : Addr} {o : HO}, H b = some o → b ≠ pd := fun hb z => by
      rw [z, hpd] at hb
      cases hb
    have g1' := eb _ _ (ne g1) (e1 _ _ g1)
    have dy : ∀ {H2 : Hp} {σ2 : L2.St}, H2 a = some (.ins (He.ga K "Event") dx (eventNames.zip (evV r (evM e)))) → σ2[1]? = some (some (.ref a)) → Ev (tFld K (tVar 1) "day") σ2 H2 (.int ((e.day : Nat) : Int)) := fun h2 hs => by
      have := ev_day T h2 (ev_var hs)
      rw [evM_day] at this
      exact this
    have bound : ((es.map fun e => ((e.day : Nat) : Int)) ++ (es.take i).flatMap dayPut).length ≤ 200 := by
      have := flat_len (es.take i)
      rw [List.length_append, List.length_map]
      have : (es.take i).length ≤ es.length := by rw [List.length_take]; omega
      omega
    refine s_when (b := Vbptai.isCharge e) (et_is (et_test (ev_op (ev_kind T g1' (ev_var rfl)) ev_c rv_eqI)) (kind_charge e)) (fun hb H2 e2 => ?_) (fun hb H2 e2 => ?_)
    · refine q_app (e2 _ _ hd) (ev_var rfl) (ev_op (ev_op (dy (e2 _ _ g1') rfl) ev_c rv_I0) ev_c rv_I0) (by rw [List.length_map]; omega) fun H3 e3 => ?_
      have g3 : upd H3 pd (HO.lst (((es.map (fun e => ((e.day : Nat) : Int)) ++ (es.take i).flatMap dayPut).map V.int) ++ [V.int ((e.day : Int) + 30 + 1)])) a = some (.ins (He.ga K "Event") dx (eventNames.zip (evV r (evM e)))) := by
        rw [upd_ne (ne g1)]
        exact e3 _ _ (e2 _ _ g1')
      refine s_app upd_same (ev_var rfl) (ev_op (ev_op (dy g3 rfl) ev_c rv_I0) ev_c rv_I0) (by rw [List.length_append, List.length_map, List.length_singleton]; omega) fun H4 e4 => ⟨⟨_, rfl⟩, fun b o hb h => ?_, ?_⟩
      · rw [upd_ne hb]
        refine e4 _ _ ?_
        rw [upd_ne hb]
        exact e3 _ _ (e2 _ _ (eb b o hb h))
      · rw [upd_same, take_one he, List.flatMap_append, List.flatMap_cons, List.flatMap_nil, List.append_nil]
        unfold dayPut
        rw [if_pos hb]
        simp only [List.map_append, List.append_assoc, List.map_cons, List.map_nil, List.cons_append, List.nil_append]
    · refine ⟨⟨_, rfl⟩, fun b o hb h => e2 _ _ (eb b o hb h), ?_⟩
      rw [take_one he, List.flatMap_append, List.flatMap_cons, List.flatMap_nil, List.append_nil]
      have : dayPut e = [] := by
        unfold dayPut
        rw [if_neg (by rw [hb]; decide)]
      rw [this, List.append_nil]
      exact e2 _ _ hd
  · obtain ⟨⟨u, rfl⟩, eb, hd⟩ := h
    rw [← hlen, List.take_length] at hd
    refine ⟨_, rfl, pd, daysM es, rfl, sq_of hd, ?_, fun out q so mem hq => ?_⟩
    · have := flat_len es
      unfold daysM
      rw [List.length_append, List.length_map]
      omega
    · have e0 : Ex H H' := fun b o hb => eb b o (fun z => by rw [z, hpd] at hb; cases hb) (e1 _ _ hb)
      exact k out q _ so mem (fresh_back e0 hq) (e0.trans (Ex.new hq)) upd_same
end
end FB
-- B8
set_option Elab.async false
set_option linter.all false
set_option maxRecDepth 100000
set_option maxHeartbeats 3900000
namespace FB
open PySem PySem.Spec PyProof.Rows L2 Evl
open LamX NdefX
section
variable {K : PySem.W.Frag} {mg : Str → Option Value} {P : Program} {base : Heap} {w : World}
variable {σ : L2.St} {H H' : Hp} {ta tb tv te td : TE} {t : TT} {D : Ends} {tz tu : TS} {A : RecA} {m : RecM} {s : Vbptai.State} {B : BkA} {b : Vbptai.Books} {c d : Vbptai.Charge} {a dx : Addr} {v : V} {n k : Nat} {e : Vbptai.Event}
/-! ### making charges and books -/
abbrev s_Charge___init__ : Stmt := inClass (topS 9) 0
abbrev N_Charge___init__ : List Str := ["self", "event", "base", "late", "shared"]
theorem sc_Charge___init__ : FnScope N_Charge___init__ ["self", "event", "base", "late", "shared"] (defScope s_Charge___init__) := ⟨rfl, rfl, rfl, by decide +kernel, rfl, by decide +kernel, by decide +kernel⟩
def newCh (e : Vbptai.Event) (o bs lt : Nat) (sh : Bool) : Vbptai.Charge := { num := e.num, owner := o, day := e.day, base := bs, late := lt, extra := 0, paid := 0, state := 0, shared := sh }
def sp_Charge (K : PySem.W.Frag) : Sp := fun vs H Q _ => ∃ (p dx ev dy r : Addr) (e : Vbptai.Event) (o u bs lt : Nat) (f : List Nat) (sh : Bool), vs = [.ref p, .ref ev, .int bs, .int lt, .bl sh] ∧ H p = some (.ins (He.ga K "Charge") dx []) ∧ H ev = some (.ins (He.ga K "Event") dy (eventNames.zip (evV r (evM e)))) ∧ e.deed = .charge o u f ∧
  ∀ H2, ExB p H H2 → H2 p = some (chO K dx (newCh e o bs lt sh)) → Q .non H2
theorem evM_charge {o u : Nat} {f : List Nat} (h : e.deed = .charge o u f) : evM e = ⟨5, e.num, e.day, 0, 0, o, 0, u, 0, cI f⟩ := by
  obtain ⟨n, d, x⟩ := e
  cases h
  rfl
theorem mk_Charge (T : Tx K mg) : OwnC P w K mg base 1 "Charge" ["self", "event", "base", "late", "shared"] (sp_Charge K) := by
  refine ownC_mk T.d_Charge___init__ T.g_Charge T.i_Charge (fun _ _ _ _ _ _ us hl => match us, hl with | [_, _, _, _, _], _ => rfl) fun fd F => ?_
  refine F.ok sc_Charge___init__ (fun vs H Q E h => by obtain ⟨_, _, _, _, _, _, _, _, _, _, _, _, rfl, _⟩ := h; rfl) (fun cdv A outer s H vs Q E hr h => ⟨_, PSs.nox
    (pss_cons (ps_fld (pv 0) (pe_fld (pv 1) rfl) rfl)
    (pss_cons (ps_fld (pv 0) (pe_fld (pv 1) rfl) rfl)
    (pss_cons (ps_fld (pv 0) (pe_fld (pv 1) rfl) rfl)
    (pss_cons (ps_fld (pv 0) (pv 2) rfl)
    (pss_cons (ps_fld (pv 0) (pv 3) rfl)
    (pss_cons (ps_fld (pv 0) (pv 4) rfl)
    (pss_cons (ps_fld (pv 0) pe_int rfl)
    (pss_cons (ps_fld (pv 0) pe_int rfl)
    (pss_one (ps_fld (pv 0) (pe_cint T.c_OPEN) rfl)))))))))), ?_⟩)
  obtain ⟨p, dx, ev, dy, r, e, o, u, bs, lt, f, sh, rfl, hp, hev, hdeed, k⟩ := h
  rw [evM_charge hdeed] at hev
  have nep : ev ≠ p := fun z => by
    rw [z, hp] at hev
    have := (HO.ins.inj (Option.some.inj hev)).2.2
    exact absurd this (by unfold evV eventNames; simp)
  refine q_fldNew (ev_number T hev (ev_var rfl)) (ev_var rfl) hp T.k_Charge T.n_Charge_number fun H1 e1 => ?_
  have b1 : ∀ o, ExB p H (upd H1 p o) := fun o => exB_upd (fun b o _ h => e1 b o h)
  refine q_fldNew (ev_day T (b1 _ _ _ nep hev) (ev_var rfl)) (ev_var rfl) upd_same T.k_Charge T.n_Charge_day fun H2 e2 => ?_
  have b2 := fun o => exB_upd (o := o) (exB_ex (b1 _) e2)
  refine q_fldNew (ev_owner T (b2 _ _ _ nep hev) (ev_var rfl)) (ev_var rfl) upd_same T.k_Charge T.n_Charge_owner fun H3 e3 => ?_
  have b3 := fun o => exB_upd (o := o) (exB_ex (b2 _) e3)
  refine q_fldNew (ev_var rfl) (ev_var rfl) upd_same T.k_Charge T.n_Charge_base fun H4 e4 => ?_
  have b4 := fun o => exB_upd (o := o) (exB_ex (b3 _) e4)
  refine q_fldNew (ev_var rfl) (ev_var rfl) upd_same T.k_Charge T.n_Charge_late fun H5 e5 => ?_
  have b5 := fun o => exB_upd (o := o) (exB_ex (b4 _) e5)
  refine q_fldNew (ev_var rfl) (ev_var rfl) upd_same T.k_Charge T.n_Charge_shared fun H6 e6 => ?_
  have b6 := fun o => exB_upd (o := o) (exB_ex (b5 _) e6)
  refine q_fldNew ev_c (ev_var rfl) upd_same T.k_Charge T.n_Charge_surcharge fun H7 e7 => ?_
  have b7 := fun o => exB_upd (o := o) (exB_ex (b6 _) e7)
  refine q_fldNew ev_c (ev_var rfl) upd_same T.k_Charge T.n_Charge_paid fun H8 e8 => ?_
  have b8 := fun o => exB_upd (o := o) (exB_ex (b7 _) e8)
  refine s_fldNew ev_c (ev_var rfl) upd_same T.k_Charge T.n_Charge_state fun H9 e9 => ?_
  exact k _ (exB_upd (exB_ex (b8 _) e9)) upd_same
/-! ### taking an event -/
/-- what is ahead of an event -/
def Known (b : Vbptai.Books) (e : Vbptai.Event) : Prop := match e.deed with
  | .refund k => k ∈ b.charges.map (·.num)
  | .charge _ _ _ => e.num ∉ b.charges.map (·.num) ∧ b.charges.length < 60
  | _ => True
def spTake (K : PySem.W.Frag) (ok : Vbptai.Deed → Prop) : Sp := fun vs H Q _ => ∃ (A : RecA) (m : RecM) (s : Vbptai.State) (B : BkA) (b : Vbptai.Books) (e : Vbptai.Event) (a : Addr), vs = [.ref A.R, .ref B.R, .ref a] ∧ Ask K A (hid B.S H) m s ∧ BkAt K B H b ∧ WfB b ∧ EvAt K (hid B.S H) a (evM e) ∧ e ∈ s.events ∧ ok e.deed ∧ Known b e ∧
  ∀ B' H2, B'.P = B.P → B'.R = B.R → ExtN (hid B.S H) (hid B'.S H2) → BkAt K B' H2 (Vbptai.done s b e) → Q .non H2
theorem s_came {i : Int} (T : Tx K mg) (h : BkAt K B H b) (ho : Ev ta σ H (.ref B.R)) (hv : Ev tv σ H (.int i)) (go : ∀ H1, ExS B.S H H1 → BkAt K B H1 { b with income := i } → D.nx σ H1) : sFld K ta tv "came_in" D σ H := by
  obtain ⟨lh, h1, h2⟩ := h.obj
  refine s_fldSet hv ho h1 T.k_Books T.n_Books_came_in rfl fun H1 e1 => ?_
  rw [put_came]
  exact go _ ((ExS.of e1).upd (BkA.sixS (by simp [BkA.six]))) ((h.stay e1).putR (hid_mono e1 _ _ h2))
theorem q_given {i : Nat} (T : Tx K mg) (h : BkAt K B H b) (ho : Ev ta σ H (.ref B.R)) (hv : Ev tv σ H (.int (i : Nat))) (go : ∀ H1, ExS B.S H H1 → BkAt K B H1 { b with out := i } → tz D σ H1) : tSeq (sFld K ta tv "given_back") tz D σ H := by
  obtain ⟨lh, h1, h2⟩ := h.obj
  refine q_fldSet hv ho h1 T.k_Books T.n_Books_given_back rfl fun H1 e1 => ?_
  rw [put_given]
  exact go _ ((ExS.of e1).upd (BkA.sixS (by simp [BkA.six]))) ((h.stay e1).putR (hid_mono e1 _ _ h2))
theorem s_so (T : Tx K mg) (h : BkAt K B H b) (W : WfB b) (ho : Ev ta σ H (.ref B.R)) (hi : Ev tb σ H (.int (n : Nat))) (h1 : 1 ≤ n) (h2 : n ≤ 40) (hv : Ev tv σ H (.int (k : Nat))) (go : ∀ H1, ExS B.S H H1 → BkAt K B H1 { b with orders := b.orders.set (n - 1) k } → D.nx σ H1) : tAsg tv (gSub (tFld K ta "sources") tb rSetL) D σ H :=
  s_setL h.lo hv (bk_sources T h ho) hi (by rw [natV_len, W.ord]; omega) fun H1 e1 => by
    rw [natV_set h1]
    exact go _ ((ExS.of e1).upd (BkA.sixS (by simp [BkA.six]))) (h.stay e1).putO
/-- an event that is known, in the record -/
theorem Ask.event {x : Vbptai.Event} (hA : Ask K A H m s) (hx : x ∈ s.events) : ∃ kvs a, H A.de = some (.dK kvs) ∧ valV kvs (Sum.inl (x.num : Int)) = some (.ref a) ∧ EvAt K (hid A.S H) a (evM x) := by
  obtain ⟨kvs, hk, ht⟩ := hA.at_.evs
  have hf := hA.rel.find hA.well (x.num : Int)
  rw [eventAt_eq] at hf
  have he : Vbptai.eventAt s x.num = some x := by
    unfold Vbptai.eventAt
    cases q : s.events.find? (fun e => e.num == x.num) with
    | none => exact absurd (beq_self_eq_true x.num) (List.find?_eq_none.mp q x hx)
    | some y => rw [nodup_inj hA.well.nums y (List.mem_of_find?_eq_some q) x hx (by have z := List.find?_some q; simpa using z)]
  rw [he, Option.map_some] at hf
  rcases ht.find (Sum.inl (x.num : Int)) with ⟨_, f2⟩ | ⟨y, v, f1, f2, a, rfl, f3⟩
  · rw [hf] at f2
    cases f2
  · rw [hf] at f1
    cases f1
    exact ⟨kvs, a, hk, f2, f3⟩
theorem eventAt_mem {x : Vbptai.Event} (W : Well s) (hx : x ∈ s.events) : Vbptai.eventAt s x.num = some x := by
  unfold Vbptai.eventAt
  cases q : s.events.find? (fun e => e.num == x.num) with
  | none => exact absurd (beq_self_eq_true x.num) (List.find?_eq_none.mp q x hx)
  | some y => rw [nodup_inj W.nums y (List.mem_of_find?_eq_some q) x hx (by have z := List.find?_some q; simpa using z)]
abbrev s_take_deposit : Stmt := topS 36
abbrev N_take_deposit : List Str := ["record", "books", "event"]
theorem sc_take_deposit : FnScope N_take_deposit ["record", "books", "event"] (defScope s_take_deposit) := ⟨rfl, rfl, rfl, by decide +kernel, rfl, by decide +kernel, by decide +kernel⟩
def isDep : Vbptai.Deed → Prop
  | .deposit _ _ => True
  | _ => False
theorem ok_take_deposit (T : Tx K mg) : Own P w K mg base CX0 1 "take_deposit" ["record", "books", "event"] (spTake K isDep) := by
  refine own_mk T.d_take_deposit T.g_take_deposit (fun _ _ _ _ _ _ us hl => match us, hl with | [_, _, _], _ => rfl) fun fd F => ?_
  refine F.ok sc_take_deposit (fun vs H Q E h => by obtain ⟨_, _, _, _, _, _, _, rfl, _⟩ := h; rfl) (fun cdv A outer s H vs Q E hr h => ⟨_, PSs.nox
    (pss_cons (ps_asg (pe_op op_add (pe_ix ix_list (pe_fld (pv 1) rfl) (pe_fld (pv 2) rfl) (fun _ _ => rfl)) (pe_fld (pv 2) rfl)) (pg_sub (pe_fld (pv 1) rfl) (pe_fld (pv 2) rfl) set_list))
    (pss_one (ps_fld (pv 1) (pe_op op_add (pe_fld (pv 1) rfl) (pe_fld (pv 2) rfl)) rfl))), ?_⟩)
  obtain ⟨A, m, s, B, b, ⟨num, day, deed⟩, a, rfl, hA, hB, W, hE, he, hok, hk, k⟩ := h
  replace k := fun (B' : BkA) (H2 : Hp) p r (e : Ex (hid B.S H) (hid B'.S H2)) h => k B' H2 p r (ExtN.of e) h
  cases deed with
  | deposit ac n =>
    obtain ⟨a1, a2⟩ : 1 ≤ ac ∧ ac ≤ 20 := hA.wide.deeds _ he
    obtain ⟨dx, r, g0, _⟩ := hE
    have g1 := hid_le _ _ g0
    refine q_ac T hB W (ev_var rfl) (ev_account T g1 (ev_var rfl)) a1 a2 (ev_op (bk_ac T hB W (ev_var rfl) (ev_account T g1 (ev_var rfl)) a1 a2) (ev_amount T g1 (ev_var rfl)) rv_I0) fun H1 e1 h1 => ?_
    have g2 := hid_le _ _ (e1 _ _ g0)
    exact s_came T h1 (ev_var rfl) (ev_op (bk_came T h1 (ev_var rfl)) (ev_amount T g2 (ev_var rfl)) rv_I0) fun H2 e2 h2 => k B H2 rfl rfl (e1.trans e2) h2
  | _ => exact hok.elim
abbrev s_take_bounce : Stmt := topS 37
abbrev N_take_bounce : List Str := ["record", "books", "event", "deposit"]
theorem sc_take_bounce : FnScope N_take_bounce ["record", "books", "event"] (defScope s_take_bounce) := ⟨rfl, rfl, rfl, by decide +kernel, rfl, by decide +kernel, by decide +kernel⟩
def isBnc : Vbptai.Deed → Prop
  | .bounce _ => True
  | _ => False
theorem ok_take_bounce (T : Tx K mg) : Own P w K mg base CX0 1 "take_bounce" ["record", "books", "event"] (spTake K isBnc) := by
  refine own_mk T.d_take_bounce T.g_take_bounce (fun _ _ _ _ _ _ us hl => match us, hl with | [_, _, _], _ => rfl) fun fd F => ?_
  refine F.ok sc_take_bounce (fun vs H Q E h => by obtain ⟨_, _, _, _, _, _, _, rfl, _⟩ := h; rfl) (fun cdv A outer s H vs Q E hr h => ⟨_, PSs.nox
    (pss_cons (ps_set (i := 3) sc_take_bounce.nd rfl (Or.inl rfl) (pe_dget (hu_of hr) (pe_fld (pv 0) rfl) (pe_fld (pv 2) rfl) (fun _ _ => rfl)))
    (pss_cons (ps_asg (pe_op op_sub (pe_ix ix_list (pe_fld (pv 1) rfl) (pe_fld (pv 3) rfl) (fun _ _ => rfl)) (pe_fld (pv 3) rfl)) (pg_sub (pe_fld (pv 1) rfl) (pe_fld (pv 3) rfl) set_list))
    (pss_one (ps_fld (pv 1) (pe_op op_sub (pe_fld (pv 1) rfl) (pe_fld (pv 3) rfl)) rfl)))), ?_⟩)
  obtain ⟨A, m, s, B, b, ⟨num, day, deed⟩, a, rfl, hA, hB, W, hE, he, hok, hk, k⟩ := h
  replace k := fun (B' : BkA) (H2 : Hp) p r (e : Ex (hid B.S H) (hid B'.S H2)) h => k B' H2 p r (ExtN.of e) h
  cases deed with
  | bounce q =>
    obtain ⟨⟨xn, xd, xdeed⟩, x1, x2, x3, x4⟩ : ∃ x ∈ s.events, x.num = q ∧ Vbptai.isDeposit x = true ∧ x.day ≤ day := hA.wide.deeds _ he
    obtain ⟨dx, r, g0, _⟩ := hE
    have g1 := hid_le _ _ g0
    obtain rfl : xn = q := x2
    cases xdeed with
    | deposit ac n =>
      obtain ⟨a1, a2⟩ : 1 ≤ ac ∧ ac ≤ 20 := hA.wide.deeds _ x1
      obtain ⟨kvs, ad, hde, hval, dxx, rx, y0, _⟩ := hA.event x1
      have y0 := hid_le _ _ y0
      have y1 := hid_le _ _ y0
      have hdo : Vbptai.depositOf s xn = some (ac, n) := by
        unfold Vbptai.depositOf
        rw [eventAt_mem hA.well x1]
        rfl
      refine q_asg (ev_dget (k := Sum.inl (xn : Int)) (rd_events T (hA.at_.stay hid_le) (ev_var rfl)) (ev_about T g1 (ev_var rfl)) (hid_le _ _ hde) hval) fun H0 e0 => ?_
      have hB0 := hB.stay e0
      have y2 := e0 _ _ y1
      refine q_ac T hB0 W (ev_var rfl) (ev_account T y2 (ev_var rfl)) a1 a2 (ev_op (bk_ac T hB0 W (ev_var rfl) (ev_account T y2 (ev_var rfl)) a1 a2) (ev_amount T y2 (ev_var rfl)) rv_I0) fun H1 e1 h1 => ?_
      have y3 := hid_le _ _ (((ExS.of e0).trans e1) _ _ y0)
      refine s_came T h1 (ev_var rfl) (ev_op (bk_came T h1 (ev_var rfl)) (ev_amount T y3 (ev_var rfl)) rv_I0) fun H2 e2 h2 => k B H2 rfl rfl (((ExS.of e0).trans e1).trans e2) ?_
      show BkAt K B H2 (match Vbptai.depositOf s xn with | some p => _ | none => b)
      rw [hdo]
      exact h2
    | _ => cases x3
  | _ => exact hok.elim
abbrev s_take_payment : Stmt := topS 39
abbrev N_take_payment : List Str := ["record", "books", "event"]
theorem sc_take_payment : FnScope N_take_payment ["record", "books", "event"] (defScope s_take_payment) := ⟨rfl, rfl, rfl, by decide +kernel, rfl, by decide +kernel, by decide +kernel⟩
def isPay : Vbptai.Deed → Prop
  | .pay _ _ => True
  | _ => False
theorem ok_take_payment (T : Tx K mg) : Own P w K mg base CX0 1 "take_payment" ["record", "books", "event"] (spTake K isPay) := by
  refine own_mk T.d_take_payment T.g_take_payment (fun _ _ _ _ _ _ us hl => match us, hl with | [_, _, _], _ => rfl) fun fd F => ?_
  refine F.ok sc_take_payment (fun vs H Q E h => by obtain ⟨_, _, _, _, _, _, _, rfl, _⟩ := h; rfl) (fun cdv A outer s H vs Q E hr h => ⟨_, PSs.nox
    (pss_cons (ps_asg (pe_op op_add (pe_ix ix_list (pe_fld (pv 1) rfl) (pe_fld (pv 2) rfl) (fun _ _ => rfl)) (pe_fld (pv 2) rfl)) (pg_sub (pe_fld (pv 1) rfl) (pe_fld (pv 2) rfl) set_list))
    (pss_one (ps_fld (pv 1) (pe_op op_add (pe_fld (pv 1) rfl) (pe_fld (pv 2) rfl)) rfl))), ?_⟩)
  obtain ⟨A, m, s, B, b, ⟨num, day, deed⟩, a, rfl, hA, hB, W, hE, he, hok, hk, k⟩ := h
  replace k := fun (B' : BkA) (H2 : Hp) p r (e : Ex (hid B.S H) (hid B'.S H2)) h => k B' H2 p r (ExtN.of e) h
  cases deed with
  | pay o n =>
    obtain ⟨a1, a2⟩ : 1 ≤ o ∧ o ≤ 40 := hA.wide.deeds _ he
    obtain ⟨dx, r, g0, _⟩ := hE
    have g1 := hid_le _ _ g0
    refine q_cr (k := Vbptai.nth b.credits o + n) T hB W (ev_var rfl) (ev_owner T g1 (ev_var rfl)) a1 a2 (ev_is (ev_op (bk_cr T hB W (ev_var rfl) (ev_owner T g1 (ev_var rfl)) a1 a2) (ev_amount T g1 (ev_var rfl)) rv_I0) rfl) fun H1 e1 h1 => ?_
    have g2 := hid_le _ _ (e1 _ _ g0)
    exact s_came T h1 (ev_var rfl) (ev_op (bk_came T h1 (ev_var rfl)) (ev_amount T g2 (ev_var rfl)) rv_I0) fun H2 e2 h2 => k B H2 rfl rfl (e1.trans e2) h2
  | _ => exact hok.elim
abbrev s_take_order : Stmt := topS 40
abbrev N_take_order : List Str := ["record", "books", "event"]
theorem sc_take_order : FnScope N_take_order ["record", "books", "event"] (defScope s_take_order) := ⟨rfl, rfl, rfl, by decide +kernel, rfl, by decide +kernel, by decide +kernel⟩
def isOrd : Vbptai.Deed → Prop
  | .order _ _ => True
  | _ => False
theorem ok_take_order (T : Tx K mg) : Own P w K mg base CX0 1 "take_order" ["record", "books", "event"] (spTake K isOrd) := by
  refine own_mk T.d_take_order T.g_take_order (fun _ _ _ _ _ _ us hl => match us, hl with | [_, _, _], _ => rfl) fun fd F => ?_
  refine F.ok sc_take_order (fun vs H Q E h => by obtain ⟨_, _, _, _, _, _, _, rfl, _⟩ := h; rfl) (fun cdv A outer s H vs Q E hr h => ⟨_, PSs.nox
    (pss_one (ps_asg (pe_fld (pv 2) rfl) (pg_sub (pe_fld (pv 1) rfl) (pe_fld (pv 2) rfl) set_list))), ?_⟩)
  obtain ⟨A, m, s, B, b, ⟨num, day, deed⟩, a, rfl, hA, hB, W, hE, he, hok, hk, k⟩ := h
  replace k := fun (B' : BkA) (H2 : Hp) p r (e : Ex (hid B.S H) (hid B'.S H2)) h => k B' H2 p r (ExtN.of e) h
  cases deed with
  | order ac o =>
    obtain ⟨a0, a1, a2⟩ : ac ≤ 20 ∧ 1 ≤ o ∧ o ≤ 40 := hA.wide.deeds _ he
    obtain ⟨dx, r, g0, _⟩ := hE
    have g1 := hid_le _ _ g0
    exact s_so (k := ac) T hB W (ev_var rfl) (ev_owner T g1 (ev_var rfl)) a1 a2 (ev_source T g1 (ev_var rfl)) fun H1 e1 h1 => k B H1 rfl rfl e1 h1
  | _ => exact hok.elim
abbrev s_take_refund : Stmt := topS 41
abbrev N_take_refund : List Str := ["record", "books", "event", "charge"]
theorem sc_take_refund : FnScope N_take_refund ["record", "books", "event"] (defScope s_take_refund) := ⟨rfl, rfl, rfl, by decide +kernel, rfl, by decide +kernel, by decide +kernel⟩
def isRef : Vbptai.Deed → Prop
  | .refund _ => True
  | _ => False
theorem look_ch : ∀ {l : List Vbptai.Charge} {cs : List (Addr × Addr)} {c : Vbptai.Charge}, l.length = cs.length → (l.map (·.num)).Nodup → c ∈ l → ∃ q, (c, q) ∈ l.zip cs ∧ valV (chTab (l.map (·.num)) (cs.map (·.1))) (Sum.inl (c.num : Int)) = some (.ref q.1)
  | [], _, _, _, _, h => nomatch h
  | _ :: _, [], _, h, _, _ => nomatch h
  | x :: l, y :: cs, c, hl, nd, hc => by
    obtain ⟨n1, n2⟩ := List.nodup_cons.mp (show (x.num :: l.map (·.num)).Nodup from nd)
    obtain rfl | hc := List.mem_cons.mp hc
    · exact ⟨y, List.mem_cons_self .., valV_pos (p := ((Sum.inl (c.num : Int) : Key), V.ref y.1)) rfl⟩
    · obtain ⟨q, h1, h2⟩ := look_ch (cs := cs) (by simpa using hl) n2 hc
      refine ⟨q, List.mem_cons_of_mem _ h1, ?_⟩
      refine (valV_neg (p := ((Sum.inl (x.num : Int) : Key), V.ref y.1)) fun z => ?_).trans h2
      have : (x.num : Int) = c.num := Sum.inl.inj z
      exact n1 (List.mem_map.mpr ⟨c, hc, by omega⟩)
theorem BkAt.look (h : BkAt K B H b) (W : WfB b) (hc : c ∈ b.charges) : ∃ a dx, (c, (a, dx)) ∈ b.charges.zip B.cs ∧ valV (chTab (b.charges.map (·.num)) B.as) (Sum.inl (c.num : Int)) = some (.ref a) := by
  obtain ⟨⟨a, dx⟩, h1, h2⟩ := look_ch h.len W.nums hc
  exact ⟨a, dx, h1, h2⟩
theorem map_given {l : List Vbptai.Charge} (nd : (l.map (·.num)).Nodup) (hc : c ∈ l) : (l.map fun x => if x.num = c.num then { x with paid := 0, state := 3 } else x) = setCh l c.num { c with paid := 0, state := 3 } := by
  unfold setCh
  refine List.map_congr_left fun x hx => ?_
  by_cases z : x.num = c.num
  · rw [if_pos z, if_pos z, nodup_inj nd x hx c hc z]
  · rw [if_neg z, if_neg z]
theorem ok_take_refund (T : Tx K mg) : Own P w K mg base CX0 1 "take_refund" ["record", "books", "event"] (spTake K isRef) := by
  refine own_mk T.d_take_refund T.g_take_refund (fun _ _ _ _ _ _ us hl => match us, hl with | [_, _, _], _ => rfl) fun fd F => ?_
  refine F.ok sc_take_refund (fun vs H Q E h => by obtain ⟨_, _, _, _, _, _, _, rfl, _⟩ := h; rfl) (fun cdv A outer s H vs Q E hr h => ⟨_, PSs.nox
    (pss_cons (ps_set (i := 3) sc_take_refund.nd rfl (Or.inl rfl) (pe_dget (hu_of hr) (pe_fld (pv 1) rfl) (pe_fld (pv 2) rfl) (fun _ _ => rfl)))
    (pss_one (ps_if (pt_cmpR op_eq (pe_fld (pv 3) rfl) (pe_cint T.c_PAID) (nomark _))
      (pss_cons (ps_fld (pv 1) (pe_op op_add (pe_fld (pv 1) rfl) (pe_fld (pv 3) rfl)) rfl)
      (pss_cons (ps_fld (pv 3) pe_int rfl)
      (pss_one (ps_fld (pv 3) (pe_cint T.c_GIVEN_BACK) rfl))))
      pss_nil))), ?_⟩)
  obtain ⟨A, m, s, B, b, ⟨num, day, deed⟩, a, rfl, hA, hB, W, hE, he, hok, hk, k⟩ := h
  replace k := fun (B' : BkA) (H2 : Hp) p r (e : Ex (hid B.S H) (hid B'.S H2)) h => k B' H2 p r (ExtN.of e) h
  cases deed with
  | refund q =>
    obtain ⟨dx, r, g0, _⟩ := hE
    have g1 := hid_le _ _ g0
    obtain ⟨c, hc, rfl⟩ : ∃ c ∈ b.charges, c.num = q := List.mem_map.mp hk
    obtain ⟨ac, dc, hm, hval⟩ := hB.look W hc
    have hdone : Vbptai.done s b ⟨num, day, .refund c.num⟩ = if c.state = 1 then { b with out := b.out + c.paid, charges := setCh b.charges c.num { c with paid := 0, state := 3 } } else b := by
      show (match b.charges.find? fun x => x.num == c.num with | none => b | some c => _) = _
      rw [find_num W.nums hc]
      dsimp only
      rw [map_given W.nums hc]
    rw [hdone] at k
    refine q_asg (ev_dget (k := Sum.inl (c.num : Int)) (bk_charges T hB (ev_var rfl)) (ev_about T g1 (ev_var rfl)) hB.dc hval) fun H0 e0 => ?_
    have hB0 := hB.stay e0
    refine s_when (b := decide (c.state = 1)) (et_test (ev_op (ch_state T (hB0.ch hm) (ev_var rfl)) ev_c (rv_eqN (m := 1)))) (fun hb H1 e1 => ?_) (fun hb H1 e1 => ?_)
    · rw [if_pos (of_decide_eq_true hb)] at k
      have hB1 := hB0.stay e1
      refine q_given (i := b.out + c.paid) T hB1 (ev_var rfl) (ev_is (ev_op (bk_given T hB1 (ev_var rfl)) (ch_paid T (hB1.ch hm) (ev_var rfl)) rv_I0) rfl) fun H2 e2 h2 => ?_
      refine q_paid (n := 0) T (h2.ch (c := c) hm) (ev_var rfl) ev_c fun H3 e3 => ?_
      have h3 := (h2.stay e3).putCh (d := { c with paid := 0 }) hm W.nums rfl
      have hm3 : (({ c with paid := 0 } : Vbptai.Charge), (ac, dc)) ∈ (setCh b.charges c.num { c with paid := 0 }).zip B.cs := setCh_zip hm
      refine s_state (n := 3) T (h3.ch hm3) (ev_var rfl) ev_c fun H4 e4 => ?_
      refine k B _ rfl rfl (((((((ExS.of (e0.trans e1)).trans e2).trans (ExS.of e3)).upd (hB.asS hm)).trans (ExS.of e4)).upd (hB.asS hm))) ?_
      have h4 := (h3.stay e4).putCh (d := { c with paid := 0, state := 3 }) hm3 (by show ((setCh b.charges c.num _).map (·.num)).Nodup; rw [setCh_nums (k := c.num) (by rfl)]; exact W.nums) rfl
      dsimp only at h4
      rw [setCh_twice (k := c.num) (by rfl)] at h4
      exact h4
    · rw [if_neg (of_decide_eq_false hb)] at k
      exact k B H1 rfl rfl (ExS.of (e0.trans e1)) (hB0.stay e1)
  | _ => exact hok.elim
end
end FB
-- B9
set_option Elab.async false
set_option linter.all false
set_option maxRecDepth 100000
set_option maxHeartbeats 3900000
namespace FB
open PySem PySem.Spec PyProof.Rows L2 Evl
open LamX NdefX
section
variable {K : PySem.W.Frag} {mg : Str → Option Value} {P : Program} {base : Heap} {w : World}
variable {σ : L2.St} {H H' : Hp} {ta tb tv te td ty : TE} {t : TT} {D : Ends} {tz tu : TS} {A : RecA} {m : RecM} {s : Vbptai.State} {B : BkA} {b : Vbptai.Books} {c d : Vbptai.Charge} {a dx : Addr} {v : V} {n k : Nat} {e : Vbptai.Event}
theorem s_dputQ {d : Addr} {kvs : List (Key × V)} {k : Key} {Pr : V → Hp → Hp → Prop} (hv : EvQ tv σ H Pr) (hd : Ev td σ H (.ref d)) (hy : Ev ty σ H (kV k)) (h : H d = some (.dK kvs)) (hl : kvs.length < sizeLine) (c : ∀ v H1 H2, Ex H H1 → Pr v H H1 → Ex H1 H2 → D.nx σ (upd H2 d (.dK (putK kvs k v)))) : sDPut td ty tv D σ H :=
  hv H (Ex.refl H) _ fun v H1 e1 hp => hd H1 e1 _ fun H2 e2 => hy H2 (e1.trans e2) _ fun H3 e3 => ⟨d, _, rfl, DPut.k (((e1.trans e2).trans e3) _ _ h) hl, c v H1 H3 e1 hp (e2.trans e3)⟩
theorem valV_sml (o : Int) : ∀ l : List (Int × Int), valV (smlK l) (Sum.inl o) = (lookI l o).map V.int
  | [] => rfl
  | q :: r => by
    unfold smlK lookI
    rw [List.map_cons]
    by_cases c : q.1 = o
    · rw [valV_pos (p := ((Sum.inl q.1 : Key), V.int q.2)) (by rw [c]), List.find?_cons_of_pos (by rw [c]; exact decide_eq_true rfl)]
      rfl
    · rw [valV_neg (p := ((Sum.inl q.1 : Key), V.int q.2)) (fun z => c (Sum.inl.inj z)), List.find?_cons_of_neg (by rw [decide_eq_false c]; decide)]
      exact valV_sml o r
theorem small_is (R : Rel m s) (o : Nat) : decide (((lookI m.smalls o).getD 0) = 1) = s.smalls.contains o := by
  have h := R.sml o
  by_cases z : o ∈ s.smalls
  · rw [h.mpr z, List.contains_iff_mem.mpr z]
    rfl
  · have n : s.smalls.contains o = false := by
      cases q : s.smalls.contains o with
      | false => rfl
      | true => exact absurd (List.contains_iff_mem.mp q) z
    rw [n]
    refine decide_eq_false fun w => z (h.mp ?_)
    cases q : lookI m.smalls o with
    | none =>
      rw [q] at w
      cases w
    | some i =>
      rw [q] at w
      exact congrArg some w
theorem more_ex {x : Addr} {o : HO} (hB : BkAt K B H b) (e : Ex H H') (hx : H x = none) : Ex (hid B.S H) (hid (B.more x dx).S (upd H' B.dc o)) := fun y u hy => by
  obtain ⟨y1, y2⟩ := hid_of hy
  have mS : (B.more x dx).S = B.S ++ [x] := by
    show B.six ++ (B.cs ++ [(x, dx)]).map (·.1) = (B.six ++ B.cs.map (·.1)) ++ [x]
    rw [List.map_append, List.append_assoc]
    rfl
  rw [hid_at, upd_ne (fun z => y1 (by rw [z]; exact BkA.sixS (by simp [BkA.six])))]
  · exact e _ _ y2
  · rw [mS]
    intro z
    rcases List.mem_append.mp z with z | z
    · exact y1 z
    · rw [List.mem_singleton.mp z, hx] at y2
      cases y2
theorem feeOn_ok (W : Wide s) {dd : Nat} {nm : List Nat} {f : Vbptai.Fee} (h : Vbptai.feeOn s dd nm = some f) : f.late ≤ 100 ∧ f.small ≤ 100 ∧ f.amount ≤ 999999999 := by
  unfold Vbptai.feeOn at h
  cases q : Vbptai.inForce s dd with
  | none =>
    rw [q] at h
    cases h
  | some x =>
    rw [q] at h
    exact W.fees x (inForce_some W q).1 f (List.mem_of_find?_eq_some h)
/-- charges[event.number] = Charge(event, ..) -/
theorem s_charge {o u bs lt : Nat} {f : List Nat} {sh : Bool} {ev dy r : Addr} {te1 te2 te3 tB tE : TE} {E : XK} (T : Tx K mg) (hB : BkAt K B H b) (W : WfB b) (hev : H ev = some (.ins (He.ga K "Event") dy (eventNames.zip (evV r (evM e))))) (hd : e.deed = .charge o u f) (hk : e.num ∉ b.charges.map (·.num)) (hB0 : Ev tB σ H (.ref B.R)) (hE0 : Ev tE σ H (.ref ev))
    (h1 : Ev te1 σ H (.int (bs : Nat))) (h2 : Ev te2 σ H (.int (lt : Nat))) (h3 : Ev te3 σ H (.bl sh))
    (go : ∀ x dx H2, Ex (hid B.S H) (hid (B.more x dx).S H2) → BkAt K (B.more x dx) H2 { b with charges := b.charges ++ [newCh e o bs lt sh] } → D.nx σ H2) :
    sDPut (tFld K tB "charges") (tFld K tE "number") (tMake (He.ga K "Charge") (sp_Charge K) [] E (tCons tE (tCons te1 (tCons te2 (tCons te3 tNil))))) D σ H := by
  have hlen : (chTab (b.charges.map (·.num)) B.as).length < sizeLine := by
    unfold chTab
    rw [List.length_map, List.length_zip, List.length_map]
    have := W.few
    exact Nat.lt_of_le_of_lt (Nat.le_trans (Nat.min_le_left ..) this) (by decide)
  have hnum : Ev (tFld K tE "number") σ H (kV (Sum.inl (e.num : Int))) := by
    have := ev_number T hev hE0
    rw [evM_num] at this
    exact this
  refine s_dputQ (eq_makeE (fs := chNames.zip (chV (newCh e o bs lt sh))) (ea_cons hE0 (ea_cons h1 (ea_cons h2 (ea_cons h3 ea_nil)))) (fun x dx H1 Q e1 hx q => ⟨x, dx, ev, dy, r, e, o, u, bs, lt, f, sh, rfl, hx, e1 _ _ hev, hd, q⟩)) (bk_charges T hB hB0) hnum hB.dc hlen fun v H1 H2 e1 hv e2 => ?_
  obtain ⟨x, dx, rfl, nx, hx⟩ := hv
  exact go x dx _ (more_ex hB (e1.trans e2) nx) (hB.addCh nx (e2 _ _ hx) (e1.trans e2) hk)
abbrev s_take_charge : Stmt := topS 38
abbrev N_take_charge : List Str := ["record", "books", "event", "fee", "base"]
theorem sc_take_charge : FnScope N_take_charge ["record", "books", "event"] (defScope s_take_charge) := ⟨rfl, rfl, rfl, by decide +kernel, rfl, by decide +kernel, by decide +kernel⟩
def isChg : Vbptai.Deed → Prop
  | .charge _ _ _ => True
  | _ => False
theorem ok_take_charge (T : Tx K mg) : Own P w K mg base CX0 3 "take_charge" ["record", "books", "event"] (spTake K isChg) := by
  refine own_mk T.d_take_charge T.g_take_charge (fun _ _ _ _ _ _ us hl => match us, hl with | [_, _, _], _ => rfl) fun fd F => ?_
  refine F.ok sc_take_charge (fun vs H Q E h => by obtain ⟨_, _, _, _, _, _, _, rfl, _⟩ := h; rfl) (fun cdv A outer s H vs Q E hr h => ⟨_, PSs.nox
    (pss_cons (ps_set (i := 3) sc_take_charge.nd rfl (Or.inl rfl) (pe_own (ok_fee_in_force T) hr (by decide) pass0 (pa_cons (pv 0) (pa_cons (pe_fld (pv 2) rfl) (pa_cons (pe_fld (pv 2) rfl) pa_nil)))))
    (pss_one (ps_if (pt_cmpR op_isN (pv 3) pe_non (nomark _))
      (pss_one (ps_dput (hu_of hr) (pe_fld (pv 1) rfl) (pe_fld (pv 2) rfl) (pe_ownMk (mk_Charge T) hr (by decide) pass0 (pa_cons (pv 2) (pa_cons pe_int (pa_cons pe_int (pa_cons pe_bl pa_nil))))) rfl))
      (pss_cons (ps_set (i := 4) sc_take_charge.nd rfl (Or.inl rfl) (pe_own (ok_price_of T) hr (by decide) pass0 (pa_cons (pv 3) (pa_cons (pe_fld (pv 2) rfl) (pa_cons (pe_cmpR op_eq (pe_dget2 (hu_of hr) (pe_fld (pv 0) rfl) (pe_fld (pv 2) rfl) pe_int (by exact ⟨rfl, rfl, rfl, rfl⟩)) pe_int (nomark _)) pa_nil)))))
      (pss_one (ps_dput (hu_of hr) (pe_fld (pv 1) rfl) (pe_fld (pv 2) rfl) (pe_ownMk (mk_Charge T) hr (by decide) pass0 (pa_cons (pv 2) (pa_cons (pv 4) (pa_cons (pe_fld (pv 3) rfl) (pa_cons (pe_fld (pv 3) rfl) pa_nil))))) rfl)))))), ?_⟩)
  obtain ⟨A, m, s, B, b, ⟨num, day, deed⟩, a, rfl, hA, hB, W, hE, he, hok, hk, k⟩ := h
  replace k := fun (B' : BkA) (H2 : Hp) p r (e : Ex (hid B.S H) (hid B'.S H2)) h => k B' H2 p r (ExtN.of e) h
  cases deed with
  | charge o u nm =>
    obtain ⟨a1, a2, a3⟩ : 1 ≤ o ∧ o ≤ 40 ∧ u ≤ 10000 := hA.wide.deeds _ he
    obtain ⟨dx, r, g0, n0⟩ := hE
    have g1 := hid_le _ _ g0
    have n1 := hid_le _ _ n0
    refine q_asgC (ea_cons (ev_var rfl) (ea_cons (ev_day T g1 (ev_var rfl)) (ea_cons (ev_name T g1 (ev_var rfl)) ea_nil))) fun H1 e1 => ⟨A, m, s, day, r, nm, rfl, (hA.stay hid_le).stay e1, e1 _ _ n1, fun q H2 e2 => ?_, fun f q af H2 e2 hf => ?_⟩
    · have e12 := e1.trans e2
      refine s_if (b := true) (et_test (ev_op (ev_var rfl) ev_c rv_isN)) (fun _ H3 e3 => ?_) (fun h => nomatch h)
      have e13 := e12.trans e3
      refine s_charge (e := ⟨num, day, .charge o u nm⟩) (bs := 0) (lt := 0) (sh := false) T (hB.stay e13) W (e13 _ _ g1) rfl hk.1 (ev_var rfl) (ev_var rfl) ev_c ev_c ev_c fun x dx H4 ee h4 => k (B.more x dx) H4 rfl rfl ((hid_mono e13).trans ee) ?_
      show BkAt K _ H4 (match Vbptai.feeOn s day nm with | none => _ | some f => _)
      rw [q]
      exact h4
    · have e12 := e1.trans e2
      obtain ⟨o1, o2, o3⟩ := feeOn_ok hA.wide q
      refine s_if (b := false) (et_test (ev_op (ev_var rfl) ev_c rv_isN)) (fun h => nomatch h) (fun _ H3 e3 => ?_)
      have e13 := e12.trans e3
      have hf3 : FeeAt K H3 (feeOf f) af := (hf.stay hid_le).stay e3
      have hR3 := (hA.at_.stay hid_le).stay e13
      have g3 := e13 _ _ g1
      have sm : ∀ {σ2 : L2.St}, σ2[0]? = some (some (.ref A.R)) → σ2[2]? = some (some (.ref a)) → Ev (tOp rEq (tDGet2 (tFld K (tVar 0) "small") (tFld K (tVar 2) "owner") (tC (.int 0))) (tC (.int 1))) σ2 H3 (.bl (s.smalls.contains o)) := fun z0 z2 => by
        have x1 := ev_dget2 (k := Sum.inl (o : Int)) (rd_small T hR3 (ev_var z0)) (ev_owner T g3 (ev_var z2)) (ev_c (v := .int 0)) hR3.sml
        have x2 : (valV (smlK m.smalls) (Sum.inl (o : Int))).getD (.int 0) = .int ((lookI m.smalls o).getD 0) := by
          rw [valV_sml]
          cases lookI m.smalls (o : Int) <;> rfl
        rw [← small_is hA.rel o]
        exact ev_op (ev_is x1 x2) ev_c rv_eqI
      refine q_asg (v := .int (Vbptai.price f u (s.smalls.contains o) : Nat)) (ev_call (ea_cons (ev_var rfl) (ea_cons (ev_units T g3 (ev_var rfl)) (ea_cons (sm rfl rfl) ea_nil))) fun H4 e4 Q q2 E => ⟨af, f, u, _, rfl, hf3.stay e4, o2, o3, fun H5 e5 => q2 H5 e5⟩) fun H4 e4 => ?_
      have e14 := e13.trans e4
      obtain ⟨dxf, lf, f1, f2⟩ := hf3.stay e4
      refine s_charge (e := ⟨num, day, .charge o u nm⟩) (bs := Vbptai.price f u (s.smalls.contains o)) (lt := f.late) (sh := f.shared) T (hB.stay e14) W (e14 _ _ g1) rfl hk.1 (ev_var rfl) (ev_var rfl) (ev_var rfl) (fe_late T f1 (ev_var rfl)) (fe_shared T f1 (ev_var rfl)) fun x dx H5 ee h5 => k (B.more x dx) H5 rfl rfl ((hid_mono e14).trans ee) ?_
      show BkAt K _ H5 (match Vbptai.feeOn s day nm with | none => _ | some f => _)
      rw [q]
      exact h5
  | _ => exact hok.elim
/-! ### new books -/
abbrev s_Books___init__ : Stmt := inClass (topS 10) 0
abbrev N_Books___init__ : List Str := ["self", "lands"]
theorem sc_Books___init__ : FnScope N_Books___init__ ["self", "lands"] (defScope s_Books___init__) := ⟨rfl, rfl, rfl, by decide +kernel, rfl, by decide +kernel, by decide +kernel⟩
def sp_Books (K : PySem.W.Frag) : Sp := fun vs H Q _ => ∃ (p dx : Addr) (n : Nat), vs = [.ref p, .int n] ∧ n ≤ 10 ∧ H p = some (.ins (He.ga K "Books") dx []) ∧
  ∀ H2 la lc lo dc lh, ExB p H H2 → [la, lc, lo, dc, lh].Nodup → (∀ x ∈ [la, lc, lo, dc, lh], H x = none) → H2 la = some (.lst (List.replicate 21 (.int 0))) → H2 lc = some (.lst (List.replicate 41 (.int 0))) → H2 lo = some (.lst (List.replicate 41 (.int 0))) → H2 dc = some (.dK []) → H2 lh = some (.lst (List.replicate n (.int 0))) →
    H2 p = some (.ins (He.ga K "Books") dx (bkNames.zip ([.ref la, .ref lc, .ref lo, .ref dc, .ref lh, .int 0, .int 0] : List V))) → Q .non H2
theorem flat_rep (n : Nat) : (List.replicate n [V.int 0]).flatten = List.replicate n (V.int 0) := by
  induction n with
  | zero => rfl
  | succ n ih => rw [List.replicate_succ, List.flatten_cons, ih, List.replicate_succ]; rfl
theorem el_rep (hk : ∀ H1, Ex H H1 → Ev tb σ H1 (.int (n : Nat))) (hn : n ≤ 1000) : EvL (tOp rRep (tLst (tCons (tC (.int 0)) tNil)) tb) σ H (List.replicate n (.int 0)) := fun H1 e1 Q q =>
  (el_lst (ea_cons ev_c ea_nil) (by decide) : EvL (tLst (tCons (tC (.int 0)) tNil)) σ H [.int 0]) H1 e1 _ fun l H2 hl e2 h2 => hk H2 (e1.trans e2) H2 (Ex.refl _) _ fun H3 e3 => ⟨l, n, [.int 0], rfl, rfl, e3 _ _ h2, by omega, by omega, by
    show 1 * (n : Int).toNat ≤ sizeLine
    rw [Int.toNat_natCast, Nat.one_mul]
    exact Nat.le_trans hn (by decide), fun p hp => by
    rw [Int.toNat_natCast, flat_rep]
    exact q p _ (fresh_back (e2.trans e3) hp) ((e2.trans e3).trans (Ex.new hp)) upd_same⟩
theorem mk_Books (T : Tx K mg) : OwnC P w K mg base 1 "Books" ["self", "lands"] (sp_Books K) := by
  refine ownC_mk T.d_Books___init__ T.g_Books T.i_Books (fun _ _ _ _ _ _ us hl => match us, hl with | [_, _], _ => rfl) fun fd F => ?_
  refine F.ok sc_Books___init__ (fun vs H Q E h => by obtain ⟨_, _, _, rfl, _⟩ := h; rfl) (fun cdv A outer s H vs Q E hr h => ⟨_, PSs.nox
    (pss_cons (ps_fld (pv 0) (pe_op op_rep (pe_lst (pa_cons pe_int pa_nil)) (pe_op op_add (pe_cint T.c_ACCOUNTS) pe_int)) rfl)
    (pss_cons (ps_fld (pv 0) (pe_op op_rep (pe_lst (pa_cons pe_int pa_nil)) (pe_op op_add (pe_cint T.c_OWNERS) pe_int)) rfl)
    (pss_cons (ps_fld (pv 0) (pe_op op_rep (pe_lst (pa_cons pe_int pa_nil)) (pe_op op_add (pe_cint T.c_OWNERS) pe_int)) rfl)
    (pss_cons (ps_fld (pv 0) pe_dnewK rfl)
    (pss_cons (ps_fld (pv 0) (pe_op op_rep (pe_lst (pa_cons pe_int pa_nil)) (pv 1)) rfl)
    (pss_cons (ps_fld (pv 0) pe_int rfl)
    (pss_one (ps_fld (pv 0) pe_int rfl)))))))), ?_⟩)
  obtain ⟨p, dx, n, rfl, hn, hp, k⟩ := h
  have fr : ∀ {H0 : Hp} {d : Addr} {o : HO}, H0 p = some o → H0 d = none → d ≠ p := fun h1 h2 z => by
    rw [z, h1] at h2
    cases h2
  have bk : ∀ {H1 : Hp} {d : Addr}, ExB p H H1 → H1 d = none → d ≠ p → H d = none := fun {H1 d} b h n => by
    cases q : H d with
    | none => rfl
    | some o =>
      rw [b d o n q] at h
      cases h
  refine q_fldQ (eq_L (el_rep (n := 21) (fun H1 e1 => ev_op ev_c ev_c rv_I0) (by decide))) (ev_var rfl) hp T.k_Books T.n_Books_accounts fun v H1 H2 e1 hv e2 => ?_
  obtain ⟨la, rfl, a1, a2⟩ := hv
  have b2 : ∀ o, ExB p H (upd H2 p o) := fun o => exB_upd fun b o _ h => e2 b o (e1 b o h)
  have pa := fr hp a1
  have a3 := fun (o : HO) => (show upd H2 p o la = some _ by rw [upd_ne pa]; exact e2 _ _ a2)
  refine q_fldQ (eq_L (el_rep (n := 41) (fun H1 e1 => ev_op ev_c ev_c rv_I0) (by decide))) (ev_var rfl) upd_same T.k_Books T.n_Books_credit fun v H3 H4 e3 hv e4 => ?_
  obtain ⟨lc, rfl, c1, c2⟩ := hv
  have b4 := fun o => exB_upd (o := o) (exB_ex (exB_ex (b2 _) e3) e4)
  have pc := fr upd_same c1
  have ac : la ≠ lc := ne_of_none (a3 _) c1
  have c0 := bk (b2 _) c1 pc
  have a4 := fun (o : HO) => (show upd H4 p o la = some _ by rw [upd_ne pa]; exact (e3.trans e4) _ _ (a3 _))
  have c3 := fun (o : HO) => (show upd H4 p o lc = some _ by rw [upd_ne pc]; exact e4 _ _ c2)
  refine q_fldQ (eq_L (el_rep (n := 41) (fun H1 e1 => ev_op ev_c ev_c rv_I0) (by decide))) (ev_var rfl) upd_same T.k_Books T.n_Books_sources fun v H5 H6 e5 hv e6 => ?_
  obtain ⟨lo, rfl, o1, o2⟩ := hv
  have b6 := fun o => exB_upd (o := o) (exB_ex (exB_ex (b4 _) e5) e6)
  have po := fr upd_same o1
  have ao : la ≠ lo := ne_of_none (a4 _) o1
  have co : lc ≠ lo := ne_of_none (c3 _) o1
  have o0 := bk (b4 _) o1 po
  have a5 := fun (o : HO) => (show upd H6 p o la = some _ by rw [upd_ne pa]; exact (e5.trans e6) _ _ (a4 _))
  have c5 := fun (o : HO) => (show upd H6 p o lc = some _ by rw [upd_ne pc]; exact (e5.trans e6) _ _ (c3 _))
  have o5 := fun (o : HO) => (show upd H6 p o lo = some _ by rw [upd_ne po]; exact e6 _ _ o2)
  refine q_fldQ eq_dnew (ev_var rfl) upd_same T.k_Books T.n_Books_charges fun v H7 H8 e7 hv e8 => ?_
  obtain ⟨dc, rfl, d1, d2⟩ := hv
  have b8 := fun o => exB_upd (o := o) (exB_ex (exB_ex (b6 _) e7) e8)
  have pd := fr upd_same d1
  have ad : la ≠ dc := ne_of_none (a5 _) d1
  have cd : lc ≠ dc := ne_of_none (c5 _) d1
  have od : lo ≠ dc := ne_of_none (o5 _) d1
  have d0 := bk (b6 _) d1 pd
  have a7 := fun (o : HO) => (show upd H8 p o la = some _ by rw [upd_ne pa]; exact (e7.trans e8) _ _ (a5 _))
  have c7 := fun (o : HO) => (show upd H8 p o lc = some _ by rw [upd_ne pc]; exact (e7.trans e8) _ _ (c5 _))
  have o7 := fun (o : HO) => (show upd H8 p o lo = some _ by rw [upd_ne po]; exact (e7.trans e8) _ _ (o5 _))
  have d7 := fun (o : HO) => (show upd H8 p o dc = some _ by rw [upd_ne pd]; exact e8 _ _ d2)
  refine q_fldQ (eq_L (el_rep (n := n) (fun H1 e1 => ev_var rfl) (by omega))) (ev_var rfl) upd_same T.k_Books T.n_Books_handed fun v H9 H10 e9 hv e10 => ?_
  obtain ⟨lh, rfl, h1, h2⟩ := hv
  have b10 := fun o => exB_upd (o := o) (exB_ex (exB_ex (b8 _) e9) e10)
  have ph := fr upd_same h1
  have ah : la ≠ lh := ne_of_none (a7 _) h1
  have chh : lc ≠ lh := ne_of_none (c7 _) h1
  have oh : lo ≠ lh := ne_of_none (o7 _) h1
  have dh : dc ≠ lh := ne_of_none (d7 _) h1
  have h0 := bk (b8 _) h1 ph
  have a9 := fun (o : HO) => (show upd H10 p o la = some _ by rw [upd_ne pa]; exact (e9.trans e10) _ _ (a7 _))
  have c9 := fun (o : HO) => (show upd H10 p o lc = some _ by rw [upd_ne pc]; exact (e9.trans e10) _ _ (c7 _))
  have o9 := fun (o : HO) => (show upd H10 p o lo = some _ by rw [upd_ne po]; exact (e9.trans e10) _ _ (o7 _))
  have d9 := fun (o : HO) => (show upd H10 p o dc = some _ by rw [upd_ne pd]; exact (e9.trans e10) _ _ (d7 _))
  have h9 := fun (o : HO) => (show upd H10 p o lh = some _ by rw [upd_ne ph]; exact e10 _ _ h2)
  refine q_fldNew ev_c (ev_var rfl) upd_same T.k_Books T.n_Books_came_in fun H11 e11 => ?_
  have b12 := fun o => exB_upd (o := o) (exB_ex (b10 _) e11)
  refine s_fldNew ev_c (ev_var rfl) upd_same T.k_Books T.n_Books_given_back fun H12 e12 => ?_
  have st : ∀ {x : Addr} {u : HO}, x ≠ p → (∀ o, upd H10 p o x = some u) → ∀ o, upd H12 p o x = some u := fun hx hu o => by
    rw [upd_ne hx]
    refine e12 _ _ ?_
    rw [upd_ne hx]
    exact e11 _ _ (hu _)
  refine k _ la lc lo dc lh (exB_upd (exB_ex (b12 _) e12)) ?_ ?_ (st pa a9 _) (st pc c9 _) (st po o9 _) (st pd d9 _) (st ph h9 _) upd_same
  · simp [ac, ao, ad, ah, co, cd, chh, od, oh, dh]
  · intro x hx
    (simp only [List.mem_cons, List.not_mem_nil, or_false] at hx)
    rcases hx with rfl | rfl | rfl | rfl | rfl
    · exact a1
    · exact c0
    · exact o0
    · exact d0
    · exact h0
end
end FB
-- B10
set_option Elab.async false
set_option linter.all false
set_option maxRecDepth 100000
set_option maxHeartbeats 3900000
namespace FB
open PySem PySem.Spec PyProof.Rows L2 Evl
/-! ### shares by weights -/
theorem foldl_add (l : List Nat) : ∀ a, l.foldl (fun a b => a + b) a = a + l.foldl (fun a b => a + b) 0 := by
  induction l with
  | nil => exact fun a => rfl
  | cons x l ih =>
    intro a
    rw [List.foldl_cons, List.foldl_cons, ih (a + x), ih (0 + x)]
    omega
theorem sumNat_cons (x : Nat) (l : List Nat) : Vbptai.sumNat (x :: l) = x + Vbptai.sumNat l := by
  unfold Vbptai.sumNat
  rw [List.foldl_cons, foldl_add]
  omega
theorem natSum_eq : ∀ l : List Nat, natSum l = (Vbptai.sumNat l : Int)
  | [] => rfl
  | x :: l => by
    have ih := natSum_eq l
    unfold natSum at ih ⊢
    rw [List.map_cons, List.sum_cons, ih, sumNat_cons]
    omega
def lowP (ws : List Nat) (n : Nat) : List Nat := ws.map fun x => n * x / Vbptai.sumNat ws
theorem low_le (n W : Nat) : ∀ l : List Nat, Vbptai.sumNat (l.map fun x => n * x / W) * W ≤ n * Vbptai.sumNat l
  | [] => by
    show 0 * W ≤ n * 0
    omega
  | x :: l => by
    have ih := low_le n W l
    rw [List.map_cons, sumNat_cons, sumNat_cons, Nat.add_mul, Nat.mul_add]
    have := Nat.div_mul_le_self (n * x) W
    omega
theorem low_sum {ws : List Nat} (n : Nat) (h : 0 < Vbptai.sumNat ws) : Vbptai.sumNat (lowP ws n) ≤ n := by
  have := low_le n (Vbptai.sumNat ws) ws
  exact Nat.le_of_mul_le_mul_right this h
/-- one more at each of some places -/
def bump (l : List Nat) (i : Nat) : List Nat := l.set i (l.getD i 0 + 1)
theorem bump_len (ps : List Nat) : ∀ l : List Nat, (ps.foldl bump l).length = l.length := by
  induction ps with
  | nil => exact fun _ => rfl
  | cons p ps ih =>
    intro l
    rw [List.foldl_cons, ih]
    unfold bump
    rw [List.length_set]
theorem bump_get (ps : List Nat) : ∀ (l : List Nat) (i : Nat), ps.Nodup → i < l.length → (ps.foldl bump l).getD i 0 = l.getD i 0 + if i ∈ ps then 1 else 0 := by
  induction ps with
  | nil => intro l i _ _; rfl
  | cons p ps ih =>
    intro l i nd hi
    rcases List.nodup_cons.mp nd with ⟨n1, n2⟩
    rw [List.foldl_cons, ih (bump l p) i n2 (by unfold bump; rw [List.length_set]; exact hi)]
    unfold bump
    by_cases c : i = p
    · subst c
      rw [List.getD_eq_getElem?_getD (l := l.set i _), List.getElem?_set_self hi, if_neg n1, if_pos (List.mem_cons_self ..)]
      rfl
    · rw [List.getD_eq_getElem?_getD (l := l.set p _), List.getElem?_set_ne (fun z => c z.symm), ← List.getD_eq_getElem?_getD]
      by_cases d : i ∈ ps
      · rw [if_pos d, if_pos (List.mem_cons_of_mem _ d)]
      · rw [if_neg d, if_neg (fun z => (List.mem_cons.mp z).elim c d)]
/-- in a list in order, those ahead of one are those better than it -/
theorem ahead_count {bt : Nat → Nat → Bool} {ys : List Nat} {i k : Nat} (hi : i ∈ ys) (nd : ys.Nodup) (so : ys.Pairwise fun x y => bt x y = true ∧ bt y x = false) (irr : bt i i = false) : i ∈ ys.take k ↔ (ys.filter fun j => bt j i).length < k := by
  obtain ⟨l, r, rfl⟩ := List.append_of_mem hi
  obtain ⟨s1, s2, s3⟩ := List.pairwise_append.mp so
  obtain ⟨s4, s5⟩ := List.pairwise_cons.mp s2
  obtain ⟨n1, n2, n3⟩ := List.nodup_append.mp nd
  have f1 : l.filter (fun j => bt j i) = l := List.filter_eq_self.mpr fun x hx => (s3 x hx i (List.mem_cons_self ..)).1
  have f2 : r.filter (fun j => bt j i) = [] := List.filter_eq_nil_iff.mpr fun x hx => by rw [(s4 x hx).2]; decide
  rw [List.filter_append, List.filter_cons_of_neg (by rw [irr]; decide), f1, f2, List.append_nil]
  constructor
  · intro h
    by_cases c : l.length < k
    · exact c
    · rw [List.take_append_of_le_length (by omega)] at h
      exact absurd rfl (n3 i (List.mem_of_mem_take h) i (List.mem_cons_self ..))
  · intro h
    obtain ⟨q, hq⟩ : ∃ q, k - l.length = q + 1 := ⟨k - l.length - 1, by omega⟩
    rw [List.take_append, hq, List.take_succ_cons]
    exact List.mem_append_right _ (List.mem_cons_self ..)
def restP (ws : List Nat) (n i : Nat) : Nat := n * ws.getD i 0 % Vbptai.sumNat ws
def keyP (ws : List Nat) (n i : Nat) : List Int := [-(restP ws n i : Int), (i : Int)]
def betterP (ws : List Nat) (n i j : Nat) : Bool := decide (n * ws.getD j 0 % Vbptai.sumNat ws < n * ws.getD i 0 % Vbptai.sumNat ws) || (n * ws.getD i 0 % Vbptai.sumNat ws == n * ws.getD j 0 % Vbptai.sumNat ws && decide (i < j))
theorem better_of {ws : List Nat} {n i j : Nat} (h : lexI (keyP ws n j) (keyP ws n i) = false) (hn : i ≠ j) : betterP ws n i j = true ∧ betterP ws n j i = false := by
  unfold keyP restP at h
  unfold betterP
  generalize n * ws.getD i 0 % Vbptai.sumNat ws = x at *
  generalize n * ws.getD j 0 % Vbptai.sumNat ws = y at *
  rw [lexI_cons, lexI_cons, lexI_nil] at h
  simp only [Bool.or_eq_true, decide_eq_true_eq, Bool.and_eq_true, beq_iff_eq, Bool.or_eq_false_iff, decide_eq_false_iff_not, Bool.and_eq_false_iff, beq_eq_false_iff_ne]
  split at h
  · split at h
    · omega
    · have := (of_decide_eq_false h)
      omega
  · have := (of_decide_eq_false h)
    omega
theorem shares_eq {ws : List Nat} {n : Nat} {ys : List Nat} (pm : ys.Perm (List.range ws.length)) (so : ys.Pairwise fun i j => lexI (keyP ws n j) (keyP ws n i) = false) : (ys.take (n - Vbptai.sumNat (lowP ws n))).foldl bump (lowP ws n) = Vbptai.shares ws n := by
  have nd : ys.Nodup := pm.nodup_iff.mpr List.nodup_range
  have so2 : ys.Pairwise fun x y => betterP ws n x y = true ∧ betterP ws n y x = false := (so.and nd).imp fun h => better_of h.1 h.2
  have nd2 : (ys.take (n - Vbptai.sumNat (lowP ws n))).Nodup := List.Pairwise.sublist (List.take_sublist ..) nd
  have ll : (lowP ws n).length = ws.length := List.length_map ..
  have irr : ∀ i, betterP ws n i i = false := fun i => by
    unfold betterP
    simp
  unfold Vbptai.shares
  apply List.ext_getElem
  · rw [bump_len, ll, List.length_map, List.length_range]
  · intro i h1 h2
    rw [bump_len, ll] at h1
    have g := bump_get (ys.take (n - Vbptai.sumNat (lowP ws n))) (lowP ws n) i nd2 (by omega)
    rw [List.getD_eq_getElem?_getD, List.getElem?_eq_getElem (by rw [bump_len]; omega)] at g
    rw [List.getElem_map, List.getElem_range]
    refine (show _ = _ from g).trans ?_
    show (lowP ws n).getD i 0 + _ = (lowP ws n).getD i 0 + _
    congr 1
    have hi : i ∈ ys := pm.mem_iff.mpr (List.mem_range.mpr h1)
    have ac := ahead_count (k := n - Vbptai.sumNat (lowP ws n)) hi nd so2 (irr i)
    have lc : (ys.filter fun j => betterP ws n j i).length = ((List.range ws.length).filter fun j => betterP ws n j i).length := (pm.filter _).length_eq
    rw [lc] at ac
    by_cases c : i ∈ ys.take (n - Vbptai.sumNat (lowP ws n))
    · rw [if_pos c]
      exact (if_pos (ac.mp c)).symm
    · rw [if_neg c]
      exact (if_neg (fun z => c (ac.mpr z))).symm
end FB
-- B11
set_option Elab.async false
set_option linter.all false
set_option maxRecDepth 100000
set_option maxHeartbeats 3900000
namespace FB
open PySem PySem.Spec PyProof.Rows L2 Evl
open LamX NdefX
section
variable {K : PySem.W.Frag} {mg : Str → Option Value} {P : Program} {base : Heap} {w : World}
variable {σ : L2.St} {H H' : Hp} {ta tb tv te td ty : TE} {t : TT} {D : Ends} {tz tu : TS} {A : RecA} {m : RecM} {s : Vbptai.State} {B : BkA} {b : Vbptai.Books} {n k : Nat}
abbrev Tz (K : PySem.W.Frag) (mg : Str → Option Value) (base : Heap) : Prop := TabB base mg (tabC K) (tabP K)
theorem cut_take {α : Type} (g : α → V) (l : List α) (j : Nat) : cutV (l.map g) none (some (j : Int)) = (l.take j).map g := by
  unfold cutV
  rw [HT.sIx_nat, HT.sIx_none, List.length_map, List.drop_zero, Nat.sub_zero, List.map_take]
  by_cases h : j ≤ l.length
  · rw [Nat.min_eq_left h]
  · rw [Nat.min_eq_right (by omega), List.take_of_length_le (by rw [List.length_map]; exact Nat.le_refl _), List.take_of_length_le (by rw [List.length_map]; omega)]
theorem TabS.hide {S : List Addr} {P : Addr} {q : Str} (t : TabS H P q) (h : ∀ a ∈ S, ∃ o, H a = some o ∧ (∀ ps, o ≠ .tbl ps) ∧ ∀ c, o ≠ CodeO c q) : TabS (hid S H) P q := by
  obtain ⟨ps, h1, h2, h3⟩ := t
  refine ⟨ps, ?_, h2, fun pos cv hc => ?_⟩
  · rw [hid_at]
    · exact h1
    · intro z
      obtain ⟨o, o1, o2, _⟩ := h P z
      rw [o1] at h1
      exact o2 _ (Option.some.inj h1)
  · obtain ⟨c, e1, e2⟩ := h3 pos cv hc
    refine ⟨c, e1, ?_⟩
    rw [hid_at]
    · exact e2
    · intro z
      obtain ⟨o, o1, _, o3⟩ := h c z
      rw [o1] at e2
      exact o3 _ (Option.some.inj e2)
theorem lst_tab {xs : List V} : (∀ ps, HO.lst xs ≠ .tbl ps) ∧ ∀ c q, HO.lst xs ≠ CodeO c q := ⟨fun _ z => (nomatch z), fun _ _ z => by unfold CodeO at z; cases z⟩
/-- x = sorted(range(n), key=lambda ..) -/
theorem q_sortLam {Pt : Addr} {q : Str} {N : List Str} {js : List Nat} {tl tb : TE} {j n : Nat} {key : Nat → List Int} (hl : Ev tl σ H (.int (n : Nat))) (hn : n ≤ 10000) (hne : ∀ i < n, key i ≠ []) (hT : TabS H Pt q) (h1 : ∀ i < n, ∀ H2, ExtN H H2 → EvU tb (startF N [.int (i : Nat)] (js.map (slotAt σ))) H2 ((key i).map V.int))
    (go : ∀ (ys : List Nat) l H2, ExtN H H2 → TabS H2 Pt q → (∀ b o, H b = some o → (∀ ps, o ≠ .tbl ps) → l ≠ b) → H2 l = some (.lst (ys.map fun i : Nat => V.int i)) → ys.Perm (List.range n) → ys.Pairwise (fun i j => lexI (key j) (key i) = false) → tz D (σ.set j (some (.ref l))) H2) :
    tSeq (tAsg (tSortLam Pt q N js (tCB (fun vs H Q => ∃ j, vs = [V.int j] ∧ ∀ p, H p = none → Q (.ref p) (upd H p (.rng 0 j))) (tCons tl tNil)) tb) (gName j)) tz D σ H :=
  hl H (Ex.refl H) _ fun H5 e5 => ⟨(n : Int), rfl, fun pr npr => ⟨pr, n, key, rfl, upd_same, hn, hne, (hT.ext e5).ext (Ex.new npr), fun H6 e6 hT6 => by
    have x6 : ExtN H H6 := (ExtN.of (e5.trans (Ex.new npr))).trans e6
    exact ⟨fun i hi H7 e7 Q' q' => h1 i hi H6 x6 H7 e7 _ fun t H8 _ e8 h8 => q' t H8 e8 h8, fun ys l H7 nl e7 h7 pm so => go ys l H7 (x6.trans (ExtN.of e7)) (hT6.ext e7) (fun b o hb nt z => by
      rw [z, x6 b o hb nt] at nl
      cases nl) h7 pm so⟩⟩⟩
abbrev s_shares_of : Stmt := topS 42
abbrev N_shares_of : List Str := ["pot", "weights", "whole", "shares", "left", "places", "place", "rests", "weight"]
theorem sc_shares_of : FnScope N_shares_of ["pot", "weights"] (defScope s_shares_of) := ⟨rfl, rfl, rfl, by decide +kernel, rfl, by decide +kernel, by decide +kernel⟩
theorem fre_shares : ∀ y ∈ ([("place", .local), ("rests", .free)] : List (Str × NameKind)), y.2 = NameKind.free → (defScope s_shares_of).names.lookup y.1 = some .cell ∨ (defScope s_shares_of).names.lookup y.1 = some .free := by decide +kernel
def sp_shares_of (K : PySem.W.Frag) : Sp := fun vs H Q _ => ∃ (n : Nat) (lw : Addr) (ws : List Nat), vs = [.int n, .ref lw] ∧ H lw = some (.lst (natV ws)) ∧ ws.length ≤ 10 ∧ (∀ x ∈ ws, x ≤ 1000) ∧ 0 < Vbptai.sumNat ws ∧ Vbptai.sumNat ws ≤ 10000 ∧ TabS H (tabP K) lamQ ∧
  ∀ p H2, H p = none → ExtN H H2 → TabS H2 (tabP K) lamQ → H2 p = some (.lst (natV (Vbptai.shares ws n))) → Q (.ref p) H2
theorem ok_shares_of (T : Tx K mg) (Y : Tw P w K) (Z : Tz K mg base) : Own P w K mg base CX0 4 "shares_of" ["pot", "weights"] (sp_shares_of K) := by
  refine own_mk T.d_shares_of T.g_shares_of (fun _ _ _ _ _ _ us hl => match us, hl with | [_, _], _ => rfl) fun fd F => ?_
  rcases F.ex with ⟨oc, od, dV, kV, doc, pm, an, cdv, ct, osl, rfl, lk, hcd, _, _⟩
  obtain ⟨c0, rfl⟩ := He.codeIn_ref hcd
  have hce : tabC K = c0 := He.codeOf_eq (p := ("shares_of", none)) lk rfl
  subst hce
  have hco : ∀ {q : Str} {sc : Scope} {l f : Addr}, (envOfC q sc l f (.ref (tabC K))).code = .ref (tabC K) := rfl
  refine fn_of lk hcd sc_shares_of (fun vs H Q E h => by obtain ⟨_, _, _, rfl, _⟩ := h; rfl) (fun A outer s H vs Q E hr h => ⟨_, PSs.nox
    (pss_cons (ps_set (i := 2) sc_shares_of.nd rfl (Or.inr rfl) (pe_callB (cr_sum rfl) (by rfl) T.b_sum (by decide +kernel) (pa_cons (pv 1) pa_nil)))
    (pss_cons (ps_setLc (i := 3) (own := [("weight", 8)]) (g := gName 8) (tt := tYes) rfl sc_shares_of.nd rfl rfl (sw_true rfl rfl rfl (by decide +kernel)) (pi_list (pv 1)) (blkOk_by (N := N_shares_of) (sc := defScope s_shares_of) (by decide +kernel)) (fun _ _ _ _ _ => by exact (pg_name (i := 8) sc_shares_of.nd rfl (Or.inl rfl))) (fun _ _ _ _ _ => by exact pts_nil) (fun _ _ _ _ _ => by exact (pe_op op_fdiv (pe_op op_mul (pv 0) (pv 8)) (pv 2))))
    (pss_cons (ps_set (i := 7) sc_shares_of.nd rfl (Or.inr rfl) (pe_lc (own := [("weight", 8)]) (g := gName 8) (tt := tYes) rfl sc_shares_of.nd (pi_list (pv 1)) (blkOk_by (N := N_shares_of) (sc := defScope s_shares_of) (by decide +kernel)) (fun _ _ _ _ _ => by exact (pg_name (i := 8) sc_shares_of.nd rfl (Or.inl rfl))) (fun _ _ _ _ _ => by exact pts_nil) (fun _ _ _ _ _ => by exact (pe_op op_mod (pe_op op_mul (pv 0) (pv 8)) (pv 2)))))
    (pss_cons (ps_set (i := 4) sc_shares_of.nd rfl (Or.inl rfl) (pe_op op_sub (pv 0) (pe_callB (cr_sum rfl) (by rfl) T.b_sum (by decide +kernel) (pa_cons (pv 3) pa_nil))))
    (pss_cons (ps_set (i := 5) sc_shares_of.nd rfl (Or.inl rfl) (pe_sortLam (k := 0) (a := "place") (N := ["place", "rests"]) (fr := ["rests"]) (js := [7]) rfl T.b_sorted hr (pe_callTy (T := "range") cr_range1 (by rfl) T.b_range (by decide +kernel) (pa_cons (pe_callB call_len_seq (by rfl) T.b_len PySem.boot_len (pa_cons (pv 1) pa_nil)) pa_nil)) Z hco (nscope_by (by decide +kernel)) fre_shares (by decide) rfl (fun _ _ _ _ _ _ => rfl) (fun f c A outer s H hr => pe_tup (pa_cons (pe_un un_neg (pe_ix (ix_listK (K := K) rfl) (pv 1) (pv 0) (fun _ _ => rfl))) (pa_cons (pv 0) pa_nil)))))
    (pss_cons (ps_for PassesOwn.never rfl (pi_list (pe_slice sl_list (pv 5) po_none (po_some (pv 4)))) (pg_name (i := 6) sc_shares_of.nd rfl (Or.inl rfl))
      (pss_one (ps_asg (pe_op op_add (pe_ix ix_list (pv 3) (pv 6) (fun _ _ => rfl)) pe_int) (pg_sub (pv 3) (pv 6) set_list))))
    (pss_one (ps_ret (pv 3))))))))), ?_⟩)
  obtain ⟨n, lw, ws, rfl, hw, hlen, hmax, hpos, hW, hT, k⟩ := h
  have W0 : natSum ws = (Vbptai.sumNat ws : Int) := natSum_eq ws
  have nat_item : ∀ {l : List Nat} {i : Nat}, i < l.length → (natV l)[i]? = some (.int (l.getD i 0 : Nat)) := fun {l i} h => by
    unfold natV
    (rw [List.getElem?_map, List.getElem?_eq_getElem h, List.getD_eq_getElem?_getD, List.getElem?_eq_getElem h])
    rfl
  refine q_asg (v := .int (Vbptai.sumNat ws : Nat)) (ev_is (ev_sumL (ns := ws.map fun (x : Nat) => (x : Int)) (ev_var rfl) (sq_of (by rw [← natV_eq]; exact hw))) (congrArg V.int W0)) fun H1 e1 => ?_
  have i1 : ∀ {H0 : Hp} {σ0 : L2.St}, Ex H H0 → σ0[1]? = some (some (.ref lw)) → EvI (iList K (tVar 1)) σ0 H0 ws.length (fun i x => (ws.map fun (y : Nat) => V.int y)[i]? = some x) := fun e0 hs => by
    have := ei_list (K := K) (tl := tVar 1) (ev_var hs) (sq_of (e0 _ _ hw))
    unfold natV at this
    rw [List.length_map] at this
    exact this
  refine q_asgL (xs := natV (lowP ws n)) ?_ fun psh H2 np e2 h2 => ?_
  · have := el_map (te := tOp (rI CDiv fun i j => .int (i / j)) (tOp (rI CMul fun i j => .int (i * j)) (tVar 0) (tVar 8)) (tVar 2)) (vs := [8]) (j := 8) (l := ws) (fun (y : Nat) => V.int y) (fun y => V.int ((n * y / Vbptai.sumNat ws : Nat) : Int)) (i1 (σ0 := [some (.int (n : Nat)), some (.ref lw), some (.int (Vbptai.sumNat ws : Nat)), none, none, none, none, none, none]) e1 rfl) (fun i x y => y) (by omega) (fun _ => rfl) (fun y H3 e3 hy => by
      have b := hmax y hy
      refine ev_is (ev_op (ev_op (ev_var rfl) (ev_var rfl) (rv_I (.inr ⟨by omega, by omega⟩))) (ev_var rfl) (rv_I ⟨by omega, by omega⟩)) ?_
      rfl)
    have e : natV (lowP ws n) = ws.map fun y => V.int ((n * y / Vbptai.sumNat ws : Nat) : Int) := by
      unfold natV lowP
      rw [List.map_map]
      rfl
    rw [e]
    exact this
  have e12 := e1.trans e2
  refine q_asgL (xs := ws.map fun y => V.int ((n * y % Vbptai.sumNat ws : Nat) : Int)) ?_ fun prs H3 npr e3 h3 => ?_
  · exact el_map (te := tOp (rI (fun _ j => 0 < j) fun i j => .int (i % j)) (tOp (rI CMul fun i j => .int (i * j)) (tVar 0) (tVar 8)) (tVar 2)) (vs := [8]) (j := 8) (l := ws) (fun (y : Nat) => V.int y) (fun y => V.int ((n * y % Vbptai.sumNat ws : Nat) : Int)) (i1 (σ0 := [some (.int (n : Nat)), some (.ref lw), some (.int (Vbptai.sumNat ws : Nat)), some (.ref psh), none, none, none, none, none]) e12 rfl) (fun i x y => y) (by omega) (fun _ => rfl) (fun y H3 e3 hy => by
      have b := hmax y hy
      refine ev_is (ev_op (ev_op (ev_var rfl) (ev_var rfl) (rv_I (.inr ⟨by omega, by omega⟩))) (ev_var rfl) (rv_I (show (0 : Int) < (Vbptai.sumNat ws : Nat) by omega))) ?_
      rfl)
  have e13 := e12.trans e3
  have low := low_sum n hpos
  refine q_asg (v := .int ((n - Vbptai.sumNat (lowP ws n) : Nat) : Int)) (ev_is (ev_op (ev_var rfl) (ev_is (ev_sumL (ns := (lowP ws n).map fun (x : Nat) => (x : Int)) (ev_var rfl) (sq_of (by rw [← natV_eq]; exact e3 _ _ h2))) (congrArg V.int (natSum_eq (lowP ws n)))) rv_I0) (cast_sub' low)) fun H4 e4 => ?_
  have e14 := e13.trans e4
  have hw4 := e14 _ _ hw
  have wl : ((natV ws).length : Int) = (ws.length : Int) := by
    unfold natV
    rw [List.length_map]
  have rest_at : ∀ {i : Nat}, i < ws.length → (ws.map fun y => V.int ((n * y % Vbptai.sumNat ws : Nat) : Int))[i]? = some (.int (restP ws n i : Nat)) := fun {i} h => by
    unfold restP
    (rw [List.getElem?_map, List.getElem?_eq_getElem h, List.getD_eq_getElem?_getD, List.getElem?_eq_getElem h])
    rfl
  refine q_sortLam (n := ws.length) (key := keyP ws n) (ev_is (ev_lenL (ev_var rfl) (sq_of hw4)) (congrArg V.int wl)) (by omega) (fun i _ z => nomatch z) (hT.ext e14) (fun i hi H6 e6 => ?_) fun ys l H7 x47 hT7 nl h7 pm so => ?_
  · have hr6 : H6 prs = some (.lst (ws.map fun y => V.int ((n * y % Vbptai.sumNat ws : Nat) : Int))) := e6 _ _ (e4 _ _ h3) fun _ z => nomatch z
    exact eu_tup (ea_cons (ev_neg (ev_item (i := i) (ev_var rfl) (ev_var rfl) (sq_of hr6) (rest_at hi))) (ea_cons (ev_var rfl) ea_nil)) (by show 2 ≤ 100000; decide)
  have hsh4 := e4 _ _ (e3 _ _ h2)
  have hsh7 : H7 psh = some (.lst (natV (lowP ws n))) := x47 _ _ hsh4 fun _ z => nomatch z
  have x7 : ExtN H H7 := (ExtN.of e14).trans x47
  have nd : ys.Nodup := pm.nodup_iff.mpr List.nodup_range
  have yl : ∀ y ∈ ys, y < ws.length := fun y hy => List.mem_range.mp (pm.mem_iff.mp hy)
  have ll : (lowP ws n).length = ws.length := List.length_map ..
  refine q_forNLn (K := K) (el_sl (ev_var rfl) eo_none (eo_some (ev_var rfl)) (sq_of h7)) (fun p i σ' H' => (∃ u, σ' = [some (.int (n : Nat)), some (.ref lw), some (.int (Vbptai.sumNat ws : Nat)), some (.ref psh), some (.int ((n - Vbptai.sumNat (lowP ws n) : Nat) : Int)), some (.ref l), u, some (.ref prs), none]) ∧ p ≠ psh ∧ H' p = some (.lst (cutV (ys.map fun i : Nat => V.int i) none (some ((n - Vbptai.sumNat (lowP ws n) : Nat) : Int)))) ∧ ExB psh H7 H' ∧ H' psh = some (.lst (natV (((ys.take (n - Vbptai.sumNat (lowP ws n))).take i).foldl bump (lowP ws n)))))
    (fun p H8 np8 e8 h8 => ⟨⟨_, rfl⟩, fun z => ?_, h8, fun b o _ hb => e8 b o hb, e8 _ _ hsh7⟩) (fun p i σ' H' _ h => sq_of h.2.2.1) (fun p i x σ' H' hx h => ?_) (fun p σ' H' h => ?_)
  · rw [z, hsh7] at np8
    cases np8
  · obtain ⟨⟨u, rfl⟩, np8, hp8, eb, hs8⟩ := h
    rw [cut_take] at hx
    obtain ⟨y, hy, rfl⟩ := map_at hx
    have hy2 := yl y (List.mem_of_mem_take (List.mem_of_getElem? hy))
    have bl : (((ys.take (n - Vbptai.sumNat (lowP ws n))).take i).foldl bump (lowP ws n)).length = ws.length := by rw [bump_len, ll]
    refine s_setL (j := y) hs8 (ev_is (ev_op (ev_item (K := K) (i := y) (ev_var rfl) (ev_var rfl) (sq_of hs8) (nat_item (by omega))) ev_c rv_I0) (w := .int ((((((ys.take (n - Vbptai.sumNat (lowP ws n))).take i).foldl bump (lowP ws n)).getD y 0 + 1 : Nat)) : Int)) rfl) (ev_var rfl) (ev_var rfl) (by unfold natV; rw [List.length_map]; omega) fun H9 e9 => ⟨⟨_, rfl⟩, np8, ?_, fun b o hb hbo => ?_, ?_⟩
    · rw [upd_ne np8]
      exact e9 _ _ hp8
    · rw [upd_ne hb]
      exact e9 _ _ (eb b o hb hbo)
    · rw [upd_same, take_one hy, List.foldl_append]
      unfold natV
      exact congrArg (fun z => some (HO.lst z)) List.map_set.symm
  · obtain ⟨⟨u, rfl⟩, np8, hp8, eb, hs8⟩ := h
    rw [cut_take, List.length_map, List.take_length, shares_eq pm so] at hs8
    have tk : TabS (hid [psh] H7) (tabP K) lamQ := TabS.hide hT7 fun a ha => by
      rw [List.mem_singleton.mp ha]
      exact ⟨_, hsh7, lst_tab.1, fun c => lst_tab.2 c _⟩
    have eh : Ex (hid [psh] H7) H' := fun b o hb => by
      obtain ⟨b1, b2⟩ := hid_of hb
      exact eb b o (fun z => b1 (by rw [z]; exact List.mem_cons_self ..)) b2
    have nps : H psh = none := fresh_back e1 np
    refine s_ret (ev_var rfl) fun H9 e9 => k psh H9 nps (fun b o hb nt => ?_) ((tk.ext eh).ext e9) (e9 _ _ hs8)
    refine e9 _ _ (eb b o (fun z => ?_) (x7 b o hb nt))
    rw [z, nps] at hb
    cases hb
end
end FB
-- B12
set_option Elab.async false
set_option linter.all false
set_option maxRecDepth 100000
set_option maxHeartbeats 3900000
namespace FB
open PySem PySem.Spec PyProof.Rows L2 Evl
open LamX NdefX
section
variable {K : PySem.W.Frag} {mg : Str → Option Value} {P : Program} {base : Heap} {w : World}
variable {σ : L2.St} {H H' : Hp} {ta tb tv te td ty : TE} {t : TT} {D : Ends} {tz tu : TS} {A : RecA} {m : RecM} {s : Vbptai.State} {B : BkA} {b : Vbptai.Books} {n k : Nat}
/-! ### all but the tables stays -/
theorem hid_monoX {S : List Addr} (e : ExtN H H') : ExtN (hid S H) (hid S H') := fun b o h n => by
  obtain ⟨h1, h2⟩ := hid_of h
  rw [hid_at h1]
  exact e b o h2 n
theorem FeeAt.stayX {x : FeeM} {a : Addr} (e : ExtN H H') (h : FeeAt K H x a) : FeeAt K H' x a := by
  obtain ⟨dx, l, h1, h2⟩ := h
  exact ⟨dx, l, e _ _ h1 fun _ z => (nomatch z), e _ _ h2 fun _ z => nomatch z⟩
theorem EvAt.stayX {x : EvM} {a : Addr} (e : ExtN H H') (h : EvAt K H a x) : EvAt K H' a x := by
  obtain ⟨dx, l, h1, h2⟩ := h
  exact ⟨dx, l, e _ _ h1 fun _ z => (nomatch z), e _ _ h2 fun _ z => nomatch z⟩
theorem evR.stayX {x : EvM} {v : V} (e : ExtN H H') (h : evR K H x v) : evR K H' x v := by
  obtain ⟨a, rfl, h⟩ := h
  exact ⟨a, rfl, h.stayX e⟩
theorem SchAt.stayX {x : SchM} {a : Addr} (e : ExtN H H') (h : SchAt K H a x) : SchAt K H' a x := by
  obtain ⟨dx, t, f, xs, h1, h2, h3, h4⟩ := h
  exact ⟨dx, t, f, xs, e _ _ h1 fun _ z => (nomatch z), e _ _ h2 fun _ z => (nomatch z), e _ _ h3 fun _ z => (nomatch z), Paired.mono (fun m v h => by obtain ⟨b, rfl, hb⟩ := h; exact ⟨b, rfl, hb.stayX e⟩) h4⟩
theorem RecAt.stayX (e : ExtN H H') (h : RecAt K A H m) : RecAt K A H' m := by
  obtain ⟨⟨lw, h1, h2⟩, ⟨k1, h3, h4⟩, h5, ⟨k2, h6, h7⟩, n1, n2, n3⟩ := h
  exact ⟨⟨lw, e _ _ h1 fun _ z => (nomatch z), hid_monoX e _ _ h2 fun _ z => nomatch z⟩, ⟨k1, e _ _ h3 fun _ z => (nomatch z), h4.mono fun m v h => by obtain ⟨a, rfl, h⟩ := h; exact ⟨a, rfl, h.stayX (hid_monoX e)⟩⟩, e _ _ h5 fun _ z => (nomatch z),
    ⟨k2, e _ _ h6 fun _ z => (nomatch z), h7.mono fun m v h => by obtain ⟨a, rfl, h⟩ := h; exact ⟨a, rfl, h.stayX (hid_monoX e)⟩⟩, n1, n2, n3⟩
theorem Ask.stayX (e : ExtN H H') (h : Ask K A H m s) : Ask K A H' m s := ⟨h.at_.stayX e, h.rel, h.well, h.wide⟩
theorem CallI.stayX {c d r : Addr} {cm : CallM} (e : ExtN H H') (h : CallI K H c d r cm) : CallI K H' c d r cm := by
  obtain ⟨dx, h1, h2, h3⟩ := h
  exact ⟨dx, e _ _ h1 fun _ z => (nomatch z), e _ _ h2 fun _ z => (nomatch z), e _ _ h3 fun _ z => nomatch z⟩
theorem not_code {o : HO} (h : (∃ xs, o = .lst xs) ∨ (∃ C dx fs, o = .ins C dx fs) ∨ ∃ kvs, o = .dK kvs) : (∀ ps, o ≠ .tbl ps) ∧ ∀ c q, o ≠ CodeO c q := by
  rcases h with ⟨_, rfl⟩ | ⟨_, _, _, rfl⟩ | ⟨_, rfl⟩
  · exact ⟨fun _ z => (nomatch z), fun _ _ z => by unfold CodeO at z; cases z⟩
  · exact ⟨fun _ z => (nomatch z), fun _ _ z => by unfold CodeO at z; cases z⟩
  · exact ⟨fun _ z => (nomatch z), fun _ _ z => by unfold CodeO at z; cases z⟩
/-- the cells of the books but the table -/
theorem BkAt.cells (h : BkAt K B H b) {a : Addr} (ha : a ∈ B.T) : ∃ o, H a = some o ∧ ((∃ xs, o = .lst xs) ∨ (∃ C dx fs, o = .ins C dx fs) ∨ ∃ kvs, o = .dK kvs) := by
  rcases List.mem_append.mp ha with h6 | hA
  · obtain ⟨lh, o1, _⟩ := h.obj
    simp only [List.mem_cons, List.not_mem_nil, or_false] at h6
    rcases h6 with e | e | e | e | e
    · exact ⟨_, by rw [e]; exact o1, .inr (.inl ⟨_, _, _, rfl⟩)⟩
    · exact ⟨_, by rw [e]; exact h.la, .inl ⟨_, rfl⟩⟩
    · exact ⟨_, by rw [e]; exact h.lc, .inl ⟨_, rfl⟩⟩
    · exact ⟨_, by rw [e]; exact h.lo, .inl ⟨_, rfl⟩⟩
    · exact ⟨_, by rw [e]; exact h.dc, .inr (.inr ⟨_, rfl⟩)⟩
  · obtain ⟨q, hq, rfl⟩ := List.mem_map.mp hA
    obtain ⟨i, hi⟩ := List.mem_iff_getElem?.mp hq
    obtain ⟨c, _, hc⟩ := paired_atR h.cs hi
    exact ⟨_, (hid_of hc).2, .inr (.inl ⟨_, _, _, rfl⟩)⟩
theorem BkAt.stayX (e : ExtN H H') (tS : TabS H' (tabP K) lamQ) (h : BkAt K B H b) : BkAt K B H' b := by
  have ce := fun {a : Addr} (ha : a ∈ B.T) => h.cells ha
  obtain ⟨nd, tab, ⟨lh, o1, o2⟩, h1, h2, h3, h4, h5, tp⟩ := h
  refine ⟨nd, ?_, ⟨lh, e _ _ o1 (fun _ z => by unfold bkO at z; cases z), hid_monoX e _ _ o2 fun _ z => nomatch z⟩, e _ _ h1 fun _ z => (nomatch z), e _ _ h2 fun _ z => (nomatch z), e _ _ h3 fun _ z => (nomatch z), e _ _ h4 fun _ z => (nomatch z), Paired.mono (fun c q h => hid_monoX e _ _ h fun _ z => by unfold chO at z; cases z) h5, tp⟩
  rw [tp]
  refine TabS.hide tS fun a ha => ?_
  obtain ⟨o, h1, h2⟩ := ce ha
  have n := not_code h2
  exact ⟨o, e _ _ h1 n.1, n.1, fun c => n.2 c _⟩
theorem BkAt.tabS (h : BkAt K B H b) : TabS H (tabP K) lamQ := by
  have z := h.tab.ext hid_le
  rw [h.tp] at z
  exact z
/-! ### a closing -/
theorem el_zip {j1 j2 : Nat} {vs : List Nat} {a1 a2 : Addr} {xs ys : List V} {t1 t2 te : TE} (f : V → V → V) (h1 : Ev t1 σ H (.ref a1)) (h2 : Ev t2 σ H (.ref a2)) (hx : H a1 = some (.lst xs)) (hy : H a2 = some (.lst ys)) (hz : xs.length ≤ 40000) (hw : ∀ x y, wipe (((wipe σ vs).set j1 (some x)).set j2 (some y)) vs = wipe σ vs)
    (he : ∀ x ∈ xs, ∀ y ∈ ys, ∀ H1, Ex H H1 → Ev te (((wipe σ vs).set j1 (some x)).set j2 (some y)) H1 (f x y)) : EvL (tLc (iZip K (tCons t1 (tCons t2 tNil))) (gTup K 2 (gCons (gName j1) (gCons (gName j2) gNil))) tYes te vs) σ H (List.zipWith f xs ys) := fun H0 e Q q =>
  h1 H0 e _ fun H1 e1 => h2 H1 (e.trans e1) _ fun H2 e2 => by
    have e02 := e.trans (e1.trans e2)
    have hx2 := e02 _ _ hx
    have hy2 := e02 _ _ hy
    refine ⟨a1, a2, xs, ys, rfl, sq_of hx2, sq_of hy2, fun Dl hD => ?_⟩
    have hn : (List.zipWith f xs ys).length = min xs.length ys.length := List.length_zipWith ..
    refine lc_it (walk_zip (n := min xs.length ys.length) rfl) (Cw H2 (fun _ => true) (fun i => ((List.zipWith f xs ys)[i]?).getD .non) Dl) ⟨hD, Ex.new hD, upd_same⟩ (fun i H' _ p => ⟨sq_of (p.2.1 _ _ hx2), sq_of (p.2.1 _ _ hy2)⟩) (fun i v H' H'' hi p y => ?_) (fun H' p => ?_)
    · obtain ⟨T, a, b, rfl, hT, rfl, ha, hb⟩ := y
      obtain ⟨p1, p2, p3⟩ := p
      dsimp only at ha hb
      refine ⟨T, _, rfl, .inl (.inl upd_same), rfl, _, _, rfl, _, _, rfl, rfl, hw _ _, ?_⟩
      have c : Cw H2 (fun _ => true) (fun i => ((List.zipWith f xs ys)[i]?).getD .non) Dl i (upd H' T (.tup [a, b])) := ⟨p1, p2.trans (Ex.new hT), (Ex.new hT) _ _ p3⟩
      refine cw_turn c (by omega) et_yes fun _ => ?_
      have e3 : ((List.zipWith f xs ys)[i]?).getD .non = f a b := by rw [List.getElem?_zipWith, ha, hb]; rfl
      rw [e3]
      exact he a (List.mem_of_getElem? ha) b (List.mem_of_getElem? hb) H2 e02
    · have e4 : (List.range (min xs.length ys.length)).map (fun i => ((List.zipWith f xs ys)[i]?).getD .non) = List.zipWith f xs ys := by
        apply List.ext_getElem?
        intro i
        rw [List.getElem?_map]
        by_cases c : i < min xs.length ys.length
        · rw [List.getElem?_range c, Option.map_some, List.getElem?_eq_getElem (by rw [hn]; exact c)]
          rfl
        · rw [List.getElem?_eq_none (by rw [List.length_range]; omega), List.getElem?_eq_none (by rw [hn]; omega)]
          rfl
      have p3 := p.2.2
      rw [given_all, e4] at p3
      exact q Dl H' (fresh_back (e1.trans e2) p.1) ((e1.trans e2).trans p.2.1) p3
theorem rd_weights (T : Tx K mg) (h : RecAt K A H m) (ho : Ev ta σ H (.ref A.R)) : ∃ lw, Ev (tFld K ta "weights") σ H (.ref lw) ∧ hid A.S H lw = some (.lst (m.weights.map V.int)) := by
  obtain ⟨lw, h1, h2⟩ := h.obj
  exact ⟨lw, ev_fld ho h1 T.k_Record T.n_Record_weights ((lk_past (by decide)).trans ((lk_past (by decide)).trans lk_here)), h2⟩
theorem paidSum_eq : ∀ l : List Vbptai.Charge, paidSum l = (Vbptai.sumNat (l.map fun c => c.paid) : Int)
  | [] => rfl
  | x :: l => by
    have ih := paidSum_eq l
    unfold paidSum at ih ⊢
    rw [List.map_cons, List.sum_cons, ih, List.map_cons, sumNat_cons]
    omega
theorem sum_bound : ∀ l : List Nat, (∀ x ∈ l, x ≤ 1000) → Vbptai.sumNat l ≤ 1000 * l.length
  | [], _ => Nat.le_refl _
  | x :: l, h => by
    have h1 := (h x (List.mem_cons_self ..))
    have h2 := sum_bound l fun y hy => h y (List.mem_cons_of_mem _ hy)
    rw [sumNat_cons, List.length_cons]
    omega
theorem sumW_pos : ∀ l : List Nat, (∃ x ∈ l, 0 < x) → 0 < Vbptai.sumNat l
  | [], h => by obtain ⟨_, h, _⟩ := h; cases h
  | x :: l, h => by
    rw [sumNat_cons]
    obtain ⟨y, hy, h0⟩ := h
    obtain rfl | hy := List.mem_cons.mp hy
    · omega
    · have := sumW_pos l ⟨y, hy, h0⟩
      omega
abbrev s_take_closing : Stmt := topS 43
abbrev N_take_closing : List Str := ["record", "books", "event", "pot", "shares", "before", "share"]
theorem sc_take_closing : FnScope N_take_closing ["record", "books", "event"] (defScope s_take_closing) := ⟨rfl, rfl, rfl, by decide +kernel, rfl, by decide +kernel, by decide +kernel⟩
def isClo : Vbptai.Deed → Prop
  | .closing => True
  | _ => False
theorem ok_take_closing (T : Tx K mg) (Y : Tw P w K) (Z : Tz K mg base) : Own P w K mg base CX0 5 "take_closing" ["record", "books", "event"] (spTake K isClo) := by
  refine own_mk T.d_take_closing T.g_take_closing (fun _ _ _ _ _ _ us hl => match us, hl with | [_, _, _], _ => rfl) fun fd F => ?_
  refine F.ok sc_take_closing (fun vs H Q E h => by obtain ⟨_, _, _, _, _, _, _, rfl, _⟩ := h; rfl) (fun cdv A outer s H vs Q E hr h => ⟨_, PSs.nox
    (pss_cons (ps_set (i := 3) sc_take_closing.nd rfl (Or.inl rfl) (pe_own (ok_pot_of T) hr (by decide) pass0 (pa_cons (pv 1) pa_nil)))
    (pss_one (ps_if (pt_cmpR op_gt (pv 3) pe_int (nomark _))
      (pss_cons (ps_set (i := 4) sc_take_closing.nd rfl (Or.inl rfl) (pe_own (ok_shares_of T Y Z) hr (by decide) pass0 (pa_cons (pv 3) (pa_cons (pe_fld (pv 0) rfl) pa_nil))))
      (pss_one (ps_fld (pv 1) (pe_lc (own := [("before", 5), ("share", 6)]) (g := (gTup K 2 (gCons (gName 5) (gCons (gName 6) gNil)))) (tt := tYes) rfl sc_take_closing.nd (pi_zip (by rfl) T.b_zip (pa_cons (pe_fld (pv 1) rfl) (pa_cons (pv 4) pa_nil))) (blkOk_by (N := N_take_closing) (sc := defScope s_take_closing) (by decide +kernel)) (fun _ _ _ _ _ => by exact (pg_tupK (K := K) (n := 2) rfl rfl (pgs_cons (pg_name (i := 5) sc_take_closing.nd rfl (Or.inl rfl)) (pgs_cons (pg_name (i := 6) sc_take_closing.nd rfl (Or.inl rfl)) pgs_nil)))) (fun _ _ _ _ _ => by exact pts_nil) (fun _ _ _ _ _ => by exact (pe_op op_add (pv 5) (pv 6)))) rfl)))
      pss_nil))), ?_⟩)
  obtain ⟨A, m, s, B, b, ⟨num, day, deed⟩, a, rfl, hA, hB, W, hE, he, hok, hk, k⟩ := h
  cases deed with
  | closing =>
    have hdone : Vbptai.done s b ⟨num, day, .closing⟩ = if 0 < potM b then { b with handed := (b.handed.zip (Vbptai.shares s.lands (potM b).toNat)).map fun p => p.1 + p.2 } else b := by
      have hp : ((Vbptai.sumNat ((b.charges.filter fun c => c.shared).map fun c => c.paid) : Nat) : Int) - ((Vbptai.sumNat b.handed : Nat) : Int) = potM b := by
        unfold potM
        rw [paidSum_eq, natSum_eq]
      show (if 0 < ((Vbptai.sumNat ((b.charges.filter fun c => c.shared).map fun c => c.paid) : Nat) : Int) - ((Vbptai.sumNat b.handed : Nat) : Int) then _ else b) = _
      rw [hp]
    rw [hdone] at k
    refine q_asg (v := .int (potM b)) (ev_call (ea_cons (ev_var rfl) ea_nil) fun H1 e1 Q q E => ⟨B, b, rfl, hB.stay e1, by have := W.few; omega, fun H2 e2 => q H2 e2⟩) fun H1 e1 => ?_
    have hB1 := hB.stay e1
    refine s_when (b := decide (potM b > 0)) (et_test (ev_op (ev_var rfl) ev_c rv_cmp)) (fun hb H2 e2 => ?_) (fun hb H2 e2 => ?_)
    · have hpos : 0 < potM b := of_decide_eq_true hb
      rw [if_pos hpos] at k
      have hB2 := hB1.stay e2
      have e12 := e1.trans e2
      obtain ⟨l1, l2, l3, l4⟩ := hA.wide.lands
      have hR2 : RecAt K A H2 m := (hA.at_.stay hid_le).stay e12
      have potN : V.int (potM b) = V.int (((potM b).toNat : Nat) : Int) := by
        congr 1
        omega
      have wv : m.weights.map V.int = natV s.lands := by
        rw [hA.rel.lan, natV_eq]
      obtain ⟨lw, w1, w2⟩ := rd_weights (ta := tVar 0) (σ := [some (.ref A.R), some (.ref B.R), some (.ref a), some (.int (potM b)), none, none, none]) T hR2 (ev_var rfl)
      rw [wv] at w2
      refine q_asgC (ea_cons (ev_is (ev_var rfl) potN) (ea_cons w1 ea_nil)) fun H3 e3 => ⟨(potM b).toNat, lw, s.lands, rfl, e3 _ _ (hid_le _ _ w2), l2, l3, sumW_pos _ l4, Nat.le_trans (sum_bound _ l3) (by omega), (hB2.stay e3).tabS, fun p H4 np x4 t4 h4 => ?_⟩
      have hB3 := hB2.stay e3
      have hB4 := hB3.stayX x4 t4
      obtain ⟨lh, o1, o2⟩ := hB4.obj
      have hh := (hid_of o2).2
      have zl : EvL (tLc (iZip K (tCons (tFld K (tVar 1) "handed") (tCons (tVar 4) tNil))) (gTup K 2 (gCons (gName 5) (gCons (gName 6) gNil))) tYes (tOp (rI0 fun i j => .int (i + j)) (tVar 5) (tVar 6)) [5, 6]) [some (.ref A.R), some (.ref B.R), some (.ref a), some (.int (potM b)), some (.ref p), none, none] H4 (natV ((b.handed.zip (Vbptai.shares s.lands (potM b).toNat)).map fun p => p.1 + p.2)) := by
        have e : natV ((b.handed.zip (Vbptai.shares s.lands (potM b).toNat)).map fun p => p.1 + p.2) = List.zipWith (fun x y => match x, y with | .int i, .int j => V.int (i + j) | _, _ => .non) (natV b.handed) (natV (Vbptai.shares s.lands (potM b).toNat)) := by
          unfold natV
          rw [List.zipWith_map, List.map_map]
          generalize Vbptai.shares s.lands (potM b).toNat = sh
          generalize b.handed = hd
          induction hd generalizing sh with
          | nil => rfl
          | cons x hd ih =>
            cases sh with
            | nil => rfl
            | cons y sh => exact congrArg _ (ih sh)
        rw [e]
        refine el_zip _ (bk_handed T o1 (ev_var rfl)) (ev_var rfl) hh h4 (by unfold natV; rw [List.length_map]; have := W.han; omega) (fun _ _ => rfl) fun x hx y hy H5 e5 => ?_
        obtain ⟨i, _, rfl⟩ := List.mem_map.mp hx
        obtain ⟨j, _, rfl⟩ := List.mem_map.mp hy
        exact ev_op (ev_var rfl) (ev_var rfl) rv_I0
      refine (eq_L zl) H4 (Ex.refl _) _ fun v H5 e5 hv => ?_
      obtain ⟨l, rfl, nl, h5⟩ := hv
      refine ev_var (i := 1) rfl H5 (Ex.refl _) _ fun H6 e6 => ?_
      have e56 := e5.trans e6
      refine ⟨B.R, _, _, _, rfl, e56 _ _ o1, T.k_Books, T.n_Books_handed, by show 7 < 1000; decide, ?_⟩
      rw [put_handed]
      have lS : l ∉ B.S := fun z => by
        obtain ⟨o, ho⟩ := hB4.has z
        rw [ho] at nl
        cases nl
      refine k B _ rfl rfl ?_ ((hB4.stay e56).putR (by rw [hid_at lS]; exact e6 _ _ h5))
      refine ((ExtN.of (hid_mono (e12.trans e3))).trans (hid_monoX x4)).trans (ExtN.of ?_)
      exact (ExS.of e56).upd (BkA.sixS (by simp [BkA.six]))
    · rw [if_neg (of_decide_eq_false hb)] at k
      exact k B H2 rfl rfl (ExtN.of (hid_mono (e1.trans e2))) (hB1.stay e2)
  | _ => exact hok.elim
end
end FB
-- B13
set_option Elab.async false
set_option linter.all false
set_option maxRecDepth 100000
set_option maxHeartbeats 3900000
namespace FB
open PySem PySem.Spec PyProof.Rows L2 Evl
section
variable {s : Vbptai.State} {b : Vbptai.Books} {e : Vbptai.Event} {d n k : Nat}
/-- the numbers and days of the charges -/
def ndC (b : Vbptai.Books) : List (Nat × Nat) := b.charges.map fun c => (c.num, c.day)
def ndE (l : List Vbptai.Event) : List (Nat × Nat) := (l.filter Vbptai.isCharge).map fun e => (e.num, e.day)
def Kept (l : List Vbptai.Event) (b : Vbptai.Books) : Prop := ndC b = ndE l
theorem only_nd {f : Vbptai.Books → Nat → Vbptai.Books} (hf : Only f) (W : WfB b) : ndC (f b k) = ndC b := by
  unfold ndC
  rcases hf b k W with e | ⟨x, h1, ⟨c, hc, hk, hd⟩, e⟩
  · rw [e]
  · rw [e]
    unfold setCh
    rw [List.map_map]
    refine List.map_congr_left fun y hy => ?_
    show ((if y.num = k then x else y).num, (if y.num = k then x else y).day) = (y.num, y.day)
    by_cases z : y.num = k
    · rw [if_pos z, h1, hd, nodup_inj W.nums y hy c hc (z.trans hk.symm), hk]
    · rw [if_neg z]
theorem fold_nd {f : Vbptai.Books → Nat → Vbptai.Books} (hf : Only f) (hw : ∀ b k, WfB b → WfB (f b k)) : ∀ {ks : List Nat} {b : Vbptai.Books}, WfB b → ndC (ks.foldl f b) = ndC b
  | [], _, _ => rfl
  | k :: ks, b, W => (fold_nd hf hw (ks := ks) (hw b k W)).trans (only_nd hf W)
theorem WfB.settleP (W : WfB b) : WfB (settleP b) := fold_wf (fun b k W => W.settleOne k) W
theorem WfB.passP (W : WfB b) (d : Nat) : WfB (passP d b) := fold_wf (fun b k W => W.timeOne d k) W
theorem nd_settleP (W : WfB b) : ndC (FB.settleP b) = ndC b := fold_nd settle_only (fun b k W => W.settleOne k) W
theorem nd_passP (W : WfB b) : ndC (FB.passP d b) = ndC b := fold_nd (time_only d) (fun b k W => W.timeOne d k) W
theorem WfB.done (W : WfB b) (Wd : Wide s) (We : Well s) (he : e ∈ s.events) (hk : Known b e) : WfB (Vbptai.done s b e) := by
  obtain ⟨num, day, deed⟩ := e
  have hd := Wd.deeds _ he
  cases deed with
  | deposit a n => exact ⟨by show (b.accounts.set _ _).length = 20; rw [List.length_set]; exact W.acc, W.cre, W.ord, W.ords, W.nums, W.own, W.pay, W.few, W.ext, W.lat, W.han⟩
  | bounce q =>
    show WfB (match Vbptai.depositOf s q with | some p => _ | none => b)
    cases Vbptai.depositOf s q with
    | none => exact W
    | some p => exact ⟨by show (b.accounts.set _ _).length = 20; rw [List.length_set]; exact W.acc, W.cre, W.ord, W.ords, W.nums, W.own, W.pay, W.few, W.ext, W.lat, W.han⟩
  | charge o u f =>
    obtain ⟨o1, o2, _⟩ : 1 ≤ o ∧ o ≤ 40 ∧ u ≤ 10000 := hd
    have hk2 : num ∉ b.charges.map (fun c => c.num) ∧ b.charges.length < 60 := hk
    obtain ⟨k1, k2⟩ := hk2
    have add : ∀ bs lt sh, lt ≤ 100 → WfB { b with charges := b.charges ++ [newCh ⟨num, day, .charge o u f⟩ o bs lt sh] } := fun bs lt sh hl => by
      refine ⟨W.acc, W.cre, W.ord, W.ords, ?_, fun c hc => ?_, fun c hc => ?_, ?_, fun c hc => ?_, fun c hc => ?_, W.han⟩
      · show ((b.charges ++ [newCh ⟨num, day, .charge o u f⟩ o bs lt sh]).map fun c => c.num).Nodup
        rw [List.map_append]
        refine List.nodup_append.mpr ⟨W.nums, by simp, fun x hx y hy => ?_⟩
        rw [List.map_singleton, List.mem_singleton] at hy
        rw [hy]
        exact fun z => k1 (by rw [show num = x from z.symm]; exact hx)
      · rcases List.mem_append.mp hc with hc | hc
        · exact W.own c hc
        · rw [List.mem_singleton.mp hc]
          exact ⟨o1, o2⟩
      · rcases List.mem_append.mp hc with hc | hc
        · exact W.pay c hc
        · rw [List.mem_singleton.mp hc]
          exact Nat.zero_le _
      · show (b.charges ++ [_]).length ≤ 60
        (rw [List.length_append, List.length_singleton])
        omega
      · rcases List.mem_append.mp hc with hc | hc
        · exact W.ext c hc
        · rw [List.mem_singleton.mp hc]
          exact Nat.zero_le _
      · rcases List.mem_append.mp hc with hc | hc
        · exact W.lat c hc
        · rw [List.mem_singleton.mp hc]
          exact hl
    show WfB (match Vbptai.feeOn s day f with | none => _ | some x => _)
    cases q : Vbptai.feeOn s day f with
    | none => exact add 0 0 false (by decide)
    | some x => exact add _ x.late x.shared (feeOn_ok Wd q).1
  | pay o n => exact ⟨W.acc, by show (b.credits.set _ _).length = 40; rw [List.length_set]; exact W.cre, W.ord, W.ords, W.nums, W.own, W.pay, W.few, W.ext, W.lat, W.han⟩
  | order a o =>
    obtain ⟨a1, _, _⟩ : a ≤ 20 ∧ 1 ≤ o ∧ o ≤ 40 := hd
    exact ⟨W.acc, W.cre, by show (b.orders.set _ _).length = 40; rw [List.length_set]; exact W.ord, fun x hx => (mem_set hx).elim (fun z => by rw [z]; exact a1) (W.ords x), W.nums, W.own, W.pay, W.few, W.ext, W.lat, W.han⟩
  | refund q =>
    obtain ⟨c, hc, rfl⟩ : ∃ c ∈ b.charges, c.num = q := List.mem_map.mp hk
    show WfB (match b.charges.find? fun x => x.num == c.num with | none => b | some c => _)
    rw [find_num W.nums hc]
    dsimp only
    rw [map_given W.nums hc]
    split
    · have h := W.charge (d := { c with paid := 0, state := 3 }) hc rfl rfl (Nat.zero_le _) (W.ext c hc) (W.lat c hc)
      exact ⟨h.acc, h.cre, h.ord, h.ords, h.nums, h.own, h.pay, h.few, h.ext, h.lat, h.han⟩
    · exact W
  | closing =>
    show WfB (if 0 < _ then { b with handed := _ } else b)
    split
    · refine ⟨W.acc, W.cre, W.ord, W.ords, W.nums, W.own, W.pay, W.few, W.ext, W.lat, ?_⟩
      rw [List.length_map, List.length_zip]
      exact Nat.le_trans (Nat.min_le_left ..) W.han
    · exact W
theorem nd_done (W : WfB b) (hk : Known b e) : ndC (Vbptai.done s b e) = ndC b ++ ndE [e] := by
  obtain ⟨num, day, deed⟩ := e
  have nil : ∀ x : List (Nat × Nat), x = x ++ [] := fun x => (List.append_nil x).symm
  cases deed with
  | deposit a n => exact nil _
  | bounce q =>
    show ndC (match Vbptai.depositOf s q with | some p => _ | none => b) = _
    cases Vbptai.depositOf s q <;> exact nil _
  | charge o u f =>
    show ndC (match Vbptai.feeOn s day f with | none => _ | some x => _) = _
    cases Vbptai.feeOn s day f <;> exact List.map_append ..
  | pay o n => exact nil _
  | order a o => exact nil _
  | refund q =>
    obtain ⟨c, hc, rfl⟩ : ∃ c ∈ b.charges, c.num = q := List.mem_map.mp hk
    show ndC (match b.charges.find? fun x => x.num == c.num with | none => b | some c => _) = _
    rw [find_num W.nums hc]
    dsimp only
    rw [map_given W.nums hc]
    refine Eq.trans ?_ (nil _)
    split
    · unfold ndC
      dsimp only
      unfold setCh
      rw [List.map_map]
      refine List.map_congr_left fun y hy => ?_
      show ((if y.num = c.num then ({ c with paid := 0, state := 3 } : Vbptai.Charge) else y).num, (if y.num = c.num then ({ c with paid := 0, state := 3 } : Vbptai.Charge) else y).day) = (y.num, y.day)
      by_cases z : y.num = c.num
      · rw [if_pos z, nodup_inj W.nums y hy c hc z]
      · rw [if_neg z]
    · rfl
  | closing =>
    show ndC (if 0 < _ then { b with handed := _ } else b) = _
    refine Eq.trans ?_ (nil _)
    split <;> rfl
/-! ### days -/
def onDay (d : Nat) (e : Vbptai.Event) : Bool := e.day == d
def ere (d : Nat) (e : Vbptai.Event) : Bool := decide (e.day < d)
def tookP (s : Vbptai.State) (b : Vbptai.Books) (e : Vbptai.Event) : Vbptai.Books := settleP (Vbptai.done s b e)
def dayP (s : Vbptai.State) (b : Vbptai.Books) (d : Nat) : Vbptai.Books := (s.events.filter (onDay d)).foldl (tookP s) (settleP (passP d b))
theorem before_day {x y : Vbptai.Event} (h : Vbptai.before x y = true) : x.day ≤ y.day := by
  unfold Vbptai.before at h
  (simp only [Bool.or_eq_true, decide_eq_true_eq, Bool.and_eq_true, beq_iff_eq] at h)
  omega
/-- what is known when the event at i is taken -/
theorem known_at {i : Nat} (W : WfB b) (Wd : Wide s) (We : Well s) (hi : s.events[i]? = some e) (hd : e.day = d) (hK : Kept (s.events.filter (ere d) ++ (s.events.take i).filter (onDay d)) b) : Known b e := by
  have he := List.mem_of_getElem? hi
  have nums : ∀ k, k ∈ b.charges.map (·.num) ↔ ∃ x ∈ s.events.filter (ere d) ++ (s.events.take i).filter (onDay d), Vbptai.isCharge x = true ∧ x.num = k := fun k => by
    have e1 : b.charges.map (·.num) = (ndC b).map (·.1) := by
      unfold ndC
      rw [List.map_map]
      rfl
    rw [e1, hK]
    unfold ndE
    rw [List.map_map, List.mem_map]
    constructor
    · rintro ⟨x, hx, rfl⟩
      obtain ⟨x1, x2⟩ := List.mem_filter.mp hx
      exact ⟨x, x1, x2, rfl⟩
    · rintro ⟨x, x1, x2, rfl⟩
      exact ⟨x, List.mem_filter.mpr ⟨x1, x2⟩, rfl⟩
  have spl : s.events = s.events.take i ++ e :: s.events.drop (i + 1) := by
    obtain ⟨h, z⟩ := List.getElem?_eq_some_iff.mp hi
    rw [← z, ← List.drop_eq_getElem_cons h, List.take_append_drop]
  have so := Wd.evs
  rw [spl] at so
  obtain ⟨s1, s2, s3⟩ := List.pairwise_append.mp so
  obtain ⟨s4, _⟩ := List.pairwise_cons.mp s2
  have deed := Wd.deeds e he
  unfold deedOk at deed
  unfold Known
  have hsub : ∀ x ∈ s.events.filter (ere d) ++ (s.events.take i).filter (onDay d), x ∈ s.events.take i := fun x hx => by
    obtain hx | hx := List.mem_append.mp hx
    · obtain ⟨x1, x2⟩ := List.mem_filter.mp hx
      have lt : x.day < d := of_decide_eq_true x2
      rw [spl] at x1
      rcases List.mem_append.mp x1 with x1 | x1
      · exact x1
      · exfalso
        rcases List.mem_cons.mp x1 with rfl | x1
        · omega
        · have := before_day (s4 x x1)
          omega
    · exact (List.mem_filter.mp hx).1
  cases q : e.deed with
  | refund k =>
    rw [q] at deed
    obtain ⟨x, x1, x2, x3, x4⟩ := deed
    refine (nums k).mpr ⟨x, ?_, x3, x2⟩
    rw [spl] at x1
    rcases List.mem_append.mp x1 with x1 | x1
    · by_cases z : x.day = d
      · exact List.mem_append_right _ (List.mem_filter.mpr ⟨x1, by unfold onDay; rw [z]; exact beq_self_eq_true d⟩)
      · exact List.mem_append_left _ (List.mem_filter.mpr ⟨List.mem_of_mem_take x1, decide_eq_true (by omega)⟩)
    · exfalso
      have rk : Vbptai.rankOf x.deed = 2 := by
        unfold Vbptai.isCharge at x3
        cases w : x.deed <;> rw [w] at x3 <;> first | rfl | cases x3
      rcases List.mem_cons.mp x1 with rfl | x1
      · rw [q] at rk
        cases rk
      · have bf := s4 x x1
        unfold Vbptai.before at bf
        rw [q, rk] at bf
        simp only [Bool.or_eq_true, decide_eq_true_eq, Bool.and_eq_true, beq_iff_eq] at bf
        have : Vbptai.rankOf (Vbptai.Deed.refund k) = 5 := rfl
        omega
  | charge o u f =>
    refine ⟨fun z => ?_, ?_⟩
    · obtain ⟨x, x1, x2, x3⟩ := (nums e.num).mp z
      have nd := We.nums
      rw [spl, List.map_append, List.map_cons] at nd
      exact (List.nodup_append.mp nd).2.2 x.num (List.mem_map.mpr ⟨x, hsub x x1, rfl⟩) e.num (List.mem_cons_self ..) x3
    · have e1 : b.charges.length = (ndC b).length := by
        unfold ndC
        rw [List.length_map]
      rw [e1, hK]
      unfold ndE
      rw [List.length_map]
      have l1 : ((s.events.filter (ere d) ++ (s.events.take i).filter (onDay d)).filter Vbptai.isCharge).length ≤ (s.events.filter (ere d) ++ (s.events.take i).filter (onDay d)).length := List.length_filter_le ..
      have l2 : s.events.filter (ere d) = (s.events.take i).filter (ere d) := by
        have f2 : (e :: s.events.drop (i + 1)).filter (ere d) = [] := List.filter_eq_nil_iff.mpr fun x hx z => by
          have lt : x.day < d := of_decide_eq_true z
          obtain rfl | hx := List.mem_cons.mp hx
          · omega
          · have := before_day (s4 x hx)
            omega
        have := congrArg (List.filter (ere d)) spl
        rw [List.filter_append, f2, List.append_nil] at this
        exact this
      rw [l2, List.length_append] at l1
      have l3 : ((s.events.take i).filter (ere d)).length + ((s.events.take i).filter (onDay d)).length ≤ (s.events.take i).length := by
        generalize s.events.take i = l
        induction l with
        | nil => exact Nat.le_refl _
        | cons x l ih =>
          by_cases c1 : x.day < d
          · rw [List.filter_cons_of_pos (by exact decide_eq_true c1), List.filter_cons_of_neg (by unfold onDay; simp; omega), List.length_cons, List.length_cons]
            omega
          · rw [List.filter_cons_of_neg (by unfold ere; simp; omega), List.filter_cons, List.length_cons]
            split
            · rw [List.length_cons]
              omega
            · omega
      have l4 := We.few
      rw [spl, List.length_append, List.length_cons] at l4
      rw [l2]
      omega
  | _ => trivial
end
end FB
-- B14
set_option Elab.async false
set_option linter.all false
set_option maxRecDepth 100000
set_option maxHeartbeats 3900000
namespace FB
open PySem PySem.Spec PyProof.Rows L2 Evl
open LamX NdefX
section
variable {K : PySem.W.Frag} {mg : Str → Option Value} {P : Program} {base : Heap} {w : World}
variable {σ : L2.St} {H H' : Hp} {A : RecA} {m : RecM} {s : Vbptai.State} {B : BkA} {b : Vbptai.Books} {n k d : Nat} {e : Vbptai.Event}
abbrev s_take : Stmt := topS 45
abbrev N_take : List Str := ["record", "books", "event", "taker"]
theorem sc_take : FnScope N_take ["record", "books", "event"] (defScope s_take) := ⟨rfl, rfl, rfl, by decide +kernel, rfl, by decide +kernel, by decide +kernel⟩
theorem take_nodup : (takeT.map fun q => (Sum.inl q.1 : Key)).Nodup := by decide
theorem ok_take (T : Tx K mg) (Y : Tw P w K) (Z : Tz K mg base) : Own P w K mg base CX0 6 "take" ["record", "books", "event"] (spTake K fun _ => True) := by
  refine own_mk T.d_take T.g_take (fun _ _ _ _ _ _ us hl => match us, hl with | [_, _, _], _ => rfl) fun fd F => ?_
  refine F.ok sc_take (fun vs H Q E h => by obtain ⟨_, _, _, _, _, _, _, rfl, _⟩ := h; rfl) (fun cdv A outer s H vs Q E hr h => ⟨_, PSs.nox
    (pss_cons (ps_set (i := 3) sc_take.nd rfl (Or.inl rfl) (pe_kget (pe_cref T.g_TAKERS) (pe_fld (pv 2) rfl) (fun _ _ => rfl)))
    (pss_one (ps_expr (pe_callH (i := 3) hr (by rfl) (Or.inl rfl) (pa_cons (pv 0) (pa_cons (pv 1) (pa_cons (pv 2) pa_nil))))))), ?_⟩)
  obtain ⟨A, m, s, B, b, e, a, rfl, hA, hB, W, hE, he, _, hk, k⟩ := h
  obtain ⟨as, has, hd, ht⟩ := Y.ta
  have hE0 := hE
  obtain ⟨dx, r, g0, _⟩ := hE
  have g1 := hid_le _ _ g0
  have go : ∀ (x : Str) (ok : Vbptai.Deed → Prop), ((evM e).kind, x) ∈ takeT → Held P w K mg base 5 (He.ga K x) (spTake K ok) → ok e.deed → tSeq (tAsg (tKGet P w K (tC (.ref (He.ga K "TAKERS"))) (tFld K (tVar 2) "kind")) (gName 3)) (tDrop (tCallH P w K mg base 5 3 (tCons (tVar 0) (tCons (tVar 1) (tCons (tVar 2) tNil))))) { nx := fun _ H' => Q .non H', rt := Q } (L2.start N_take [.ref A.R, .ref B.R, .ref a]) H := fun x ok hm hH ho => by
    obtain ⟨ad, ha, hv⟩ := valV_tab (key := fun q : Int × Str => (Sum.inl q.1 : Key)) has take_nodup hm
    have hx := ht _ ha
    dsimp only at hx
    rw [hx] at hv
    refine q_asg (ev_kget (k := Sum.inl (evM e).kind) ev_c (ev_kind T g1 (ev_var rfl)) hd hv) fun H1 e1 => ?_
    exact ⟨_, _, rfl, hH, (ea_cons (ev_var rfl) (ea_cons (ev_var rfl) (ea_cons (ev_var rfl) ea_nil)) : EvA _ _ H1 [.ref A.R, .ref B.R, .ref a]) H1 (Ex.refl _) _ fun H2 e2 =>
      ⟨A, m, s, B, b, e, a, rfl, hA.stay (hid_mono (e1.trans e2)), hB.stay (e1.trans e2), W, hE0.stay (hid_mono (e1.trans e2)), he, ho, hk, fun B' H3 p3 r3 x3 h3 => k B' H3 p3 r3 ((ExtN.of (hid_mono (e1.trans e2))).trans x3) h3⟩⟩
  have kd : ∀ i : Nat, Vbptai.rankOf e.deed = i → (evM e).kind = (i : Int) + 3 := fun i hi => by rw [kind_rank, hi]
  cases q : e.deed with
  | deposit a n => exact go "take_deposit" isDep (by rw [kd 0 (by rw [q]; rfl)]; decide) ((ok_take_deposit T).held (by decide)) (by rw [q]; trivial)
  | bounce x => exact go "take_bounce" isBnc (by rw [kd 1 (by rw [q]; rfl)]; decide) ((ok_take_bounce T).held (by decide)) (by rw [q]; trivial)
  | charge o u f => exact go "take_charge" isChg (by rw [kd 2 (by rw [q]; rfl)]; decide) ((ok_take_charge T).held (by decide)) (by rw [q]; trivial)
  | pay o n => exact go "take_payment" isPay (by rw [kd 3 (by rw [q]; rfl)]; decide) ((ok_take_payment T).held (by decide)) (by rw [q]; trivial)
  | order x o => exact go "take_order" isOrd (by rw [kd 4 (by rw [q]; rfl)]; decide) ((ok_take_order T).held (by decide)) (by rw [q]; trivial)
  | refund x => exact go "take_refund" isRef (by rw [kd 5 (by rw [q]; rfl)]; decide) ((ok_take_refund T).held (by decide)) (by rw [q]; trivial)
  | closing => exact go "take_closing" isClo (by rw [kd 6 (by rw [q]; rfl)]; decide) ((ok_take_closing T Y Z).held (by decide)) (by rw [q]; trivial)
abbrev s_take_day : Stmt := topS 47
abbrev N_take_day : List Str := ["record", "books", "events", "day", "event"]
theorem sc_take_day : FnScope N_take_day ["record", "books", "events", "day"] (defScope s_take_day) := ⟨rfl, rfl, rfl, by decide +kernel, rfl, by decide +kernel, by decide +kernel⟩
def dayL (s : Vbptai.State) (d i : Nat) : List Vbptai.Event := s.events.filter (ere d) ++ (s.events.take i).filter (onDay d)
def sp_take_day (K : PySem.W.Frag) : Sp := fun vs H Q _ => ∃ (A : RecA) (m : RecM) (s : Vbptai.State) (B : BkA) (b : Vbptai.Books) (pe : Addr) (xs : List V) (d : Nat), vs = [.ref A.R, .ref B.R, .ref pe, .int d] ∧ Ask K A (hid B.S H) m s ∧ BkAt K B H b ∧ WfB b ∧ Kept (s.events.filter (ere d)) b ∧ hid B.S H pe = some (.lst xs) ∧ Paired (fun e v => evR K (hid B.S H) (evM e) v) s.events xs ∧
  ∀ B' H2, B'.R = B.R → ExtN (hid B.S H) (hid B'.S H2) → BkAt K B' H2 (dayP s b d) → WfB (dayP s b d) → Kept (s.events.filter (ere d) ++ s.events.filter (onDay d)) (dayP s b d) → Q .non H2
theorem ok_take_day (T : Tx K mg) (Y : Tw P w K) (Z : Tz K mg base) : Own P w K mg base CX0 7 "take_day" ["record", "books", "events", "day"] (sp_take_day K) := by
  refine own_mk T.d_take_day T.g_take_day (fun _ _ _ _ _ _ us hl => match us, hl with | [_, _, _, _], _ => rfl) fun fd F => ?_
  refine F.ok sc_take_day (fun vs H Q E h => by obtain ⟨_, _, _, _, _, _, _, _, rfl, _⟩ := h; rfl) (fun cdv A outer s H vs Q E hr h => ⟨_, PSs.nox
    (pss_cons (ps_expr (pe_own (ok_pass_time T) hr (by decide) pass0 (pa_cons (pv 1) (pa_cons (pv 3) pa_nil))))
    (pss_cons (ps_expr (pe_own (ok_settle T) hr (by decide) pass0 (pa_cons (pv 1) pa_nil)))
    (pss_one (ps_for PassesOwn.never rfl (pi_list (pv 2)) (pg_name (i := 4) sc_take_day.nd rfl (Or.inl rfl))
      (pss_one (ps_if (pt_cmpR op_eq (pe_fld (pv 4) rfl) (pv 3) (nomark _))
        (pss_cons (ps_expr (pe_own (ok_take T Y Z) hr (by decide) pass0 (pa_cons (pv 0) (pa_cons (pv 1) (pa_cons (pv 4) pa_nil)))))
        (pss_one (ps_expr (pe_own (ok_settle T) hr (by decide) pass0 (pa_cons (pv 1) pa_nil)))))
        pss_nil)))))), ?_⟩)
  obtain ⟨A, m, s, B, b, pe, xs, d, rfl, hA, hB, W, hK, hpe, hxs, k⟩ := h
  have W1 := W.passP d
  have W2 := W1.settleP
  refine q_dropC (ea_cons (ev_var rfl) (ea_cons (ev_var rfl) ea_nil)) fun H1 e1 => ⟨B, b, d, rfl, hB.stay e1, W, fun H2 e2 h2 => ?_⟩
  refine q_dropC (ea_cons (ev_var rfl) ea_nil) fun H3 e3 => ⟨B, _, rfl, h2.stay e3, W1, fun H4 e4 h4 => ?_⟩
  have e14 : ExS B.S H H4 := (((ExS.of e1).trans e2).trans (ExS.of e3)).trans e4
  have K2 : Kept (dayL s d 0) (settleP (passP d b)) := by
    unfold Kept dayL
    rw [nd_settleP W1, nd_passP W, List.take_zero, List.filter_nil, List.append_nil]
    exact hK
  refine s_forLn (K := K) (xs := xs) (ev_var rfl) (sq_of (hid_le _ _ (e14 _ _ hpe))) (fun i σ' H' => ∃ (B' : BkA) (u : Option V), σ' = [some (.ref A.R), some (.ref B.R), some (.ref pe), some (.int (d : Nat)), u] ∧ B'.R = B.R ∧ ExtN (hid B.S H) (hid B'.S H') ∧ BkAt K B' H' (((s.events.take i).filter (onDay d)).foldl (tookP s) (settleP (passP d b))) ∧ WfB (((s.events.take i).filter (onDay d)).foldl (tookP s) (settleP (passP d b))) ∧ Kept (dayL s d i) (((s.events.take i).filter (onDay d)).foldl (tookP s) (settleP (passP d b))))
    (fun H5 e5 => ⟨B, _, rfl, rfl, ExtN.of (e14.trans (ExS.of e5)), h4.stay e5, W2, K2⟩) (fun i σ' H' _ h => ?_) (fun i v σ' H' hv h => ?_) (fun σ' H' h => ?_)
  · obtain ⟨B', u, _, _, x, _⟩ := h
    exact sq_of (hid_le _ _ (x _ _ hpe fun _ z => nomatch z))
  · obtain ⟨B', u, rfl, hR, x, hb, Wb, Kb⟩ := h
    obtain ⟨e, he, a, rfl, ha⟩ := paired_atR hxs hv
    have ha' := ha.stayX x
    obtain ⟨dx, r, g0, _⟩ := ha'
    have em := List.mem_of_getElem? he
    have dyE : Ev (tFld K (tVar 4) "day") [some (.ref A.R), some (.ref B.R), some (.ref pe), some (.int (d : Nat)), some (.ref a)] H' (.int (e.day : Nat)) := by
      have := ev_day T (hid_le _ _ g0) (ev_var (i := 4) (σ := [some (.ref A.R), some (.ref B.R), some (.ref pe), some (.int (d : Nat)), some (.ref a)]) rfl)
      rw [evM_day] at this
      exact this
    refine s_when (b := decide (e.day = d)) (et_test (ev_op dyE (ev_var rfl) rv_eqN)) (fun hb2 H5 e5 => ?_) (fun hb2 H5 e5 => ?_)
    · have hd := of_decide_eq_true hb2
      have on : onDay d e = true := by
        unfold onDay
        rw [hd]
        exact beq_self_eq_true d
      have kn := known_at Wb hA.wide hA.well he hd Kb
      have Wd := Wb.done hA.wide hA.well em kn
      have tk : ((s.events.take (i + 1)).filter (onDay d)).foldl (tookP s) (settleP (passP d b)) = tookP s (((s.events.take i).filter (onDay d)).foldl (tookP s) (settleP (passP d b))) e := by
        rw [take_one he, List.filter_append, List.filter_cons_of_pos on, List.filter_nil, List.foldl_append]
        rfl
      rw [← hR]
      refine q_dropC (ea_cons (ev_var rfl) (ea_cons (ev_var rfl) (ea_cons (ev_var rfl) ea_nil))) fun H6 e6 => ⟨A, m, s, B', _, e, a, rfl, (hA.stayX x).stay (hid_mono (e5.trans e6)), hb.stay (e5.trans e6), Wb, (ha.stayX x).stay (hid_mono (e5.trans e6)), em, trivial, kn, fun B2 H7 p7 r7 x7 h7 => ?_⟩
      rw [← r7]
      refine s_dropC (ea_cons (ev_var rfl) ea_nil) fun H8 e8 => ⟨B2, _, rfl, h7.stay e8, Wd, fun H9 e9 h9 => ⟨B2, _, rfl, rfl, ?_, ?_, ?_, ?_⟩⟩
      · exact ((x.trans (ExtN.of (hid_mono (e5.trans e6)))).trans x7).trans (ExtN.of ((ExS.of e8).trans e9))
      · rw [tk]
        exact h9
      · rw [tk]
        exact Wd.settleP
      · rw [tk]
        refine (nd_settleP Wd).trans ((nd_done Wb kn).trans ?_)
        rw [show ndC _ = _ from Kb]
        unfold dayL
        rw [take_one he, List.filter_append (l₁ := s.events.take i), List.filter_cons_of_pos on, List.filter_nil, ← List.append_assoc]
        unfold ndE
        rw [List.filter_append (l₂ := [e]), List.map_append]
    · have off : onDay d e = false := by
        unfold onDay
        exact beq_eq_false_iff_ne.mpr (of_decide_eq_false hb2)
      have tk : (s.events.take (i + 1)).filter (onDay d) = (s.events.take i).filter (onDay d) := by
        rw [take_one he, List.filter_append, List.filter_cons_of_neg (by rw [off]; decide), List.filter_nil, List.append_nil]
      refine ⟨B', _, rfl, hR, x.trans (ExtN.of (hid_mono e5)), ?_, ?_, ?_⟩
      · rw [tk]
        exact hb.stay e5
      · rw [tk]
        exact Wb
      · unfold dayL
        rw [tk]
        exact Kb
  · obtain ⟨B', u, rfl, hR, x, hb, Wb, Kb⟩ := h
    have hl : xs.length = s.events.length := hxs.length.symm
    unfold dayL at Kb
    rw [hl, List.take_length] at hb Wb Kb
    exact k B' H' hR x hb Wb Kb
end
end FB
-- B15
set_option Elab.async false
set_option linter.all false
set_option maxRecDepth 100000
set_option maxHeartbeats 3900000
namespace FB
open PySem PySem.Spec PyProof.Rows L2 Evl
open LamX NdefX
/-! ### the days -/
section
variable {s : Vbptai.State} {b : Vbptai.Books} {d n k : Nat}
theorem mem_putN {x y : Nat} : ∀ {l : List Nat}, y ∈ Vbptai.putNum x l ↔ y = x ∨ y ∈ l
  | [] => by
    show y ∈ [x] ↔ _
    simp
  | z :: l => by
    unfold Vbptai.putNum
    split
    · exact List.mem_cons
    · split
      · rename_i h
        rw [h]
        simp
      · rw [List.mem_cons, mem_putN, List.mem_cons]
        exact ⟨fun h => by rcases h with h | h | h <;> simp [h], fun h => by rcases h with h | h | h <;> simp [h]⟩
theorem sorted_putNum {x : Nat} : ∀ {l : List Nat}, l.Pairwise (· < ·) → (Vbptai.putNum x l).Pairwise (· < ·)
  | [], _ => List.pairwise_singleton ..
  | z :: l, h => by
    rcases List.pairwise_cons.mp h with ⟨h1, h2⟩
    unfold Vbptai.putNum
    split
    · rename_i c
      refine List.pairwise_cons.mpr ⟨fun y hy => ?_, h⟩
      obtain rfl | hy := List.mem_cons.mp hy
      · exact c
      · exact Nat.lt_trans c (h1 y hy)
    · split
      · exact h
      · refine List.pairwise_cons.mpr ⟨fun y hy => ?_, sorted_putNum h2⟩
        rcases mem_putN.mp hy with rfl | hy
        · omega
        · exact h1 y hy
/-- all the days, none left out -/
def dayStep (l : List Nat) (e : Vbptai.Event) : List Nat := match e.deed with
  | .charge _ _ _ => Vbptai.putNum e.day (Vbptai.putNum (e.day + Vbptai.GRACE + 1) (Vbptai.putNum (e.day + Vbptai.LAPSE + 1) l))
  | _ => Vbptai.putNum e.day l
def daysAll (s : Vbptai.State) : List Nat := s.events.foldl dayStep []
theorem days_is (ev : Nat) : Vbptai.days s ev = (daysAll s).filter fun x => decide (x ≤ ev) := rfl
theorem days_fold : ∀ (es : List Vbptai.Event) (l : List Nat), l.Pairwise (· < ·) → (es.foldl dayStep l).Pairwise (· < ·) ∧ ∀ x : Nat, x ∈ es.foldl dayStep l ↔ x ∈ l ∨ (x : Int) ∈ daysM es
  | [], l, h => ⟨h, fun x => ⟨.inl, fun z => by rcases z with z | z; exact z; cases z⟩⟩
  | e :: es, l, h => by
    have md : ∀ x : Int, x ∈ daysM (e :: es) ↔ x = (e.day : Int) ∨ x ∈ dayPut e ∨ x ∈ daysM es := fun x => by
      unfold daysM
      simp only [List.map_cons, List.flatMap_cons, List.mem_append, List.mem_cons]
      exact ⟨fun z => by rcases z with (z | z) | z | z <;> simp [z], fun z => by rcases z with z | z | z | z <;> simp [z]⟩
    rw [List.foldl_cons]
    obtain ⟨num, day, deed⟩ := e
    cases deed with
    | charge o u f =>
      obtain ⟨i1, i2⟩ := days_fold es _ (sorted_putNum (x := day) (sorted_putNum (x := day + Vbptai.GRACE + 1) (sorted_putNum (x := day + Vbptai.LAPSE + 1) h)))
      refine ⟨i1, fun x => (i2 x).trans ?_⟩
      rw [mem_putN, mem_putN, mem_putN, md]
      have dp : ∀ x : Nat, (x : Int) ∈ dayPut ⟨num, day, .charge o u f⟩ ↔ x = day + 30 + 1 ∨ x = day + 180 + 1 := fun x => by
        show (x : Int) ∈ [(day : Int) + 30 + 1, (day : Int) + 180 + 1] ↔ _
        simp only [List.mem_cons, List.not_mem_nil, or_false]
        omega
      rw [dp]
      unfold Vbptai.GRACE Vbptai.LAPSE
      constructor
      · rintro ((h | h | h | h) | h)
        · exact .inr (.inl (by show (x : Int) = (day : Int); omega))
        · exact .inr (.inr (.inl (.inl h)))
        · exact .inr (.inr (.inl (.inr h)))
        · exact .inl h
        · exact .inr (.inr (.inr h))
      · rintro (h | h | (h | h) | h)
        · exact .inl (.inr (.inr (.inr h)))
        · exact .inl (.inl (by have z : (x : Int) = (day : Int) := h; omega))
        · exact .inl (.inr (.inl h))
        · exact .inl (.inr (.inr (.inl h)))
        · exact .inr h
    | _ =>
      obtain ⟨i1, i2⟩ := days_fold es _ (sorted_putNum (x := day) h)
      refine ⟨i1, fun x => (i2 x).trans ?_⟩
      rw [mem_putN, md]
      constructor
      · rintro ((h | h) | h)
        · exact .inr (.inl (by show (x : Int) = (day : Int); omega))
        · exact .inl h
        · exact .inr (.inr (.inr h))
      · rintro (h | h | h | h)
        · exact .inl (.inr h)
        · exact .inl (.inl (by have z : (x : Int) = (day : Int) := h; omega))
        · cases h
        · exact .inr h
theorem daysAll_sorted : (daysAll s).Pairwise (· < ·) := (days_fold s.events [] .nil).1
theorem daysAll_mem (x : Nat) : x ∈ daysAll s ↔ (x : Int) ∈ daysM s.events := ((days_fold s.events [] .nil).2 x).trans ⟨fun z => z.elim (fun z => nomatch z) id, .inr⟩
theorem daysM_nat {es : List Vbptai.Event} {i : Int} (h : i ∈ daysM es) : ∃ n : Nat, i = n := by
  unfold daysM at h
  obtain h | h := List.mem_append.mp h
  · obtain ⟨e, _, rfl⟩ := List.mem_map.mp h
    exact ⟨_, rfl⟩
  · obtain ⟨e, _, h⟩ := List.mem_flatMap.mp h
    unfold dayPut at h
    split at h
    · simp only [List.mem_cons, List.not_mem_nil, or_false] at h
      exact ⟨i.toNat, by omega⟩
    · cases h
theorem sorted_uniq : ∀ {l m : List Int}, l.Pairwise (· < ·) → m.Pairwise (· < ·) → (∀ x, x ∈ l ↔ x ∈ m) → l = m
  | [], [], _, _, _ => rfl
  | [], y :: m, _, _, h => nomatch (h y).mpr (List.mem_cons_self ..)
  | x :: l, [], _, _, h => nomatch (h x).mp (List.mem_cons_self ..)
  | x :: l, y :: m, h1, h2, h => by
    obtain ⟨a1, a2⟩ := List.pairwise_cons.mp h1
    obtain ⟨b1, b2⟩ := List.pairwise_cons.mp h2
    have e : x = y := by
      rcases List.mem_cons.mp ((h x).mp (List.mem_cons_self ..)) with z | z
      · exact z
      · rcases List.mem_cons.mp ((h y).mpr (List.mem_cons_self ..)) with w | w
        · exact w.symm
        · have := a1 y w
          have := b1 x z
          omega
    subst e
    congr 1
    refine sorted_uniq a2 b2 fun z => ⟨fun hz => ?_, fun hz => ?_⟩
    · rcases List.mem_cons.mp ((h z).mp (List.mem_cons_of_mem _ hz)) with w | w
      · have := a1 z hz
        omega
      · exact w
    · rcases List.mem_cons.mp ((h z).mpr (List.mem_cons_of_mem _ hz)) with w | w
      · have := b1 z hz
        omega
      · exact w
theorem days_out {out : List Int} (so : out.Pairwise (· < ·)) (h : ∀ i, i ∈ out ↔ i ∈ daysM s.events) : out = (daysAll s).map fun (x : Nat) => (x : Int) := by
  refine sorted_uniq so (List.pairwise_map.mpr (daysAll_sorted.imp fun h => by omega)) fun i => (h i).trans ⟨fun z => ?_, fun z => ?_⟩
  · obtain ⟨n, rfl⟩ := daysM_nat z
    exact List.mem_map.mpr ⟨n, (daysAll_mem n).mpr z, rfl⟩
  · obtain ⟨n, hn, rfl⟩ := List.mem_map.mp z
    exact (daysAll_mem n).mp hn
theorem event_day {e : Vbptai.Event} (h : e ∈ s.events) : e.day ∈ daysAll s := (daysAll_mem _).mpr (List.mem_append_left _ (List.mem_map.mpr ⟨e, h, rfl⟩))
/-! what is taken by the i-th day -/
def upTo (s : Vbptai.State) (ev i : Nat) : List Vbptai.Event := s.events.filter fun e => decide (e.day ∈ (daysAll s).take i ∧ e.day ≤ ev)
theorem take_less {l : List Nat} {i x y : Nat} (so : l.Pairwise (· < ·)) (hi : l[i]? = some y) (hx : x ∈ l) : x ∈ l.take i ↔ x < y := by
  have spl : l = l.take i ++ y :: l.drop (i + 1) := by
    obtain ⟨h, z⟩ := List.getElem?_eq_some_iff.mp hi
    rw [← z, ← List.drop_eq_getElem_cons h, List.take_append_drop]
  rw [spl] at so
  obtain ⟨_, s2, s3⟩ := List.pairwise_append.mp so
  obtain ⟨s4, _⟩ := List.pairwise_cons.mp s2
  refine ⟨fun h => s3 x h y (List.mem_cons_self ..), fun h => ?_⟩
  rw [spl] at hx
  obtain hx | hx := List.mem_append.mp hx
  · exact hx
  · rcases List.mem_cons.mp hx with rfl | hx
    · omega
    · have := s4 x hx
      omega
theorem upTo_ere {ev i y : Nat} (hi : (daysAll s)[i]? = some y) (hy : y ≤ ev) : upTo s ev i = s.events.filter (ere y) := by
  unfold upTo
  refine List.filter_congr fun e he => decide_eq_decide.mpr ?_
  rw [take_less daysAll_sorted hi (event_day he)]
  omega
theorem day_split : ∀ {l : List Vbptai.Event} {y : Nat}, l.Pairwise (fun a b => a.day ≤ b.day) → l.filter (ere y) ++ l.filter (onDay y) = l.filter fun e => decide (e.day ≤ y)
  | [], _, _ => rfl
  | e :: l, y, h => by
    rcases List.pairwise_cons.mp h with ⟨h1, h2⟩
    have ih := day_split (y := y) h2
    by_cases c1 : e.day < y
    · rw [List.filter_cons_of_pos (show ere y e = true from decide_eq_true c1), List.filter_cons_of_neg (by unfold onDay; simp; omega), List.filter_cons_of_pos (p := fun e : Vbptai.Event => decide (e.day ≤ y)) (decide_eq_true (by omega)), List.cons_append, ih]
    · have nil : l.filter (ere y) = [] := List.filter_eq_nil_iff.mpr fun x hx z => by
        have := h1 x hx
        have : x.day < y := of_decide_eq_true z
        omega
      rw [List.filter_cons_of_neg (by unfold ere; simp; omega), nil, List.nil_append]
      rw [nil, List.nil_append] at ih
      by_cases c2 : e.day = y
      · rw [List.filter_cons_of_pos (by unfold onDay; rw [c2]; exact beq_self_eq_true y), List.filter_cons_of_pos (p := fun e : Vbptai.Event => decide (e.day ≤ y)) (decide_eq_true (by omega)), ih]
      · rw [List.filter_cons_of_neg (by unfold onDay; simp; omega), List.filter_cons_of_neg (by simp; omega), ih]
theorem upTo_next (W : Wide s) {ev i y : Nat} (hi : (daysAll s)[i]? = some y) (hy : y ≤ ev) : upTo s ev (i + 1) = s.events.filter (ere y) ++ s.events.filter (onDay y) := by
  rw [day_split (W.evs.imp before_day)]
  unfold upTo
  refine List.filter_congr fun e he => decide_eq_decide.mpr ?_
  rw [take_one hi, List.mem_append, take_less daysAll_sorted hi (event_day he), List.mem_singleton]
  omega
theorem upTo_skip {ev i y : Nat} (hi : (daysAll s)[i]? = some y) (hy : ¬ y ≤ ev) : upTo s ev (i + 1) = upTo s ev i := by
  unfold upTo
  refine List.filter_congr fun e he => decide_eq_decide.mpr ?_
  rw [take_one hi, List.mem_append, List.mem_singleton]
  constructor
  · rintro ⟨h | h, h2⟩
    · exact ⟨h, h2⟩
    · omega
  · exact fun h => ⟨.inl h.1, h.2⟩
def atDay (s : Vbptai.State) (ev i : Nat) : Vbptai.Books := (((daysAll s).take i).filter fun x => decide (x ≤ ev)).foldl (dayP s) (Vbptai.empty s)
theorem atDay_next {ev i y : Nat} (hi : (daysAll s)[i]? = some y) (hy : y ≤ ev) : atDay s ev (i + 1) = dayP s (atDay s ev i) y := by
  unfold atDay
  rw [take_one hi, List.filter_append, List.filter_cons_of_pos (p := fun x : Nat => decide (x ≤ ev)) (decide_eq_true hy), List.filter_nil, List.foldl_append]
  rfl
theorem atDay_skip {ev i y : Nat} (hi : (daysAll s)[i]? = some y) (hy : ¬ y ≤ ev) : atDay s ev (i + 1) = atDay s ev i := by
  unfold atDay
  rw [take_one hi, List.filter_append, List.filter_cons_of_neg (by simp; omega), List.filter_nil, List.append_nil]
def booksP (s : Vbptai.State) (ev : Nat) : Vbptai.Books := ((daysAll s).filter fun x => decide (x ≤ ev)).foldl (dayP s) (Vbptai.empty s)
theorem WfB.start (W : Wide s) : WfB (Vbptai.empty s) where
  acc := List.length_replicate ..
  cre := List.length_replicate ..
  ord := List.length_replicate ..
  ords := fun x hx => by rw [(List.mem_replicate.mp hx).2]; exact Nat.zero_le _
  nums := .nil
  own := fun _ h => nomatch h
  pay := fun _ h => nomatch h
  few := Nat.zero_le _
  ext := fun _ h => nomatch h
  lat := fun _ h => nomatch h
  han := by
    show (List.replicate s.lands.length 0).length ≤ 10
    rw [List.length_replicate]
    exact W.lands.2.1
end
end FB
-- B16
set_option Elab.async false
set_option linter.all false
set_option maxRecDepth 100000
set_option maxHeartbeats 3900000
namespace FB
open PySem PySem.Spec PyProof.Rows L2 Evl
open LamX NdefX
section
variable {K : PySem.W.Frag} {mg : Str → Option Value} {P : Program} {base : Heap} {w : World}
variable {σ : L2.St} {H H' : Hp} {A : RecA} {m : RecM} {s : Vbptai.State} {B : BkA} {b : Vbptai.Books} {n k d : Nat}
abbrev s_books_on : Stmt := topS 48
abbrev N_books_on : List Str := ["record", "evening", "books", "events", "day"]
theorem sc_books_on : FnScope N_books_on ["record", "evening"] (defScope s_books_on) := ⟨rfl, rfl, rfl, by decide +kernel, rfl, by decide +kernel, by decide +kernel⟩
def sp_books_on (K : PySem.W.Frag) : Sp := fun vs H Q _ => ∃ (A : RecA) (m : RecM) (s : Vbptai.State) (ev : Nat), vs = [.ref A.R, .int ev] ∧ Ask K A H m s ∧ TabS H (tabP K) lamQ ∧
  ∀ B H2, ExtN H (hid B.S H2) → BkAt K B H2 (booksP s ev) → WfB (booksP s ev) → Kept (s.events.filter fun e => decide (e.day ≤ ev)) (booksP s ev) → Q (.ref B.R) H2
theorem natV_rep (n : Nat) : natV (0 :: List.replicate n 0) = List.replicate (n + 1) (V.int 0) := by
  unfold natV
  rw [List.map_cons, List.map_replicate, List.replicate_succ]
  rfl
/-- new books at the heap -/
theorem bk_new {R dx la lc lo dc lh : Addr} (hT : TabS H (tabP K) lamQ) (e : Ex H H') (nd : [la, lc, lo, dc, lh].Nodup) (nn : ∀ x ∈ [R, la, lc, lo, dc, lh], H x = none) (nR : ∀ x ∈ [la, lc, lo, dc, lh], x ≠ R) (h1 : H' la = some (.lst (List.replicate 21 (.int 0)))) (h2 : H' lc = some (.lst (List.replicate 41 (.int 0)))) (h3 : H' lo = some (.lst (List.replicate 41 (.int 0)))) (h4 : H' dc = some (.dK [])) (h5 : H' lh = some (.lst (List.replicate s.lands.length (.int 0))))
    (h6 : H' R = some (.ins (He.ga K "Books") dx (bkNames.zip ([.ref la, .ref lc, .ref lo, .ref dc, .ref lh, .int 0, .int 0] : List V)))) : BkAt K ⟨tabP K, R, dx, la, lc, lo, dc, []⟩ H' (Vbptai.empty s) := by
  obtain ⟨ps, t1, _⟩ := id hT
  have nP : ∀ x ∈ [R, la, lc, lo, dc, lh], x ≠ tabP K := fun x hx z => by
    have := nn x hx
    rw [z, t1] at this
    cases this
  simp only [List.nodup_cons, List.mem_cons, List.not_mem_nil, or_false, not_or, not_false_eq_true, List.nodup_nil, and_true] at nd
  obtain ⟨⟨d1, d2, d3, d4⟩, ⟨d5, d6, d7⟩, ⟨d8, d9⟩, d10⟩ := nd
  have p1 := nP R (by simp)
  have p2 := nP la (by simp)
  have p3 := nP lc (by simp)
  have p4 := nP lo (by simp)
  have p5 := nP dc (by simp)
  have p6 := nP lh (by simp)
  have r2 := nR la (by simp)
  have r3 := nR lc (by simp)
  have r4 := nR lo (by simp)
  have r5 := nR dc (by simp)
  have r6 := nR lh (by simp)
  refine ⟨?_, ?_, ⟨lh, h6, ?_⟩, ?_, ?_, ?_, h4, .nil, rfl⟩
  · show [tabP K, R, la, lc, lo, dc].Nodup
    simp only [List.nodup_cons, List.mem_cons, List.not_mem_nil, or_false, not_or, not_false_eq_true, List.nodup_nil, and_true]
    exact ⟨⟨Ne.symm p1, Ne.symm p2, Ne.symm p3, Ne.symm p4, Ne.symm p5⟩, ⟨Ne.symm r2, Ne.symm r3, Ne.symm r4, Ne.symm r5⟩, ⟨d1, d2, d3⟩, ⟨d5, d6⟩, d8⟩
  · refine TabS.ext (H := H) hT fun b o hb => ?_
    rw [hid_at]
    · exact e _ _ hb
    · intro z
      have : b ∈ [R, la, lc, lo, dc, lh] := by
        simp only [BkA.T, BkA.as, List.map_nil, List.append_nil, List.mem_cons, List.not_mem_nil, or_false] at z
        simp only [List.mem_cons, List.not_mem_nil, or_false]
        rcases z with z | z | z | z | z <;> simp [z]
      rw [nn b this] at hb
      cases hb
  · rw [hid_at]
    · show _ = some (HO.lst (natV (List.replicate s.lands.length 0)))
      unfold natV
      rw [List.map_replicate]
      exact h5
    · simp only [BkA.S, BkA.six, BkA.as, List.map_nil, List.append_nil, List.mem_cons, List.not_mem_nil, or_false, not_or]
      exact ⟨p6, r6, Ne.symm d4, Ne.symm d7, Ne.symm d9, Ne.symm d10⟩
  · show _ = some (HO.lst (V.int 0 :: (List.replicate 20 (0 : Int)).map V.int))
    rw [List.map_replicate]
    exact h1
  · show _ = some (HO.lst (natV (0 :: List.replicate 40 0)))
    rw [natV_rep]
    exact h2
  · show _ = some (HO.lst (natV (0 :: List.replicate 40 0)))
    rw [natV_rep]
    exact h3
theorem ok_books_on (T : Tx K mg) (Y : Tw P w K) (Z : Tz K mg base) : Own P w K mg base CX0 8 "books_on" ["record", "evening"] (sp_books_on K) := by
  refine own_mk T.d_books_on T.g_books_on (fun _ _ _ _ _ _ us hl => match us, hl with | [_, _], _ => rfl) fun fd F => ?_
  refine F.ok sc_books_on (fun vs H Q E h => by obtain ⟨_, _, _, _, rfl, _⟩ := h; rfl) (fun cdv A outer s H vs Q E hr h => ⟨_, PSs.nox
    (pss_cons (ps_set (i := 2) sc_books_on.nd rfl (Or.inl rfl) (pe_ownMk (mk_Books T) hr (by decide) pass0 (pa_cons (pe_callB call_len_seq (by rfl) T.b_len PySem.boot_len (pa_cons (pe_fld (pv 0) rfl) pa_nil)) pa_nil)))
    (pss_cons (ps_set (i := 3) sc_books_on.nd rfl (Or.inl rfl) (pe_own (ok_events_in_order T) hr (by decide) pass0 (pa_cons (pv 0) pa_nil)))
    (pss_cons (ps_for PassesOwn.never rfl (pi_list (pe_own (ok_days_of_change T) hr (by decide) pass0 (pa_cons (pv 3) pa_nil))) (pg_name (i := 4) sc_books_on.nd rfl (Or.inl rfl))
      (pss_one (ps_if (pt_cmpR op_le (pv 4) (pv 1) (nomark _))
        (pss_one (ps_expr (pe_own (ok_take_day T Y Z) hr (by decide) pass0 (pa_cons (pv 0) (pa_cons (pv 2) (pa_cons (pv 3) (pa_cons (pv 4) pa_nil)))))))
        pss_nil)))
    (pss_one (ps_ret (pv 2)))))), ?_⟩)
  obtain ⟨A, m, s, ev, rfl, hA, hT, k⟩ := h
  obtain ⟨lw, w1, w2⟩ := rd_weights (ta := tVar 0) (σ := [some (.ref A.R), some (.int (ev : Nat)), none, none, none]) T hA.at_ (ev_var rfl)
  have wl : ((m.weights.map V.int).length : Int) = (s.lands.length : Int) := by rw [List.length_map, hA.rel.lan, List.length_map]
  obtain ⟨l1, l2, _⟩ := hA.wide.lands
  refine q_asgQ (Pr := fun v H1 H2 => ∃ B : BkA, v = .ref B.R ∧ (∀ x ∈ B.T, H1 x = none) ∧ BkAt K B H2 (Vbptai.empty s)) (fun H1 e1 Q q => ?_) fun v H1 e1 hv => ?_
  · refine (ea_cons (ev_is (ev_lenL w1 (sq_of (hid_le _ _ w2))) (congrArg V.int wl)) ea_nil) H1 e1 _ fun H2 e2 R dx nR nd ne => ?_
    refine ⟨R, dx, s.lands.length, rfl, l2, upd_same, fun H3 la lc lo dc lh eb nodup nn h1 h2 h3 h4 h5 h6 => ⟨rfl, ?_⟩⟩
    have nn2 : ∀ x ∈ [la, lc, lo, dc, lh], H2 x = none ∧ x ≠ R := fun x hx => by
      have := nn x hx
      obtain ⟨a1, a2⟩ := upd_none this
      exact ⟨(upd_none a2).2, a1⟩
    have e3 : Ex H2 H3 := fun b o hb => by
      have n1 : b ≠ R := ne_of_none hb nR
      have n2 : b ≠ dx := ne_of_none hb nd
      exact eb b o n1 (by rw [upd_ne n1, upd_ne n2]; exact hb)
    have bn := bk_new (s := s) (K := K) (H := H2) (H' := H3) (dx := dx) ((hT.ext e1).ext e2) e3 nodup (fun x hx => by
      obtain rfl | hx := List.mem_cons.mp hx
      · exact nR
      · exact (nn2 x hx).1) (fun x hx => (nn2 x hx).2) h1 h2 h3 h4 h5 h6
    refine q _ H3 (e2.trans e3) ⟨_, rfl, fun x hx => ?_, bn⟩
    refine fresh_back e2 ?_
    simp only [BkA.T, BkA.as, List.map_nil, List.append_nil, List.mem_cons, List.not_mem_nil, or_false] at hx
    rcases hx with rfl | rfl | rfl | rfl | rfl
    · exact nR
    · exact (nn2 _ (by simp)).1
    · exact (nn2 _ (by simp)).1
    · exact (nn2 _ (by simp)).1
    · exact (nn2 _ (by simp)).1
  obtain ⟨B, rfl, nB, hB⟩ := hv
  have x1 : ExtN H (hid B.S H1) := fun b o hb nt => by
    rw [hid_at]
    · exact e1 _ _ hb
    · intro z
      rcases List.mem_cons.mp (show b ∈ B.P :: B.T from z) with isP | z
      · obtain ⟨ps, t1, _⟩ := hT
        rw [isP, hB.tp, t1] at hb
        exact nt ps (Option.some.inj hb).symm
      · rw [nB b z] at hb
        cases hb
  have hA1 := hA.stay e1
  refine q_asgQ (Pr := fun v H1 H2 => ∃ p xs, v = .ref p ∧ H1 p = none ∧ H2 p = some (.lst xs) ∧ Paired (fun e v => evR K (hid B.S H2) (evM e) v) s.events xs) (fun H2 e2 Q q => ?_) fun v H2 e2 hv => ?_
  · refine (ea_cons (ev_var rfl) ea_nil : EvA (tCons (tVar 0) tNil) _ H2 [.ref A.R]) H2 (Ex.refl _) _ fun H3 e3 => ?_
    rw [List.append_nil]
    have hA3 : Ask K A (hid B.S H3) m s := (hA.stayX x1).stay (hid_mono (e2.trans e3))
    exact ⟨A, m, s, B.S, rfl, hA3, fun p xs H4 np e4 h4 hx => q _ H4 (e3.trans e4) ⟨p, xs, rfl, fresh_back e3 np, h4, Paired.mono (fun e v h => evR.stay (hid_mono e4) h) hx⟩⟩
  obtain ⟨pe, xs, rfl, npe, hpe, hxs⟩ := hv
  have hB2 := hB.stay e2
  have peS : pe ∉ B.S := fun z => by
    obtain ⟨o, ho⟩ := hB.has z
    rw [ho] at npe
    cases npe
  have x2 : ExtN H (hid B.S H2) := x1.trans (ExtN.of (hid_mono e2))
  have hfew : s.events.length ≤ 60 := hA.well.few
  have dl : EvL (tCall (sp_days_of_change K) [] E0 (tCons (tVar 3) tNil)) [some (.ref A.R), some (.int (ev : Nat)), some (.ref B.R), some (.ref pe), none] H2 ((daysAll s).map fun (x : Nat) => V.int x) := el_call (ea_cons (ev_var rfl) ea_nil) fun H3 e3 Q q E => ⟨pe, xs, s.events, rfl, e3 _ _ hpe, Paired.mono (fun e v h => (evR.stay hid_le h).stay e3) hxs, hfew, fun out l H4 so mem nl e4 h4 => q l H4 nl e4 (by
    rw [days_out so mem, List.map_map] at h4
    exact h4)⟩
  refine q_forNLn (K := K) dl (fun p i σ' H' => ∃ (B' : BkA) (u : Option V), σ' = [some (.ref A.R), some (.int (ev : Nat)), some (.ref B.R), some (.ref pe), u] ∧ B'.R = B.R ∧ hid B'.S H' p = some (.lst ((daysAll s).map fun (x : Nat) => V.int x)) ∧ ExtN (hid B.S H2) (hid B'.S H') ∧ BkAt K B' H' (atDay s ev i) ∧ WfB (atDay s ev i) ∧ Kept (upTo s ev i) (atDay s ev i))
    (fun p H3 np e3 h3 => ⟨B, _, rfl, rfl, ?_, ExtN.of (hid_mono e3), hB2.stay e3, WfB.start hA.wide, ?_⟩) (fun p i σ' H' _ h => ?_) (fun p i x σ' H' hx h => ?_) (fun p σ' H' h => ?_)
  · rw [hid_at]
    · exact h3
    · intro z
      obtain ⟨o, ho⟩ := hB2.has z
      rw [ho] at np
      cases np
  · show [] = ndE (upTo s ev 0)
    have u0 : upTo s ev 0 = [] := List.filter_eq_nil_iff.mpr fun e _ z => by
      have h := of_decide_eq_true z
      rw [List.take_zero] at h
      exact nomatch h.1
    rw [u0]
    rfl
  · obtain ⟨B', u, _, _, h1, _⟩ := h
    exact sq_of (hid_le _ _ h1)
  · obtain ⟨B', u, rfl, hR, hp, x', hb, Wb, Kb⟩ := h
    obtain ⟨y, hy, rfl⟩ := map_at hx
    refine s_when (b := decide (y ≤ ev)) (et_is (et_test (ev_op (ev_var rfl) (ev_var rfl) rv_cmp)) (decide_eq_decide.mpr (by omega))) (fun hb2 H3 e3 => ?_) (fun hb2 H3 e3 => ?_)
    · have hle := of_decide_eq_true hb2
      rw [← hR]
      refine s_dropC (ea_cons (ev_var rfl) (ea_cons (ev_var rfl) (ea_cons (ev_var rfl) (ea_cons (ev_var rfl) ea_nil)))) fun H4 e4 => ⟨A, m, s, B', _, pe, xs, y, rfl, ((hA.stayX x2).stayX x').stay (hid_mono (e3.trans e4)), hb.stay (e3.trans e4), Wb, ?_, ?_, ?_, fun B2 H5 r5 x5 h5 W5 K5 => ⟨B2, _, rfl, r5, ?_, ?_, ?_, ?_, ?_⟩⟩
      · rw [← upTo_ere hy hle]
        exact Kb
      · refine hid_mono (e3.trans e4) _ _ (x' _ _ ?_ fun _ z => nomatch z)
        rw [hid_at peS]
        exact hpe
      · exact Paired.mono (fun e v h => evR.stay (hid_mono (e3.trans e4)) (evR.stayX x' h)) hxs
      · exact x5 _ _ (hid_mono (e3.trans e4) _ _ hp) fun _ z => nomatch z
      · exact (x'.trans (ExtN.of (hid_mono (e3.trans e4)))).trans x5
      · rw [atDay_next hy hle]
        exact h5
      · rw [atDay_next hy hle]
        exact W5
      · rw [atDay_next hy hle, upTo_next hA.wide hy hle]
        exact K5
    · have hle := of_decide_eq_false hb2
      refine ⟨B', _, rfl, hR, hid_mono e3 _ _ hp, x'.trans (ExtN.of (hid_mono e3)), ?_, ?_, ?_⟩
      · rw [atDay_skip hy hle]
        exact hb.stay e3
      · rw [atDay_skip hy hle]
        exact Wb
      · rw [atDay_skip hy hle, upTo_skip hy hle]
        exact Kb
  · obtain ⟨B', u, rfl, hR, hp, x', hb, Wb, Kb⟩ := h
    have eA : atDay s ev ((daysAll s).map fun (x : Nat) => V.int x).length = booksP s ev := by
      unfold atDay booksP
      (rw [List.length_map, List.take_length])
    have eU : upTo s ev ((daysAll s).map fun (x : Nat) => V.int x).length = s.events.filter fun e => decide (e.day ≤ ev) := by
      unfold upTo
      refine List.filter_congr fun e he => decide_eq_decide.mpr ?_
      (rw [List.length_map, List.take_length])
      exact ⟨fun h => h.2, fun h => ⟨event_day he, h⟩⟩
    rw [eA] at hb Wb Kb
    rw [eU] at Kb
    rw [← hR]
    exact s_ret (ev_var rfl) fun H3 e3 => k B' H3 ((x2.trans x').trans (ExtN.of (hid_mono e3))) (hb.stay e3) Wb Kb
end
end FB
-- B17
set_option Elab.async false
set_option linter.all false
set_option maxRecDepth 100000
set_option maxHeartbeats 3900000
namespace FB
open PySem PySem.Spec PyProof.Rows L2 Evl
/-! ### our books are the document's -/
section
variable {s : Vbptai.State} {b : Vbptai.Books} {d n k : Nat}
/-! charges in their order -/
def ltP (y x : Nat × Nat) : Prop := y.1 < x.1 ∨ (y.1 = x.1 ∧ y.2 < x.2)
theorem tw_all {α : Type} {p : α → Bool} : ∀ {l : List α}, (∀ y ∈ l, p y = true) → l.takeWhile p = l ∧ l.dropWhile p = []
  | [], _ => ⟨rfl, rfl⟩
  | x :: l, h => by
    have hx := h x (List.mem_cons_self ..)
    obtain ⟨i1, i2⟩ := tw_all (p := p) (l := l) fun y hy => h y (List.mem_cons_of_mem _ hy)
    exact ⟨by rw [List.takeWhile_cons_of_pos hx, i1], by rw [List.dropWhile_cons_of_pos hx, i2]⟩
theorem ins_all {r : List (Nat × Nat)} {x : Nat × Nat} (h : ∀ y ∈ r, ltP y x) : (r.takeWhile fun y => decide (y.1 < x.1 ∨ (y.1 = x.1 ∧ y.2 < x.2))) ++ x :: (r.dropWhile fun y => decide (y.1 < x.1 ∨ (y.1 = x.1 ∧ y.2 < x.2))) = r ++ [x] := by
  have p : ∀ y ∈ r, decide (y.1 < x.1 ∨ (y.1 = x.1 ∧ y.2 < x.2)) = true := fun y hy => decide_eq_true (h y hy)
  rw [(tw_all p).1, (tw_all p).2]
theorem ins_fold : ∀ (xs r : List (Nat × Nat)), (r ++ xs).Pairwise ltP → xs.foldl (fun (r : List (Nat × Nat)) x => (r.takeWhile fun y => decide (y.1 < x.1 ∨ (y.1 = x.1 ∧ y.2 < x.2))) ++ x :: r.dropWhile fun y => decide (y.1 < x.1 ∨ (y.1 = x.1 ∧ y.2 < x.2))) r = r ++ xs
  | [], r, _ => (List.append_nil r).symm
  | x :: xs, r, h => by
    rw [List.foldl_cons, ins_all fun y hy => (List.pairwise_append.mp h).2.2 y hy x (List.mem_cons_self ..)]
    have e : r ++ x :: xs = (r ++ [x]) ++ xs := by rw [List.append_assoc]; rfl
    rw [e] at h ⊢
    exact ins_fold xs (r ++ [x]) h
def SortedC (b : Vbptai.Books) : Prop := (b.charges.map fun c => (c.day, c.num)).Pairwise ltP
theorem inOrder_eq (h : SortedC b) : Vbptai.inOrder b.charges = b.charges.map fun c => c.num := by
  unfold Vbptai.inOrder
  have := ins_fold (b.charges.map fun c : Vbptai.Charge => (c.day, c.num)) [] (by rw [List.nil_append]; exact h)
  rw [this, List.nil_append, List.map_map]
  rfl
/-! settling the open ones is settling all -/
def openIn (b : Vbptai.Books) (k : Nat) : Prop := ∃ c ∈ b.charges, c.num = k ∧ c.state = 0
theorem settle_not {c : Vbptai.Charge} (nd : (b.charges.map (·.num)).Nodup) (hc : c ∈ b.charges) (hs : c.state ≠ 0) : Vbptai.settleOne b c.num = b := by
  unfold Vbptai.settleOne
  rw [find_num nd hc]
  dsimp only
  rw [if_pos hs]
theorem openIn_other {j : Nat} (W : WfB b) (h : k ≠ j) : openIn (Vbptai.settleOne b j) k ↔ openIn b k := by
  unfold openIn
  rcases settle_only b j W with e | ⟨x, hx, _, e⟩
  · rw [e]
  · rw [e]
    constructor
    · rintro ⟨c, hc, h1, h2⟩
      rcases mem_setCh hc with rfl | hc
      · exact absurd (h1.symm.trans hx) h
      · exact ⟨c, hc, h1, h2⟩
    · rintro ⟨c, hc, h1, h2⟩
      refine ⟨c, List.mem_map.mpr ⟨c, hc, if_neg fun z => h (h1.symm.trans z)⟩, h1, h2⟩
theorem settle_skip (p : Nat → Bool) : ∀ (ks : List Nat) (b : Vbptai.Books), WfB b → ks.Nodup → (∀ k ∈ ks, k ∈ b.charges.map (·.num)) → (∀ k ∈ ks, p k = true ↔ openIn b k) → ks.foldl Vbptai.settleOne b = (ks.filter p).foldl Vbptai.settleOne b
  | [], _, _, _, _, _ => rfl
  | k :: ks, b, W, nd, hin, hp => by
    rcases List.nodup_cons.mp nd with ⟨n1, n2⟩
    have hk := hp k (List.mem_cons_self ..)
    cases q : p k with
    | true =>
      rw [List.filter_cons_of_pos q, List.foldl_cons, List.foldl_cons]
      have nums : (Vbptai.settleOne b k).charges.map (fun c => c.num) = b.charges.map fun c => c.num := by
        rcases settle_only b k W with e | ⟨x, hx, _, e⟩
        · rw [e]
        · rw [e, setCh_nums hx]
      refine settle_skip p ks _ (W.settleOne k) n2 (fun j hj => by rw [nums]; exact hin j (List.mem_cons_of_mem _ hj)) fun j hj => ?_
      rw [openIn_other W (fun z => n1 (by rw [← z]; exact hj))]
      exact hp j (List.mem_cons_of_mem _ hj)
    | false =>
      rw [List.filter_cons_of_neg (by rw [q]; decide), List.foldl_cons]
      obtain ⟨c, hc, hck⟩ := List.mem_map.mp (hin k (List.mem_cons_self ..))
      have hs : c.state ≠ 0 := fun z => by
        have := hk.mpr ⟨c, hc, hck, z⟩
        rw [q] at this
        cases this
      rw [← hck, settle_not W.nums hc hs]
      exact settle_skip p ks b W n2 (fun j hj => hin j (List.mem_cons_of_mem _ hj)) fun j hj => hp j (List.mem_cons_of_mem _ hj)
open Classical in
theorem settle_is (W : WfB b) (h : SortedC b) : Vbptai.settle b = settleP b := by
  unfold Vbptai.settle settleP
  rw [inOrder_eq h, settle_skip (fun k => decide (openIn b k)) _ b W W.nums (fun _ h => h) fun k _ => decide_eq_true_iff]
  congr 1
  unfold openNums
  rw [List.filter_map]
  congr 1
  refine List.filter_congr fun c hc => ?_
  show decide (openIn b c.num) = isOpen c
  unfold isOpen
  refine decide_eq_decide.mpr ⟨fun ⟨x, hx, h1, h2⟩ => ?_, fun h => ⟨c, hc, rfl, h⟩⟩
  rw [← nodup_inj W.nums x hx c hc h1]
  exact h2
/-! time -/
def tc (d : Nat) (c : Vbptai.Charge) : Vbptai.Charge := if c.state = 0 then (if d = c.day + 181 then { timeC d c with paid := 0, state := 2 } else timeC d c) else c
def crF (d : Nat) (cr : List Nat) (c : Vbptai.Charge) : List Nat := if c.state = 0 ∧ d = c.day + 181 then cr.set (c.owner - 1) (Vbptai.nth cr c.owner + c.paid) else cr
theorem setCh_mid {pre post : List Vbptai.Charge} {c x : Vbptai.Charge} (nd : ((pre ++ c :: post).map (·.num)).Nodup) : setCh (pre ++ c :: post) c.num x = pre ++ x :: post := by
  rw [List.map_append, List.map_cons] at nd
  obtain ⟨_, n2, n3⟩ := List.nodup_append.mp nd
  obtain ⟨n4, _⟩ := List.nodup_cons.mp n2
  show (pre ++ c :: post).map _ = _
  rw [List.map_append, List.map_cons, if_pos rfl]
  congr 1
  · exact setCh_no fun z => n3 c.num z c.num (List.mem_cons_self ..) rfl
  · congr 1
    exact setCh_no n4
theorem tc_num (c : Vbptai.Charge) : (tc d c).num = c.num := by
  unfold tc
  split
  · split
    · exact timeC_num
    · exact timeC_num
  · rfl
theorem passP_form : ∀ (post pre : List Vbptai.Charge) (b0 : Vbptai.Books), b0.charges = pre ++ post → ((pre ++ post).map (·.num)).Nodup → ((post.filter isOpen).map (·.num)).foldl (timeOne d) b0 = { b0 with charges := pre ++ post.map (tc d), credits := post.foldl (crF d) b0.credits }
  | [], pre, b0, h, _ => by
    rw [List.append_nil] at h
    show b0 = _
    rw [List.map_nil, List.append_nil, ← h]
    rfl
  | c :: post, pre, b0, h, nd => by
    have e1 : ∀ (x : Vbptai.Charge) (q : List Vbptai.Charge), pre ++ x :: q = (pre ++ [x]) ++ q := fun x q => by rw [List.append_assoc]; rfl
    by_cases hs : c.state = 0
    · rw [List.filter_cons_of_pos (show isOpen c = true from decide_eq_true hs), List.map_cons, List.foldl_cons]
      have hc : c ∈ b0.charges := by
        rw [h]
        exact List.mem_append_right _ (List.mem_cons_self ..)
      rw [timeOne_eq (by rw [h]; exact nd) hc, h, setCh_mid nd]
      have nd2 : ∀ x : Vbptai.Charge, x.num = c.num → ((pre ++ x :: post).map (·.num)).Nodup := fun x hx => by
        rw [List.map_append, List.map_cons, hx, ← List.map_cons (f := fun c : Vbptai.Charge => c.num), ← List.map_append]
        exact nd
      by_cases hl : d = c.day + 181
      · rw [if_pos hl]
        have tcc : tc d c = { timeC d c with paid := 0, state := 2 } := by
          unfold tc
          rw [if_pos hs, if_pos hl]
        have pd : (timeC d c).paid = c.paid := by
          unfold timeC
          split <;> rfl
        have key : lapsed { b0 with charges := pre ++ timeC d c :: post } (timeC d c) = { b0 with charges := pre ++ tc d c :: post, credits := crF d b0.credits c } := by
          have e3 : crF d b0.credits c = b0.credits.set ((timeC d c).owner - 1) (Vbptai.nth b0.credits (timeC d c).owner + (timeC d c).paid) := by
            rw [timeC_owner, pd]
            exact if_pos ⟨hs, hl⟩
          unfold lapsed
          dsimp only
          rw [setCh_mid (nd2 _ timeC_num), e3, tcc]
        rw [key, passP_form post (pre ++ [tc d c]) _ (e1 _ _) (by rw [← e1]; exact nd2 _ (tc_num c))]
        dsimp only
        rw [← e1, List.map_cons, List.foldl_cons]
      · rw [if_neg hl]
        have tcc : tc d c = timeC d c := by
          unfold tc
          rw [if_pos hs, if_neg hl]
        rw [← tcc]
        rw [passP_form post (pre ++ [tc d c]) _ (e1 _ _) (by rw [← e1]; exact nd2 _ (tc_num c))]
        dsimp only
        rw [← e1, List.map_cons, List.foldl_cons]
        have : crF d b0.credits c = b0.credits := if_neg fun z => hl z.2
        rw [this]
    · rw [List.filter_cons_of_neg (by unfold isOpen; rw [decide_eq_false hs]; decide)]
      have tcc : tc d c = c := if_neg hs
      have : crF d b0.credits c = b0.credits := if_neg fun z => hs z.1
      rw [List.map_cons, List.foldl_cons, tcc, this, e1]
      exact passP_form post (pre ++ [c]) b0 (by rw [h, e1]) (by rw [← e1]; exact nd)
def fc (c : Vbptai.Charge) : Vbptai.Charge := if c.state = 2 ∧ 0 < c.paid then { c with paid := 0 } else c
def crG (cr : List Nat) (c : Vbptai.Charge) : List Nat := if c.state = 2 ∧ 0 < c.paid then cr.set (c.owner - 1) (Vbptai.nth cr c.owner + c.paid) else cr
theorem map_zero {l : List Vbptai.Charge} {c : Vbptai.Charge} (nd : (l.map (·.num)).Nodup) (hc : c ∈ l) : (l.map fun x => if x.num = c.num then { x with paid := 0 } else x) = setCh l c.num { c with paid := 0 } := by
  unfold setCh
  refine List.map_congr_left fun x hx => ?_
  by_cases z : x.num = c.num
  · rw [if_pos z, if_pos z, nodup_inj nd x hx c hc z]
  · rw [if_neg z, if_neg z]
theorem freed_form : ∀ (post pre : List Vbptai.Charge) (b0 : Vbptai.Books), b0.charges = pre ++ post → ((pre ++ post).map (·.num)).Nodup → post.foldl (fun (b : Vbptai.Books) c => if c.state = 2 ∧ 0 < c.paid then { b with credits := b.credits.set (c.owner - 1) (Vbptai.nth b.credits c.owner + c.paid), charges := b.charges.map fun x => if x.num = c.num then { x with paid := 0 } else x } else b) b0 = { b0 with charges := pre ++ post.map fc, credits := post.foldl crG b0.credits }
  | [], pre, b0, h, _ => by
    rw [List.append_nil] at h
    show b0 = _
    rw [List.map_nil, List.append_nil, ← h]
    rfl
  | c :: post, pre, b0, h, nd => by
    have e1 : ∀ (x : Vbptai.Charge) (q : List Vbptai.Charge), pre ++ x :: q = (pre ++ [x]) ++ q := fun x q => by rw [List.append_assoc]; rfl
    rw [List.foldl_cons]
    by_cases hs : c.state = 2 ∧ 0 < c.paid
    · rw [if_pos hs]
      have hc : c ∈ b0.charges := by
        rw [h]
        exact List.mem_append_right _ (List.mem_cons_self ..)
      rw [map_zero (by rw [h]; exact nd) hc, h, setCh_mid nd]
      have fcc : fc c = { c with paid := 0 } := if_pos hs
      have nd2 : ((pre ++ fc c :: post).map (·.num)).Nodup := by
        rw [List.map_append, List.map_cons, show (fc c).num = c.num by rw [fcc], ← List.map_cons (f := fun c : Vbptai.Charge => c.num), ← List.map_append]
        exact nd
      rw [← fcc, freed_form post (pre ++ [fc c]) _ (e1 _ _) (by rw [← e1]; exact nd2)]
      dsimp only
      rw [← e1, List.map_cons, List.foldl_cons]
      have : crG b0.credits c = b0.credits.set (c.owner - 1) (Vbptai.nth b0.credits c.owner + c.paid) := if_pos hs
      rw [this]
    · rw [if_neg hs]
      have fcc : fc c = c := if_neg hs
      have : crG b0.credits c = b0.credits := if_neg hs
      rw [List.map_cons, List.foldl_cons, fcc, this, e1]
      exact freed_form post (pre ++ [c]) b0 (by rw [h, e1]) (by rw [← e1]; exact nd)
/-- what time has done by the day y -/
def surOf (c : Vbptai.Charge) : Nat := (c.base * c.late + 99) / 100
structure InvT (y : Nat) (c : Vbptai.Charge) : Prop where
  day : c.state = 0 → c.day ≤ y ∧ y < c.day + 181
  ext : c.state = 0 → c.day + 31 ≤ y → c.extra = surOf c
  not : c.state = 0 → y < c.day + 31 → c.extra = 0
  two : c.state = 2 → c.paid = 0
/-- the day d comes next behind y -/
def NextT (y d : Nat) (c : Vbptai.Charge) : Prop := c.state = 0 → (c.day + 31 ≤ y ∨ d ≤ c.day + 31) ∧ d ≤ c.day + 181
theorem tc_eq {y : Nat} {c : Vbptai.Charge} (hy : y < d) (I : InvT y c) (N : NextT y d c) : fc (Vbptai.passed d c) = tc d c ∧ ∀ cr, crG cr (Vbptai.passed d c) = crF d cr c := by
  by_cases hs : c.state = 0
  · obtain ⟨d1, d2⟩ := I.day hs
    obtain ⟨n1, n2⟩ := N hs
    have hp1 : (if c.state = 0 ∧ c.day + Vbptai.GRACE < d ∧ c.extra = 0 then ({ c with extra := (c.base * c.late + 99) / 100 } : Vbptai.Charge) else c) = timeC d c := by
      unfold Vbptai.GRACE timeC
      by_cases h31 : d = c.day + 31
      · rw [if_pos h31, if_pos ⟨hs, by omega, I.not hs (by omega)⟩]
      · rw [if_neg h31]
        by_cases c2 : c.state = 0 ∧ c.day + 30 < d ∧ c.extra = 0
        · have ex := I.ext hs (by omega)
          unfold surOf at ex
          rw [if_pos c2, ← ex]
        · rw [if_neg c2]
    have hst : (timeC d c).state = c.state ∧ (timeC d c).day = c.day ∧ (timeC d c).paid = c.paid ∧ (timeC d c).owner = c.owner := by
      unfold timeC
      split <;> exact ⟨rfl, rfl, rfl, rfl⟩
    obtain ⟨t1, t2, t3, t4⟩ := hst
    have hp2 : Vbptai.passed d c = if d = c.day + 181 then { timeC d c with state := 2 } else timeC d c := by
      unfold Vbptai.passed
      rw [hp1]
      unfold Vbptai.LAPSE
      by_cases h181 : d = c.day + 181
      · rw [if_pos h181, if_pos ⟨t1.trans hs, by rw [t2]; omega⟩]
      · rw [if_neg h181, if_neg (fun z => by rw [t2] at z; omega)]
    rw [hp2]
    unfold tc crF
    rw [if_pos hs]
    by_cases h181 : d = c.day + 181
    · rw [if_pos h181, if_pos h181]
      unfold fc crG
      by_cases hpd : 0 < c.paid
      · rw [if_pos ⟨rfl, by rw [t3]; exact hpd⟩]
        refine ⟨rfl, fun cr => ?_⟩
        rw [if_pos ⟨rfl, by rw [t3]; exact hpd⟩, if_pos ⟨hs, h181⟩]
        show cr.set ((timeC d c).owner - 1) (Vbptai.nth cr (timeC d c).owner + (timeC d c).paid) = _
        rw [t3, t4]
      · rw [if_neg (fun z => hpd (by have := z.2; rw [t3] at this; exact this))]
        have p0 : (timeC d c).paid = 0 := by rw [t3]; omega
        refine ⟨?_, fun cr => ?_⟩
        · rw [← p0]
        · rw [if_neg (fun z => hpd (by have := z.2; rw [t3] at this; exact this)), if_pos ⟨hs, h181⟩]
          have c0 : c.paid = 0 := by omega
          rw [c0, Nat.add_zero]
          exact (set_same _ _).symm
    · rw [if_neg h181, if_neg h181]
      unfold fc crG
      rw [if_neg (fun z => by rw [t1, hs] at z; exact absurd z.1 (by decide))]
      refine ⟨rfl, fun cr => ?_⟩
      rw [if_neg (fun z => by rw [t1, hs] at z; exact absurd z.1 (by decide)), if_neg (fun z => h181 z.2)]
  · have hp : Vbptai.passed d c = c := by
      unfold Vbptai.passed
      have e0 : (if c.state = 0 ∧ c.day + Vbptai.GRACE < d ∧ c.extra = 0 then ({ c with extra := (c.base * c.late + 99) / 100 } : Vbptai.Charge) else c) = c := if_neg fun z => hs z.1
      dsimp only
      rw [e0, if_neg (fun z => hs z.1)]
    rw [hp]
    unfold tc crF fc crG
    rw [if_neg hs]
    have no : ¬ (c.state = 2 ∧ 0 < c.paid) := fun z => by
      have := I.two z.1
      omega
    rw [if_neg no]
    exact ⟨rfl, fun cr => by rw [if_neg no, if_neg (fun z => hs z.1)]⟩
theorem passed_num (c : Vbptai.Charge) : (Vbptai.passed d c).num = c.num := by
  unfold Vbptai.passed
  dsimp only
  split <;> split <;> rfl
theorem pass_is (W : WfB b) (I : ∀ c ∈ b.charges, ∃ y, y < d ∧ InvT y c ∧ NextT y d c) : Vbptai.pass b d = passP d b := by
  have tq := fun (c : Vbptai.Charge) (hc : c ∈ b.charges) => (by obtain ⟨y, h1, h2, h3⟩ := I c hc; exact tc_eq h1 h2 h3 : fc (Vbptai.passed d c) = tc d c ∧ ∀ cr, crG cr (Vbptai.passed d c) = crF d cr c)
  unfold Vbptai.pass Vbptai.freed passP openNums
  rw [passP_form b.charges [] b rfl W.nums]
  dsimp only
  rw [freed_form (b.charges.map (Vbptai.passed d)) [] { b with charges := b.charges.map (Vbptai.passed d) } rfl (by
    rw [List.nil_append, List.map_map]
    have : (b.charges.map ((fun c : Vbptai.Charge => c.num) ∘ Vbptai.passed d)) = b.charges.map fun c => c.num := List.map_congr_left fun c _ => passed_num c
    rw [this]
    exact W.nums)]
  dsimp only
  rw [List.map_map, List.foldl_map, List.nil_append, List.nil_append]
  have e1 : b.charges.map (fc ∘ Vbptai.passed d) = b.charges.map (tc d) := List.map_congr_left fun c hc => (tq c hc).1
  have e2 : ∀ (l : List Vbptai.Charge) (cr : List Nat), (∀ c ∈ l, c ∈ b.charges) → l.foldl (fun cr c => crG cr (Vbptai.passed d c)) cr = l.foldl (crF d) cr := by
    intro l
    induction l with
    | nil => exact fun _ _ => rfl
    | cons c l ih =>
      intro cr hl
      have hc := hl c (List.mem_cons_self ..)
      rw [List.foldl_cons, List.foldl_cons, (tq c hc).2 cr]
      exact ih _ fun x hx => hl x (List.mem_cons_of_mem _ hx)
  rw [e1, e2 _ _ fun _ h => h]
end
end FB
-- B18
set_option Elab.async false
set_option linter.all false
set_option maxRecDepth 100000
set_option maxHeartbeats 3900000
namespace FB
open PySem PySem.Spec PyProof.Rows L2 Evl
section
variable {s : Vbptai.State} {b : Vbptai.Books} {e : Vbptai.Event} {d n k : Nat} {c : Vbptai.Charge}
theorem before_of_day {x y : Vbptai.Event} (h : x.day < y.day) : Vbptai.before x y = true := by
  unfold Vbptai.before
  rw [decide_eq_true h]
  rfl
theorem charge_rank {x : Vbptai.Event} (h : Vbptai.isCharge x = true) : Vbptai.rankOf x.deed = 2 := by
  unfold Vbptai.isCharge at h
  cases w : x.deed <;> rw [w] at h <;> first | rfl | cases h
theorem sorted_of {l : List Vbptai.Event} (hl : l.Pairwise fun x y => Vbptai.before x y = true) (hK : Kept l b) : SortedC b := by
  unfold SortedC
  have e1 : (b.charges.map fun c => (c.day, c.num)) = (ndC b).map fun q => (q.2, q.1) := by
    unfold ndC
    rw [List.map_map]
    rfl
  rw [e1, hK]
  unfold ndE
  rw [List.map_map]
  refine List.pairwise_map.mpr ?_
  refine List.Pairwise.imp_of_mem ?_ (List.Pairwise.sublist (List.filter_sublist (p := Vbptai.isCharge)) hl)
  intro x y hx hy h
  have r1 := charge_rank (List.mem_filter.mp hx).2
  have r2 := charge_rank (List.mem_filter.mp hy).2
  unfold Vbptai.before at h
  rw [r1, r2] at h
  (simp only [Bool.or_eq_true, decide_eq_true_eq, Bool.and_eq_true, beq_iff_eq] at h)
  show x.day < y.day ∨ (x.day = y.day ∧ x.num < y.num)
  omega
theorem dayL_sorted (W : Wide s) (i : Nat) : (dayL s d i).Pairwise fun x y => Vbptai.before x y = true := by
  unfold dayL
  refine List.pairwise_append.mpr ⟨List.Pairwise.sublist List.filter_sublist W.evs, List.Pairwise.sublist (List.filter_sublist.trans (List.take_sublist ..)) W.evs, fun x hx y hy => before_of_day ?_⟩
  have h1 : x.day < d := of_decide_eq_true (List.mem_filter.mp hx).2
  have h2 : (y.day == d) = true := (List.mem_filter.mp hy).2
  rw [eq_of_beq h2]
  exact h1
/-! time's invariant -/
theorem tc_inv {y : Nat} (hy : y < d) (I : InvT y c) (N : NextT y d c) : InvT d (tc d c) := by
  unfold tc
  by_cases hs : c.state = 0
  · rw [if_pos hs]
    obtain ⟨d1, d2⟩ := I.day hs
    obtain ⟨n1, n2⟩ := N hs
    by_cases h181 : d = c.day + 181
    · rw [if_pos h181]
      exact ⟨fun z => (by have w : (2 : Nat) = 0 := z; omega), fun z => (by have w : (2 : Nat) = 0 := z; omega), fun z => (by have w : (2 : Nat) = 0 := z; omega), fun _ => rfl⟩
    · rw [if_neg h181]
      unfold timeC
      by_cases h31 : d = c.day + 31
      · rw [if_pos h31]
        refine ⟨fun _ => ⟨?_, ?_⟩, fun _ _ => rfl, fun _ z => ?_, fun z => ?_⟩
        · show c.day ≤ d
          omega
        · show d < c.day + 181
          omega
        · have z2 : d < c.day + 31 := z
          omega
        · have z2 : c.state = 2 := z
          omega
      · rw [if_neg h31]
        refine ⟨fun _ => ⟨by omega, by omega⟩, fun _ z => I.ext hs (by omega), fun _ z => I.not hs (by omega), I.two⟩
  · rw [if_neg hs]
    exact ⟨fun z => absurd z hs, fun z => absurd z hs, fun z => absurd z hs, I.two⟩
theorem passP_charges (W : WfB b) : (passP d b).charges = b.charges.map (tc d) := by
  unfold passP openNums
  rw [passP_form b.charges [] b rfl W.nums]
  rfl
/-- how settling changes a charge -/
def SetQ (x c : Vbptai.Charge) : Prop := x = c ∨ (c.state = 0 ∧ x.state ≤ 1 ∧ x.day = c.day ∧ x.extra = c.extra ∧ x.base = c.base ∧ x.late = c.late)
theorem settle_form (W : WfB b) {x : Vbptai.Charge} (hx : x ∈ (Vbptai.settleOne b k).charges) : ∃ c ∈ b.charges, SetQ x c := by
  cases q : b.charges.find? (fun c => c.num == k) with
  | none =>
    unfold Vbptai.settleOne at hx
    rw [q] at hx
    exact ⟨x, hx, .inl rfl⟩
  | some c =>
    have hc := List.mem_of_find?_eq_some q
    have hk : c.num = k := by have z := List.find?_some q; simpa using z
    by_cases hs : c.state = 0
    · rw [← hk, settleOne_eq W.nums hc hs] at hx
      have fin : ∀ z : Vbptai.Charge, x ∈ setCh b.charges c.num z → z.state ≤ 1 → z.day = c.day → z.extra = c.extra → z.base = c.base → z.late = c.late → ∃ c ∈ b.charges, SetQ x c := fun z h z1 z2 z3 z4 z5 => by
        rcases mem_setCh h with rfl | h
        · exact ⟨c, hc, .inr ⟨hs, z1, z2, z3, z4, z5⟩⟩
        · exact ⟨x, h, .inl rfl⟩
      unfold step3 step2 chg2 at hx
      by_cases h1 : goOf (FB.pay1 b c (useOf b c)) { c with paid := c.paid + useOf b c } = true
      · rw [if_pos h1, if_pos h1] at hx
        split at hx
        · unfold mark pay2 pay1 at hx
          dsimp only at hx
          rw [setCh_twice (k := c.num) (by rfl), setCh_twice (k := c.num) (by rfl)] at hx
          exact fin _ hx (Nat.le_refl _) rfl rfl rfl rfl
        · unfold pay2 pay1 at hx
          dsimp only at hx
          rw [setCh_twice (k := c.num) (by rfl)] at hx
          exact fin _ hx (by show c.state ≤ 1; omega) rfl rfl rfl rfl
      · rw [if_neg h1, if_neg h1] at hx
        split at hx
        · unfold mark pay1 at hx
          dsimp only at hx
          rw [setCh_twice (k := c.num) (by rfl)] at hx
          exact fin _ hx (Nat.le_refl _) rfl rfl rfl rfl
        · exact fin { c with paid := c.paid + useOf b c } hx (by show c.state ≤ 1; omega) rfl rfl rfl rfl
    · rw [← hk, settle_not W.nums hc hs] at hx
      exact ⟨x, hx, .inl rfl⟩
theorem SetQ.inv {x : Vbptai.Charge} {y : Nat} (h : SetQ x c) (I : InvT y c) : InvT y x := by
  rcases h with rfl | ⟨h0, h1, h2, h3, h4, h5⟩
  · exact I
  · refine ⟨fun _ => by rw [h2]; exact I.day h0, fun _ z => ?_, fun _ z => ?_, fun z => by omega⟩
    · rw [h3, I.ext h0 (by omega)]
      unfold surOf
      rw [h4, h5]
    · rw [h3]
      exact I.not h0 (by omega)
theorem inv_settle {y : Nat} : ∀ (ks : List Nat) (b : Vbptai.Books), WfB b → (∀ c ∈ b.charges, InvT y c) → ∀ c ∈ (ks.foldl Vbptai.settleOne b).charges, InvT y c
  | [], _, _, h => h
  | k :: ks, b, W, h => inv_settle ks _ (W.settleOne k) fun x hx => by
    obtain ⟨c, hc, hq⟩ := settle_form W hx
    exact hq.inv (h c hc)
theorem inv_done (W : WfB b) (hk : Known b e) (hd : e.day = d) (h : ∀ c ∈ b.charges, InvT d c) : ∀ c ∈ (Vbptai.done s b e).charges, InvT d c := by
  obtain ⟨num, day, deed⟩ := e
  cases deed with
  | deposit a n => exact h
  | bounce q =>
    show ∀ c ∈ (match Vbptai.depositOf s q with | some p => _ | none => b : Vbptai.Books).charges, InvT d c
    cases Vbptai.depositOf s q <;> exact h
  | charge o u f =>
    have nw : ∀ bs lt sh, ∀ c ∈ b.charges ++ [newCh ⟨num, day, .charge o u f⟩ o bs lt sh], InvT d c := fun bs lt sh c hc => by
      obtain hc | hc := List.mem_append.mp hc
      · exact h c hc
      · rw [List.mem_singleton.mp hc]
        have hd2 : day = d := hd
        refine ⟨fun _ => ⟨?_, ?_⟩, fun _ z => ?_, fun _ _ => rfl, fun _ => rfl⟩
        · show day ≤ d
          omega
        · show d < day + 181
          omega
        · have z2 : day + 31 ≤ d := z
          omega
    show ∀ c ∈ (match Vbptai.feeOn s day f with | none => _ | some x => _ : Vbptai.Books).charges, InvT d c
    cases Vbptai.feeOn s day f with
    | none => exact nw 0 0 false
    | some x => exact nw _ _ _
  | pay o n => exact h
  | order a o => exact h
  | refund q =>
    obtain ⟨c, hc, rfl⟩ : ∃ c ∈ b.charges, c.num = q := List.mem_map.mp hk
    show ∀ x ∈ (match b.charges.find? fun x => x.num == c.num with | none => b | some c => _ : Vbptai.Books).charges, InvT d x
    rw [find_num W.nums hc]
    dsimp only
    rw [map_given W.nums hc]
    split
    · intro x hx
      rcases mem_setCh hx with rfl | hx
      · exact ⟨fun z => (by have w : (3 : Nat) = 0 := z; omega), fun z => (by have w : (3 : Nat) = 0 := z; omega), fun z => (by have w : (3 : Nat) = 0 := z; omega), fun z => (by have w : (3 : Nat) = 2 := z; omega)⟩
      · exact h x hx
    · exact h
  | closing =>
    show ∀ c ∈ (if 0 < _ then { b with handed := _ } else b : Vbptai.Books).charges, InvT d c
    split <;> exact h
/-! a day -/
theorem day_fold (Wd : Wide s) (We : Well s) {b0 : Vbptai.Books} (W : WfB b0) (hK : Kept (dayL s d 0) b0) (I : ∀ c ∈ b0.charges, InvT d c) : ∀ i, i ≤ s.events.length →
    WfB (((s.events.take i).filter (onDay d)).foldl (tookP s) b0) ∧ Kept (dayL s d i) (((s.events.take i).filter (onDay d)).foldl (tookP s) b0) ∧ (∀ c ∈ (((s.events.take i).filter (onDay d)).foldl (tookP s) b0).charges, InvT d c) ∧
    ((s.events.take i).filter (onDay d)).foldl (tookP s) b0 = ((s.events.take i).filter (onDay d)).foldl (fun b e => Vbptai.settle (Vbptai.done s b e)) b0
  | 0, _ => ⟨W, hK, I, rfl⟩
  | i + 1, hi => by
    obtain ⟨h1, h2, h3, h4⟩ := day_fold Wd We W hK I i (by omega)
    have he : s.events[i]? = some s.events[i] := List.getElem?_eq_getElem (by omega)
    generalize s.events[i] = e at he
    have em := List.mem_of_getElem? he
    by_cases hd : e.day = d
    · have on : onDay d e = true := by
        unfold onDay
        rw [hd]
        exact beq_self_eq_true d
      have kn := known_at h1 Wd We he hd h2
      have Wn := h1.done Wd We em kn
      have kd : Kept (dayL s d (i + 1)) (Vbptai.done s (((s.events.take i).filter (onDay d)).foldl (tookP s) b0) e) := by
        refine (nd_done h1 kn).trans ?_
        rw [show ndC _ = _ from h2]
        unfold dayL
        rw [take_one he, List.filter_append (l₁ := s.events.take i), List.filter_cons_of_pos on, List.filter_nil, ← List.append_assoc]
        unfold ndE
        rw [List.filter_append (l₂ := [e]), List.map_append]
      have st := settle_is Wn (sorted_of (dayL_sorted Wd (i + 1)) kd)
      rw [take_one he, List.filter_append, List.filter_cons_of_pos on, List.filter_nil, List.foldl_append, List.foldl_append, ← h4]
      refine ⟨Wn.settleP, (nd_settleP Wn).trans kd, inv_settle _ _ Wn (inv_done h1 kn hd h3), ?_⟩
      show settleP (Vbptai.done s _ e) = Vbptai.settle (Vbptai.done s _ e)
      exact st.symm
    · have off : onDay d e = false := by
        unfold onDay
        exact beq_eq_false_iff_ne.mpr hd
      have tk : (s.events.take (i + 1)).filter (onDay d) = (s.events.take i).filter (onDay d) := by
        rw [take_one he, List.filter_append, List.filter_cons_of_neg (by rw [off]; decide), List.filter_nil, List.append_nil]
      unfold dayL
      rw [tk]
      exact ⟨h1, h2, h3, h4⟩
theorem day_is (Wd : Wide s) (We : Well s) (W : WfB b) (hK : Kept (s.events.filter (ere d)) b) (I : ∀ c ∈ b.charges, ∃ y, y < d ∧ InvT y c ∧ NextT y d c) :
    dayP s b d = Vbptai.dayDone s b d ∧ WfB (dayP s b d) ∧ Kept (s.events.filter (ere d) ++ s.events.filter (onDay d)) (dayP s b d) ∧ ∀ c ∈ (dayP s b d).charges, InvT d c := by
  have W1 := W.passP d
  have W2 := W1.settleP
  have k1 : Kept (dayL s d 0) (passP d b) := by
    unfold Kept dayL
    rw [nd_passP W, List.take_zero, List.filter_nil, List.append_nil]
    exact hK
  have k2 : Kept (dayL s d 0) (settleP (passP d b)) := (nd_settleP W1).trans k1
  have i1 : ∀ c ∈ (passP d b).charges, InvT d c := fun c hc => by
    rw [passP_charges W] at hc
    obtain ⟨x, hx, rfl⟩ := List.mem_map.mp hc
    obtain ⟨y, h1, h2, h3⟩ := I x hx
    exact tc_inv h1 h2 h3
  have i2 : ∀ c ∈ (settleP (passP d b)).charges, InvT d c := inv_settle _ _ W1 i1
  obtain ⟨h1, h2, h3, h4⟩ := day_fold Wd We W2 k2 i2 s.events.length (Nat.le_refl _)
  unfold dayL at h2
  rw [List.take_length] at h1 h2 h3 h4
  refine ⟨?_, h1, h2, h3⟩
  unfold dayP Vbptai.dayDone
  rw [pass_is W I, settle_is W1 (sorted_of (dayL_sorted Wd 0) k1)]
  exact h4
/-- the books on an evening -/
theorem charge_days {l : List Vbptai.Event} (hl : ∀ x ∈ l, x ∈ s.events) (hK : Kept l b) (hc : c ∈ b.charges) : c.day + 31 ∈ daysAll s ∧ c.day + 181 ∈ daysAll s := by
  have : (c.num, c.day) ∈ ndC b := List.mem_map.mpr ⟨c, hc, rfl⟩
  rw [hK] at this
  obtain ⟨x, hx, hxe⟩ := List.mem_map.mp this
  obtain ⟨x1, x2⟩ := List.mem_filter.mp hx
  have hd : x.day = c.day := (Prod.mk.inj hxe).2
  have dp : dayPut x = [(x.day : Int) + 30 + 1, (x.day : Int) + 180 + 1] := by
    unfold dayPut
    rw [if_pos x2]
  have mem : ∀ i : Int, i ∈ dayPut x → i ∈ daysM s.events := fun i h => List.mem_append_right _ (List.mem_flatMap.mpr ⟨x, hl x x1, h⟩)
  refine ⟨(daysAll_mem _).mpr (mem _ ?_), (daysAll_mem _).mpr (mem _ ?_)⟩
  · rw [dp, ← hd]
    exact List.mem_cons.mpr (.inl (by omega))
  · rw [dp, ← hd]
    exact List.mem_cons_of_mem _ (List.mem_singleton.mpr (by omega))
theorem at_is (Wd : Wide s) (We : Well s) (ev : Nat) : ∀ i, i ≤ (daysAll s).length → atDay s ev i = (((daysAll s).take i).filter fun x => decide (x ≤ ev)).foldl (Vbptai.dayDone s) (Vbptai.empty s) ∧ WfB (atDay s ev i) ∧ Kept (upTo s ev i) (atDay s ev i) ∧
    ∀ c ∈ (atDay s ev i).charges, ∃ y, InvT y c ∧ y ∈ (daysAll s).take i ∧ ∀ x ∈ (daysAll s).take i, x ≤ ev → x ≤ y
  | 0, _ => ⟨rfl, WfB.start Wd, by
      have u0 : upTo s ev 0 = [] := List.filter_eq_nil_iff.mpr fun e _ z => by
        have h := of_decide_eq_true z
        rw [List.take_zero] at h
        exact nomatch h.1
      unfold Kept
      rw [u0]
      rfl, fun _ h => nomatch h⟩
  | i + 1, hi => by
    obtain ⟨h1, h2, h3, h4⟩ := at_is Wd We ev i (by omega)
    have hy : (daysAll s)[i]? = some (daysAll s)[i] := List.getElem?_eq_getElem (by omega)
    generalize (daysAll s)[i] = y at hy
    by_cases hle : y ≤ ev
    · have k3 : Kept (s.events.filter (ere y)) (atDay s ev i) := by
        rw [← upTo_ere hy hle]
        exact h3
      have nx : ∀ c ∈ (atDay s ev i).charges, ∃ z, z < y ∧ InvT z c ∧ NextT z y c := fun c hc => by
        obtain ⟨z, z1, z2, z3⟩ := h4 c hc
        have zl : z < y := (take_less daysAll_sorted hy (List.mem_of_mem_take z2)).mp z2
        obtain ⟨m1, m2⟩ := charge_days (fun x hx => (List.mem_filter.mp hx).1) k3 hc
        have alt : ∀ x ∈ daysAll s, x ≤ z ∨ y ≤ x := fun x hx => by
          by_cases hxy : x < y
          · exact .inl (z3 x ((take_less daysAll_sorted hy hx).mpr hxy) (by omega))
          · exact .inr (by omega)
        refine ⟨z, zl, z1, fun h0 => ⟨alt _ m1, ?_⟩⟩
        have := (z1.day h0).2
        rcases alt _ m2 with a | a
        · omega
        · exact a
      obtain ⟨d1, d2, d3, d4⟩ := day_is Wd We h2 k3 nx
      have fl : (((daysAll s).take (i + 1)).filter fun x => decide (x ≤ ev)) = (((daysAll s).take i).filter fun x => decide (x ≤ ev)) ++ [y] := by
        rw [take_one hy, List.filter_append, List.filter_cons_of_pos (p := fun x : Nat => decide (x ≤ ev)) (decide_eq_true hle), List.filter_nil]
      rw [atDay_next hy hle, upTo_next Wd hy hle, fl, List.foldl_append, ← h1]
      refine ⟨d1, d2, d3, fun c hc => ⟨y, d4 c hc, ?_, fun x hx hxe => ?_⟩⟩
      · rw [take_one hy]
        exact List.mem_append_right _ (List.mem_singleton.mpr rfl)
      · rw [take_one hy] at hx
        obtain hx | hx := List.mem_append.mp hx
        · exact Nat.le_of_lt ((take_less daysAll_sorted hy (List.mem_of_mem_take hx)).mp hx)
        · rw [List.mem_singleton.mp hx]
          exact Nat.le_refl _
    · have fl : (((daysAll s).take (i + 1)).filter fun x => decide (x ≤ ev)) = ((daysAll s).take i).filter fun x => decide (x ≤ ev) := by
        rw [take_one hy, List.filter_append, List.filter_cons_of_neg (by simp; omega), List.filter_nil, List.append_nil]
      rw [atDay_skip hy hle, upTo_skip hy hle, fl]
      refine ⟨h1, h2, h3, fun c hc => ?_⟩
      obtain ⟨z, z1, z2, z3⟩ := h4 c hc
      refine ⟨z, z1, by rw [take_one hy]; exact List.mem_append_left _ z2, fun x hx hxe => ?_⟩
      rw [take_one hy] at hx
      obtain hx | hx := List.mem_append.mp hx
      · exact z3 x hx hxe
      · rw [List.mem_singleton.mp hx] at hxe
        exact absurd hxe hle
theorem books_is (Wd : Wide s) (We : Well s) (ev : Nat) : booksP s ev = Vbptai.books s ev := by
  obtain ⟨h, _⟩ := at_is Wd We ev (daysAll s).length (Nat.le_refl _)
  unfold atDay at h
  rw [List.take_length] at h
  unfold Vbptai.books
  rw [days_is]
  exact h
end
end FB
-- B19
set_option Elab.async false
set_option linter.all false
set_option maxRecDepth 100000
set_option maxHeartbeats 3900000
namespace FB
open PySem PySem.Spec PyProof.Rows L2 Evl
open LamX NdefX
section
variable {K : PySem.W.Frag} {mg : Str → Option Value} {P : Program} {base : Heap} {w : World}
variable {σ : L2.St} {H H' : Hp} {A : RecA} {m : RecM} {s : Vbptai.State} {B : BkA} {b : Vbptai.Books} {n k d : Nat} {D : Ends} {tz : TS} {te ta tb : TE}
/-- nothing but a table may have been there -/
def NewX (H : Hp) (p : Addr) : Prop := ∀ o, H p = some o → ∃ ps, o = .tbl ps
theorem newX_of {p : Addr} (h : H p = none) : NewX H p := fun o z => by
  rw [h] at z
  cases z
theorem newX_back {p : Addr} {S : List Addr} (x : ExtN H (hid S H')) (h : H' p = none) : NewX H p := fun o ho => by
  cases o with
  | tbl ps => exact ⟨ps, rfl⟩
  | _ =>
    have := hid_le _ _ (x p _ ho fun _ z => nomatch z)
    rw [h] at this
    cases this
def spAsk (K : PySem.W.Frag) (ok : Vbptai.State → CallM → Prop) (f : Vbptai.State → CallM → List Int) : Sp := fun vs H Q _ => ∃ (A : RecA) (m : RecM) (s : Vbptai.State) (c d r : Addr) (cm : CallM), vs = [.ref A.R, .ref c] ∧ Ask K A H m s ∧ TabS H (tabP K) lamQ ∧ CallI K H c d r cm ∧ ok s cm ∧
  ∀ p H2, NewX H p → ExtN H H2 → TabS H2 (tabP K) lamQ → H2 p = some (.lst ((f s cm).map V.int)) → Q (.ref p) H2
/-- books = books_on(record, day) -/
theorem q_books {j : Nat} {t : TA} {E : XK} (hA : Ask K A H m s) (hT : TabS H (tabP K) lamQ) (ht : EvA t σ H [.ref A.R, .int (d : Nat)]) (go : ∀ B H2, ExtN H (hid B.S H2) → BkAt K B H2 (Vbptai.books s d) → WfB (Vbptai.books s d) → Kept (s.events.filter fun e => decide (e.day ≤ d)) (Vbptai.books s d) → tz D (σ.set j (some (.ref B.R))) H2) : tSeq (tAsg (tCall (sp_books_on K) [] E t) (gName j)) tz D σ H :=
  q_asgC ht fun H1 e1 => ⟨A, m, s, d, rfl, hA.stay e1, hT.ext e1, fun B H2 x h W Kp => by
    rw [books_is hA.wide hA.well] at h W Kp
    exact go B H2 ((ExtN.of e1).trans x) h W Kp⟩
def natOf (c : CallM) (x : Str) : Nat := ((tl c.told x).getD 0).toNat
def hasN (c : CallM) (x : Str) : Prop := tl c.told x = some ((natOf c x : Nat) : Int)
theorem hidX {S : List Addr} (x : ExtN H (hid S H')) : ExtN H H' := fun b o h n => hid_le _ _ (x b o h n)
theorem el_cat {xs ys : List V} {bq : Addr} (ha : EvL ta σ H xs) (hb : Ev tb σ H (.ref bq)) (hy : H bq = some (.lst ys)) (hz : xs.length + ys.length ≤ sizeLine) : EvL (tOp rCat ta tb) σ H (xs ++ ys) := fun H1 e1 Q q =>
  ha H1 e1 _ fun l H2 nl e2 h2 => hb H2 (e1.trans e2) _ fun H3 e3 => ⟨l, bq, xs, ys, rfl, rfl, e3 _ _ h2, e3 _ _ (e2 _ _ (e1 _ _ hy)), hz, fun p np => q p _ (fresh_back (e2.trans e3) np) ((e2.trans e3).trans (Ex.new np)) upd_same⟩
theorem el_cat2 {xs ys : List V} (ha : EvL ta σ H xs) (hb : EvL tb σ H ys) (hz : xs.length + ys.length ≤ sizeLine) : EvL (tOp rCat ta tb) σ H (xs ++ ys) := fun H1 e1 Q q =>
  ha H1 e1 _ fun l H2 nl e2 h2 => hb H2 (e1.trans e2) _ fun l2 H3 nl2 e3 h3 => ⟨l, l2, xs, ys, rfl, rfl, e3 _ _ h2, h3, hz, fun p np => q p _ (fresh_back (e2.trans e3) np) ((e2.trans e3).trans (Ex.new np)) upd_same⟩
abbrev s_ask_account : Stmt := topS 65
abbrev N_ask_account : List Str := ["record", "call", "books"]
theorem sc_ask_account : FnScope N_ask_account ["record", "call"] (defScope s_ask_account) := ⟨rfl, rfl, rfl, by decide +kernel, rfl, by decide +kernel, by decide +kernel⟩
def okAccount (_ : Vbptai.State) (c : CallM) : Prop := hasN c "account" ∧ hasN c "day" ∧ 1 ≤ natOf c "account" ∧ natOf c "account" ≤ 20
def askAccount (s : Vbptai.State) (c : CallM) : List Int := [0, Vbptai.nthInt (Vbptai.books s (natOf c "day")).accounts (natOf c "account")]
theorem ok_ask_account (T : Tx K mg) (Y : Tw P w K) (Z : Tz K mg base) : Own P w K mg base CX0 9 "ask_account" ["record", "call"] (spAsk K okAccount askAccount) := by
  refine own_mk T.d_ask_account T.g_ask_account (fun _ _ _ _ _ _ us hl => match us, hl with | [_, _], _ => rfl) fun fd F => ?_
  refine F.ok sc_ask_account (fun vs H Q E h => by obtain ⟨_, _, _, _, _, _, _, rfl, _⟩ := h; rfl) (fun cdv A outer s H vs Q E hr h => ⟨_, PSs.nox
    (pss_cons (ps_set (i := 2) sc_ask_account.nd rfl (Or.inl rfl) (pe_own (ok_books_on T Y Z) hr (by decide) pass0 (pa_cons (pv 0) (pa_cons (pe_dget (hu_of hr) (pe_fld (pv 1) rfl) pe_str (fun _ _ => rfl)) pa_nil))))
    (pss_one (ps_ret (pe_lst (pa_cons pe_int (pa_cons (pe_ix ix_list (pe_fld (pv 2) rfl) (pe_dget (hu_of hr) (pe_fld (pv 1) rfl) pe_str (fun _ _ => rfl)) (fun _ _ => rfl)) pa_nil)))))), ?_⟩)
  obtain ⟨A, m, s, c, d, r, cm, rfl, hA, hT, hC, ⟨o1, o2, o3, o4⟩, k⟩ := h
  refine q_books hA hT (ea_cons (ev_var rfl) (ea_cons (cl_tl T hC (ev_var rfl) o2) ea_nil)) fun B H1 x1 hB W _ => ?_
  have hC1 := hC.stayX (hidX x1)
  refine s_retL (el_lst (ea_cons ev_c (ea_cons (bk_ac T hB W (ev_var rfl) (cl_tl T hC1 (ev_var rfl) o1) o3 o4) ea_nil)) (by show 2 ≤ 100000; decide)) fun p H2 np e2 h2 => ?_
  exact k p H2 (newX_back x1 np) ((hidX x1).trans (ExtN.of e2)) ((hB.stay e2).tabS) h2
abbrev s_ask_land : Stmt := topS 68
abbrev N_ask_land : List Str := ["record", "call", "books"]
theorem sc_ask_land : FnScope N_ask_land ["record", "call"] (defScope s_ask_land) := ⟨rfl, rfl, rfl, by decide +kernel, rfl, by decide +kernel, by decide +kernel⟩
def okLand (s : Vbptai.State) (c : CallM) : Prop := hasN c "land" ∧ hasN c "day" ∧ 1 ≤ natOf c "land" ∧ natOf c "land" ≤ s.lands.length
def askLand (s : Vbptai.State) (c : CallM) : List Int := [(Vbptai.nth (Vbptai.books s (natOf c "day")).handed (natOf c "land") : Nat)]
abbrev s_ask_totals : Stmt := topS 69
abbrev N_ask_totals : List Str := ["record", "call", "books"]
theorem sc_ask_totals : FnScope N_ask_totals ["record", "call"] (defScope s_ask_totals) := ⟨rfl, rfl, rfl, by decide +kernel, rfl, by decide +kernel, by decide +kernel⟩
def okDay (_ : Vbptai.State) (c : CallM) : Prop := hasN c "day"
def askTotals (s : Vbptai.State) (c : CallM) : List Int := let b := Vbptai.books s (natOf c "day")
  [0, b.income, Vbptai.sumInt b.accounts, (Vbptai.sumNat b.credits : Int), Vbptai.kept b, (b.out : Int), (Vbptai.sumNat b.handed : Int)]
theorem foldl_addI (l : List Int) : ∀ a, l.foldl (fun a b => a + b) a = a + l.sum := by
  induction l with
  | nil => intro a; simp
  | cons x l ih =>
    intro a
    rw [List.foldl_cons, ih, List.sum_cons]
    omega
theorem sumInt_eq (l : List Int) : l.sum = Vbptai.sumInt l := by
  unfold Vbptai.sumInt
  rw [foldl_addI]
  omega
theorem ok_ask_totals (T : Tx K mg) (Y : Tw P w K) (Z : Tz K mg base) : Own P w K mg base CX0 9 "ask_totals" ["record", "call"] (spAsk K okDay askTotals) := by
  refine own_mk T.d_ask_totals T.g_ask_totals (fun _ _ _ _ _ _ us hl => match us, hl with | [_, _], _ => rfl) fun fd F => ?_
  refine F.ok sc_ask_totals (fun vs H Q E h => by obtain ⟨_, _, _, _, _, _, _, rfl, _⟩ := h; rfl) (fun cdv A outer s H vs Q E hr h => ⟨_, PSs.nox
    (pss_cons (ps_set (i := 2) sc_ask_totals.nd rfl (Or.inl rfl) (pe_own (ok_books_on T Y Z) hr (by decide) pass0 (pa_cons (pv 0) (pa_cons (pe_dget (hu_of hr) (pe_fld (pv 1) rfl) pe_str (fun _ _ => rfl)) pa_nil))))
    (pss_one (ps_ret (pe_lst (pa_cons pe_int (pa_cons (pe_fld (pv 2) rfl) (pa_cons (pe_callB (cr_sum rfl) (by rfl) T.b_sum (by decide +kernel) (pa_cons (pe_fld (pv 2) rfl) pa_nil)) (pa_cons (pe_callB (cr_sum rfl) (by rfl) T.b_sum (by decide +kernel) (pa_cons (pe_fld (pv 2) rfl) pa_nil)) (pa_cons (pe_own (ok_kept T) hr (by decide) pass0 (pa_cons (pv 2) pa_nil)) (pa_cons (pe_fld (pv 2) rfl) (pa_cons (pe_callB (cr_sum rfl) (by rfl) T.b_sum (by decide +kernel) (pa_cons (pe_fld (pv 2) rfl) pa_nil)) pa_nil))))))))))), ?_⟩)
  obtain ⟨A, m, s, c, d, r, cm, rfl, hA, hT, hC, o2, k⟩ := h
  refine q_books hA hT (ea_cons (ev_var rfl) (ea_cons (cl_tl T hC (ev_var rfl) o2) ea_nil)) fun B H1 x1 hB W _ => ?_
  unfold askTotals at k
  generalize Vbptai.books s (natOf cm "day") = b at *
  have s1 : (0 :: b.accounts).sum = Vbptai.sumInt b.accounts := by
    rw [List.sum_cons, sumInt_eq]
    omega
  have s2 : natSum (0 :: b.credits) = (Vbptai.sumNat b.credits : Int) := by
    rw [natSum_eq, sumNat_cons, Nat.zero_add]
  have s3 : paidSum b.charges - natSum b.handed = Vbptai.kept b := by
    unfold Vbptai.kept
    rw [paidSum_eq, natSum_eq]
  refine s_retL (el_lst (ea_cons ev_c (ea_cons (bk_came T hB (ev_var rfl)) (ea_cons (ev_is (ev_sumL (ns := 0 :: b.accounts) (bk_accounts T hB (ev_var rfl)) (sq_of hB.la)) (congrArg V.int s1)) (ea_cons (ev_is (ev_sumL (ns := (0 :: b.credits).map fun (x : Nat) => (x : Int)) (bk_credit T hB (ev_var rfl)) (sq_of (by rw [← natV_eq]; exact hB.lc))) (congrArg V.int s2))
    (ea_cons (ev_is (ev_call (z := .int (paidSum b.charges - natSum b.handed)) (ea_cons (ev_var rfl) ea_nil) fun H2 e2 Q q E => ⟨B, b, rfl, hB.stay e2, by have := W.few; omega, fun H3 e3 => q H3 e3⟩) (congrArg V.int s3)) (ea_cons (bk_given T hB (ev_var rfl)) (ea_cons (ev_is (ev_handedSum T hB (ev_var rfl)) (congrArg V.int (natSum_eq b.handed))) ea_nil))))))) (by show 7 ≤ 100000; decide)) fun p H2 np e2 h2 => ?_
  exact k p H2 (newX_back x1 np) ((hidX x1).trans (ExtN.of e2)) ((hB.stay e2).tabS) h2
abbrev s_ask_text : Stmt := topS 71
abbrev N_ask_text : List Str := ["record", "call", "schedule"]
theorem sc_ask_text : FnScope N_ask_text ["record", "call"] (defScope s_ask_text) := ⟨rfl, rfl, rfl, by decide +kernel, rfl, by decide +kernel, by decide +kernel⟩
def askText (s : Vbptai.State) (c : CallM) : List Int := match Vbptai.inForce s (natOf c "day") with
  | none => [-5]
  | some x => (x.day : Int) :: cI x.text
theorem ok_ask_text (T : Tx K mg) : Own P w K mg base CX0 2 "ask_text" ["record", "call"] (spAsk K okDay askText) := by
  refine own_mk T.d_ask_text T.g_ask_text (fun _ _ _ _ _ _ us hl => match us, hl with | [_, _], _ => rfl) fun fd F => ?_
  refine F.ok sc_ask_text (fun vs H Q E h => by obtain ⟨_, _, _, _, _, _, _, rfl, _⟩ := h; rfl) (fun cdv A outer s H vs Q E hr h => ⟨_, PSs.nox
    (pss_cons (ps_set (i := 2) sc_ask_text.nd rfl (Or.inl rfl) (pe_own (ok_schedule_in_force T) hr (by decide) pass0 (pa_cons (pv 0) (pa_cons (pe_dget (hu_of hr) (pe_fld (pv 1) rfl) pe_str (fun _ _ => rfl)) pa_nil))))
    (pss_cons (ps_if (pt_cmpR op_isN (pv 2) pe_non (nomark _))
      (pss_one (ps_ret (pe_lst (pa_cons (pe_un un_neg pe_int) pa_nil))))
      pss_nil)
    (pss_one (ps_ret (pe_op op_cat (pe_lst (pa_cons (pe_fld (pv 2) rfl) pa_nil)) (pe_fld (pv 2) rfl)))))), ?_⟩)
  obtain ⟨A, m, s, c, d, r, cm, rfl, hA, hT, hC, o2, k⟩ := h
  unfold askText at k
  refine q_asgC (ea_cons (ev_var rfl) (ea_cons (cl_tl T hC (ev_var rfl) o2) ea_nil)) fun H1 e1 => ⟨A, m, s, natOf cm "day", rfl, hA.stay e1, fun q H2 e2 => ?_, fun x q a H2 e2 ha => ?_⟩
  · rw [q] at k
    refine q_when (et_test (ev_op (ev_var rfl) ev_c rv_isN)) (fun _ H3 e3 => ?_) (fun h => Bool.noConfusion h)
    have e13 := e1.trans (e2.trans e3)
    exact s_retL (el_lst (ea_cons (ev_neg ev_c) ea_nil) (by decide)) fun p H4 np e4 h4 => k p H4 (newX_of (fresh_back e13 np)) (ExtN.of (e13.trans e4)) (hT.ext (e13.trans e4)) h4
  · rw [q] at k
    refine q_when (et_test (ev_op (ev_var rfl) ev_c rv_isN)) (fun h => Bool.noConfusion h) (fun _ H3 e3 => ?_)
    have e13 := e1.trans (e2.trans e3)
    obtain ⟨dx, tt, f, xs, g1, g2, _⟩ := ha
    have g1' := e3 _ _ (hid_le _ _ g1)
    have g2' := e3 _ _ (hid_le _ _ g2)
    have ln : x.text.length ≤ 2000 := hA.wide.text x (inForce_some hA.wide q).1
    have zl : 1 + ((schM x).text.map V.int).length ≤ sizeLine := by
      rw [List.length_map]
      show 1 + (cI x.text).length ≤ sizeLine
      rw [cI_len]
      exact Nat.le_trans (show 1 + x.text.length ≤ 2001 by omega) (by decide)
    refine s_retL (el_cat (el_lst (ea_cons (ev_fld (ev_var rfl) g1' T.k_Schedule T.n_Schedule_day lk_here) ea_nil) (by show 1 ≤ 100000; decide)) (ev_fld (ev_var rfl) g1' T.k_Schedule T.n_Schedule_text ((lk_past (by decide)).trans lk_here)) g2' zl) fun p H4 np e4 h4 => ?_
    exact k p H4 (newX_of (fresh_back e13 np)) (ExtN.of (e13.trans e4)) (hT.ext (e13.trans e4)) h4
abbrev s_ask_events : Stmt := topS 72
abbrev N_ask_events : List Str := ["record", "call", "event"]
theorem sc_ask_events : FnScope N_ask_events ["record", "call"] (defScope s_ask_events) := ⟨rfl, rfl, rfl, by decide +kernel, rfl, by decide +kernel, by decide +kernel⟩
def askEvents (s : Vbptai.State) (_ : CallM) : List Int := 0 :: s.events.map fun e => ((e.num : Nat) : Int)
theorem hid_nil : hid [] H = H := funext fun b => if_neg (fun z => nomatch z)
theorem ok_ask_events (T : Tx K mg) : Own P w K mg base CX0 5 "ask_events" ["record", "call"] (spAsk K (fun _ _ => True) askEvents) := by
  refine own_mk T.d_ask_events T.g_ask_events (fun _ _ _ _ _ _ us hl => match us, hl with | [_, _], _ => rfl) fun fd F => ?_
  refine F.ok sc_ask_events (fun vs H Q E h => by obtain ⟨_, _, _, _, _, _, _, rfl, _⟩ := h; rfl) (fun cdv A outer s H vs Q E hr h => ⟨_, PSs.nox
    (pss_one (ps_ret (pe_op op_cat (pe_lst (pa_cons pe_int pa_nil)) (pe_lc (own := [("event", 2)]) (g := gName 2) (tt := tYes) rfl sc_ask_events.nd (pi_list (pe_own (ok_events_in_order T) hr (by decide) pass0 (pa_cons (pv 0) pa_nil))) (blkOk_by (N := N_ask_events) (sc := defScope s_ask_events) (by decide +kernel)) (fun _ _ _ _ _ => by exact (pg_name (i := 2) sc_ask_events.nd rfl (Or.inl rfl))) (fun _ _ _ _ _ => by exact pts_nil) (fun _ _ _ _ _ => by exact (pe_fldK (K := K) rfl (pv 2) (by rfl))))))), ?_⟩)
  obtain ⟨A, m, s, c, d, r, cm, rfl, hA, hT, hC, _, k⟩ := h
  have hq : EvQ (tCall (sp_events_in_order K) [] E0 (tCons (tVar 0) tNil)) [some (.ref A.R), some (.ref c), none] H (fun v _ H2 => ∃ p xs, v = .ref p ∧ H2 p = some (.lst xs) ∧ Paired (fun e v => evR K H2 (evM e) v) s.events xs) := fun H0 e0 Q q => by
    refine (ea_cons (ev_var rfl) ea_nil : EvA (tCons (tVar 0) tNil) [some (.ref A.R), some (.ref c), none] H0 [.ref A.R]) H0 (Ex.refl _) _ fun H1 e1 => ?_
    rw [List.append_nil]
    refine ⟨A, m, s, [], rfl, by rw [hid_nil]; exact hA.stay (e0.trans e1), fun p xs H2 np e2 h2 hx => q _ H2 (e1.trans e2) ⟨p, xs, rfl, h2, ?_⟩⟩
    rw [hid_nil] at hx
    exact Paired.mono (fun e v h => evR.stay e2 h) hx
  have ll : EvL (tLc (iList K (tCall (sp_events_in_order K) [] E0 (tCons (tVar 0) tNil))) (gName 2) tYes (tFld K (tVar 2) "number") [2]) [some (.ref A.R), some (.ref c), none] H (s.events.map fun e => V.int ((e.num : Nat) : Int)) := fun H0 e0 Q q => hq H0 e0 _ fun v H2 e2 hv => by
    obtain ⟨p, xs, rfl, h2, hx2⟩ := hv
    obtain ⟨ks, ek1, ek2, hks⟩ := paired_zip hx2
    have kl : ks.length ≤ 60 := by
      have := hA.well.few
      rw [ek1, List.length_map] at this
      exact this
    have i2 : EvI (iList K (tC (.ref p))) [some (.ref A.R), some (.ref c), none] H2 ks.length (fun i x => (ks.map (·.2))[i]? = some x) := by
      have := ei_list (K := K) (tl := tC (.ref p)) (σ := [some (.ref A.R), some (.ref c), none]) ev_c (sq_of h2)
      rw [ek2, List.length_map] at this
      exact this
    have l2 := el_map (te := tFld K (tVar 2) "number") (vs := [2]) (j := 2) (·.2) (fun q => V.int ((q.1.num : Nat) : Int)) i2 (fun i x y => y) (by omega) (fun _ => rfl) (fun q H3 e3 hq => by
      obtain ⟨a, ea, dx, rr, g1, _⟩ := hks q hq
      rw [ea]
      have := ev_number T (e3 _ _ g1) (ev_var (i := 2) (σ := (wipe [some (.ref A.R), some (.ref c), none] [2]).set 2 (some (.ref a))) rfl)
      rw [evM_num] at this
      exact this)
    have dl : ks.map (fun q => V.int ((q.1.num : Nat) : Int)) = s.events.map fun e => V.int ((e.num : Nat) : Int) := by
      rw [ek1, List.map_map]
      rfl
    rw [dl] at l2
    exact l2 H2 (Ex.refl _) Q fun p3 H3 np3 e3 h3 => q p3 H3 (fresh_back e2 np3) (e2.trans e3) h3
  refine s_retL (el_cat2 (el_lst (ea_cons (ev_c (v := .int 0)) ea_nil) (by show 1 ≤ 100000; decide)) ll (by
    rw [List.length_map]
    have := hA.well.few
    exact Nat.le_trans (show 1 + s.events.length ≤ 61 by omega) (by decide))) fun p H1 np e1 h1 => ?_
  refine k p H1 (newX_of np) (ExtN.of e1) (hT.ext e1) ?_
  rw [h1]
  unfold askEvents
  rw [List.map_cons, List.map_map]
  rfl
abbrev s_ask_price : Stmt := topS 70
abbrev N_ask_price : List Str := ["record", "call", "fee"]
theorem sc_ask_price : FnScope N_ask_price ["record", "call"] (defScope s_ask_price) := ⟨rfl, rfl, rfl, by decide +kernel, rfl, by decide +kernel, by decide +kernel⟩
def okPrice (_ : Vbptai.State) (c : CallM) : Prop := hasN c "day" ∧ hasN c "units" ∧ hasN c "small" ∧ (∀ x ∈ c.row, 0 ≤ x) ∧ c.row.length ≤ 40000
def askPrice (s : Vbptai.State) (c : CallM) : List Int := if isNam c.row = true then (match Vbptai.feeOn s (natOf c "day") (c.row.map Int.toNat) with
    | none => [-5]
    | some f => [(Vbptai.price f (natOf c "units") (natOf c "small" == 1) : Nat)]) else [-4]
theorem ok_ask_price (T : Tx K mg) : Own P w K mg base CX0 4 "ask_price" ["record", "call"] (spAsk K okPrice askPrice) := by
  refine own_mk T.d_ask_price T.g_ask_price (fun _ _ _ _ _ _ us hl => match us, hl with | [_, _], _ => rfl) fun fd F => ?_
  refine F.ok sc_ask_price (fun vs H Q E h => by obtain ⟨_, _, _, _, _, _, _, rfl, _⟩ := h; rfl) (fun cdv A outer s H vs Q E hr h => ⟨_, PSs.nox
    (pss_cons (ps_if (pt_not (pt_val (pe_own (ok_is_name T) hr (by decide) pass0 (pa_cons (pe_fld (pv 1) rfl) pa_nil))))
      (pss_one (ps_ret (pe_lst (pa_cons (pe_un un_neg pe_int) pa_nil))))
      pss_nil)
    (pss_cons (ps_set (i := 2) sc_ask_price.nd rfl (Or.inl rfl) (pe_own (ok_fee_in_force T) hr (by decide) pass0 (pa_cons (pv 0) (pa_cons (pe_dget (hu_of hr) (pe_fld (pv 1) rfl) pe_str (fun _ _ => rfl)) (pa_cons (pe_fld (pv 1) rfl) pa_nil)))))
    (pss_cons (ps_if (pt_cmpR op_isN (pv 2) pe_non (nomark _))
      (pss_one (ps_ret (pe_lst (pa_cons (pe_un un_neg pe_int) pa_nil))))
      pss_nil)
    (pss_one (ps_ret (pe_lst (pa_cons (pe_own (ok_price_of T) hr (by decide) pass0 (pa_cons (pv 2) (pa_cons (pe_dget (hu_of hr) (pe_fld (pv 1) rfl) pe_str (fun _ _ => rfl)) (pa_cons (pe_cmpR op_eq (pe_dget (hu_of hr) (pe_fld (pv 1) rfl) pe_str (fun _ _ => rfl)) pe_int (nomark _)) pa_nil)))) pa_nil))))))), ?_⟩)
  obtain ⟨A, m, s, c, d, r, cm, rfl, hA, hT, hC, ⟨o1, o2, o3, o4, o5⟩, k⟩ := h
  unfold askPrice at k
  have hrow : H r = some (.lst (cm.row.map V.int)) := by obtain ⟨dx, _, _, h3⟩ := hC; exact h3
  refine q_when (et_not (et_B (ev_call (z := .bl (isNam cm.row)) (ea_cons (cl_row T hC (ev_var rfl)) ea_nil) fun H1 e Q q E => ⟨r, cm.row, rfl, sq_of (e _ _ hrow), o5, fun H2 e2 => q H2 e2⟩))) (fun hb H1 e1 => ?_) (fun hb H1 e1 => ?_)
  · rw [if_neg (by intro z; rw [z] at hb; cases hb)] at k
    exact s_retL (el_lst (ea_cons (ev_neg ev_c) ea_nil) (by decide)) fun p H4 np e4 h4 => k p H4 (newX_of (fresh_back e1 np)) (ExtN.of (e1.trans e4)) (hT.ext (e1.trans e4)) h4
  rw [if_pos (by cases q : isNam cm.row with | true => rfl | false => (rw [q] at hb; cases hb))] at k
  have hC1 := hC.stay e1
  refine q_asgC (ea_cons (ev_var rfl) (ea_cons (cl_tl T hC1 (ev_var rfl) o1) (ea_cons (cl_row T hC1 (ev_var rfl)) ea_nil))) fun H2 e2 => ⟨A, m, s, natOf cm "day", r, cm.row.map Int.toNat, rfl, hA.stay (e1.trans e2), by rw [cI_toNat o4]; exact (e1.trans e2) _ _ hrow, fun q H3 e3 => ?_, fun f q a H3 e3 hf => ?_⟩
  · rw [q] at k
    refine q_when (et_test (ev_op (ev_var rfl) ev_c rv_isN)) (fun _ H4 e4 => ?_) (fun h => Bool.noConfusion h)
    have e14 := e1.trans (e2.trans (e3.trans e4))
    exact s_retL (el_lst (ea_cons (ev_neg ev_c) ea_nil) (by decide)) fun p H5 np e5 h5 => k p H5 (newX_of (fresh_back e14 np)) (ExtN.of (e14.trans e5)) (hT.ext (e14.trans e5)) h5
  · rw [q] at k
    refine q_when (et_test (ev_op (ev_var rfl) ev_c rv_isN)) (fun h => Bool.noConfusion h) (fun _ H4 e4 => ?_)
    have e14 := e1.trans (e2.trans (e3.trans e4))
    have hC4 := hC.stay e14
    obtain ⟨p1, p2, p3⟩ := feeOn_ok hA.wide q
    have sm : decide (((natOf cm "small" : Nat) : Int) = 1) = (natOf cm "small" == 1) := by
      by_cases z : natOf cm "small" = 1
      · rw [z]
        rfl
      · rw [decide_eq_false (by omega), beq_eq_false_iff_ne.mpr z]
    refine s_retL (el_lst (ea_cons (ev_call (z := .int (Vbptai.price f (natOf cm "units") (natOf cm "small" == 1) : Nat)) (ea_cons (ev_var rfl) (ea_cons (cl_tl T hC4 (ev_var rfl) o2) (ea_cons (ev_is (ev_op (cl_tl T hC4 (ev_var rfl) o3) ev_c rv_eqI) (congrArg V.bl sm)) ea_nil))) fun H5 e5 Q q2 E => ⟨a, f, _, _, rfl, ((hf.stay hid_le).stay e4).stay e5, p2, p3, fun H6 e6 => q2 H6 e6⟩) ea_nil) (by show 1 ≤ 100000; decide)) fun p H5 np e5 h5 => ?_
    exact k p H5 (newX_of (fresh_back e14 np)) (ExtN.of (e14.trans e5)) (hT.ext (e14.trans e5)) h5
end
end FB
-- B20
set_option Elab.async false
set_option linter.all false
set_option maxRecDepth 100000
set_option maxHeartbeats 3900000
namespace FB
open PySem PySem.Spec PyProof.Rows L2 Evl
open LamX NdefX
section
variable {s : Vbptai.State} {b : Vbptai.Books} {e : Vbptai.Event} {d n k : Nat}
theorem settle_handed : (Vbptai.settleOne b k).handed = b.handed := by
  unfold Vbptai.settleOne
  split
  · rfl
  · split
    · rfl
    · dsimp only
      split <;> rfl
theorem time_handed : (timeOne d b k).handed = b.handed := by
  unfold timeOne
  split
  · rfl
  · split <;> rfl
theorem fold_handed {f : Vbptai.Books → Nat → Vbptai.Books} (hf : ∀ b k, (f b k).handed = b.handed) : ∀ (ks : List Nat) (b : Vbptai.Books), (ks.foldl f b).handed = b.handed
  | [], _ => rfl
  | k :: ks, b => (fold_handed hf ks _).trans (hf b k)
theorem done_handed (h : b.handed.length = s.lands.length) : (Vbptai.done s b e).handed.length = s.lands.length := by
  obtain ⟨num, day, deed⟩ := e
  cases deed with
  | bounce q =>
    show (match Vbptai.depositOf s q with | some p => _ | none => b : Vbptai.Books).handed.length = _
    cases Vbptai.depositOf s q <;> exact h
  | charge o u f =>
    show (match Vbptai.feeOn s day f with | none => _ | some x => _ : Vbptai.Books).handed.length = _
    cases Vbptai.feeOn s day f <;> exact h
  | refund q =>
    show (match b.charges.find? fun x => x.num == q with | none => b | some c => _ : Vbptai.Books).handed.length = _
    cases b.charges.find? (fun x => x.num == q) with
    | none => exact h
    | some c =>
      dsimp only
      split <;> exact h
  | closing =>
    show (if 0 < _ then { b with handed := (b.handed.zip (Vbptai.shares s.lands _)).map fun p => p.1 + p.2 } else b : Vbptai.Books).handed.length = _
    split
    · show ((b.handed.zip (Vbptai.shares s.lands _)).map fun p => p.1 + p.2).length = _
      rw [List.length_map, List.length_zip]
      unfold Vbptai.shares
      rw [List.length_map, List.length_range, h, Nat.min_self]
    · exact h
  | _ => exact h
theorem took_handed : ∀ (es : List Vbptai.Event) (b : Vbptai.Books), b.handed.length = s.lands.length → (es.foldl (tookP s) b).handed.length = s.lands.length
  | [], _, h => h
  | e :: es, b, h => took_handed es _ (by
    show (settleP (Vbptai.done s b e)).handed.length = _
    unfold settleP
    rw [fold_handed fun b k => settle_handed]
    exact done_handed h)
theorem day_handed : ∀ (ds : List Nat) (b : Vbptai.Books), b.handed.length = s.lands.length → (ds.foldl (dayP s) b).handed.length = s.lands.length
  | [], _, h => h
  | d :: ds, b, h => day_handed ds _ (by
    refine took_handed _ _ ?_
    unfold settleP
    rw [fold_handed fun b k => settle_handed]
    unfold passP
    rw [fold_handed fun b k => time_handed]
    exact h)
theorem books_handed (Wd : Wide s) (We : Well s) : (Vbptai.books s d).handed.length = s.lands.length := by
  rw [← books_is Wd We]
  exact day_handed _ _ (by
    show (List.replicate s.lands.length 0).length = _
    rw [List.length_replicate])
end
section
variable {K : PySem.W.Frag} {mg : Str → Option Value} {P : Program} {base : Heap} {w : World}
variable {σ : L2.St} {H H' : Hp} {A : RecA} {m : RecM} {s : Vbptai.State} {B : BkA} {b : Vbptai.Books} {n k d : Nat} {D : Ends} {tz : TS} {te ta tb : TE}
theorem ok_ask_land (T : Tx K mg) (Y : Tw P w K) (Z : Tz K mg base) : Own P w K mg base CX0 9 "ask_land" ["record", "call"] (spAsk K okLand askLand) := by
  refine own_mk T.d_ask_land T.g_ask_land (fun _ _ _ _ _ _ us hl => match us, hl with | [_, _], _ => rfl) fun fd F => ?_
  refine F.ok sc_ask_land (fun vs H Q E h => by obtain ⟨_, _, _, _, _, _, _, rfl, _⟩ := h; rfl) (fun cdv A outer s H vs Q E hr h => ⟨_, PSs.nox
    (pss_cons (ps_set (i := 2) sc_ask_land.nd rfl (Or.inl rfl) (pe_own (ok_books_on T Y Z) hr (by decide) pass0 (pa_cons (pv 0) (pa_cons (pe_dget (hu_of hr) (pe_fld (pv 1) rfl) pe_str (fun _ _ => rfl)) pa_nil))))
    (pss_one (ps_ret (pe_lst (pa_cons (pe_ix ix_list (pe_fld (pv 2) rfl) (pe_op op_sub (pe_dget (hu_of hr) (pe_fld (pv 1) rfl) pe_str (fun _ _ => rfl)) pe_int) (fun _ _ => rfl)) pa_nil))))), ?_⟩)
  obtain ⟨A, m, s, c, d, r, cm, rfl, hA, hT, hC, ⟨o1, o2, o3, o4⟩, k⟩ := h
  refine q_books hA hT (ea_cons (ev_var rfl) (ea_cons (cl_tl T hC (ev_var rfl) o2) ea_nil)) fun B H1 x1 hB W _ => ?_
  have hC1 := hC.stayX (hidX x1)
  have hl := books_handed (d := natOf cm "day") hA.wide hA.well
  obtain ⟨lh, b1, b2⟩ := hB.obj
  have hit : (natV (Vbptai.books s (natOf cm "day")).handed)[natOf cm "land" - 1]? = some (.int (Vbptai.nth (Vbptai.books s (natOf cm "day")).handed (natOf cm "land") : Nat)) := by
    unfold natV Vbptai.nth
    rw [List.getElem?_map, List.getElem?_eq_getElem (by omega), List.getD_eq_getElem?_getD, List.getElem?_eq_getElem (by omega)]
    rfl
  refine s_retL (el_lst (ea_cons (ev_item (i := natOf cm "land" - 1) (bk_handed T b1 (ev_var rfl)) (ev_is (ev_op (cl_tl T hC1 (ev_var rfl) o1) ev_c rv_I0) (cast_sub' (y := 1) o3)) (sq_of (hid_of b2).2) hit) ea_nil) (by show 1 ≤ 100000; decide)) fun p H2 np e2 h2 => ?_
  exact k p H2 (newX_back x1 np) ((hidX x1).trans (ExtN.of e2)) ((hB.stay e2).tabS) h2
abbrev s_ask_charged : Stmt := topS 66
abbrev N_ask_charged : List Str := ["record", "call", "refusal", "books", "charge"]
theorem sc_ask_charged : FnScope N_ask_charged ["record", "call"] (defScope s_ask_charged) := ⟨rfl, rfl, rfl, by decide +kernel, rfl, by decide +kernel, by decide +kernel⟩
def okCharged (_ : Vbptai.State) (c : CallM) : Prop := (tl c.told "about").isSome = true ∧ hasN c "day"
/-- the charge that is asked for -/
def askCharged (s : Vbptai.State) (c : CallM) : List Int := match s.events.find? fun e => decide ((e.num : Int) = (tl c.told "about").getD 0) with
  | none => [-5]
  | some e => if Vbptai.isCharge e = true then (if natOf c "day" < e.day then [-7] else match Vbptai.chargeIn (Vbptai.books s (natOf c "day")) e.num with
      | none => [-7]
      | some x => [(x.base : Int), x.extra, x.paid, x.state]) else [-5]
theorem ok_ask_charged (T : Tx K mg) (Y : Tw P w K) (Z : Tz K mg base) : Own P w K mg base CX0 9 "ask_charged" ["record", "call"] (spAsk K okCharged askCharged) := by
  refine own_mk T.d_ask_charged T.g_ask_charged (fun _ _ _ _ _ _ us hl => match us, hl with | [_, _], _ => rfl) fun fd F => ?_
  refine F.ok sc_ask_charged (fun vs H Q E h => by obtain ⟨_, _, _, _, _, _, _, rfl, _⟩ := h; rfl) (fun cdv A outer s H vs Q E hr h => ⟨_, PSs.nox
    (pss_cons (ps_set (i := 2) sc_ask_charged.nd rfl (Or.inl rfl) (pe_own (ok_target_refusal T) hr (by decide) pass0 (pa_cons (pv 0) (pa_cons (pv 1) (pa_cons (pe_cint T.c_CHARGE) pa_nil)))))
    (pss_cons (ps_if (pt_cmpR op_lt (pv 2) pe_int (nomark _))
      (pss_one (ps_ret (pe_lst (pa_cons (pv 2) pa_nil))))
      pss_nil)
    (pss_cons (ps_set (i := 3) sc_ask_charged.nd rfl (Or.inl rfl) (pe_own (ok_books_on T Y Z) hr (by decide) pass0 (pa_cons (pv 0) (pa_cons (pe_dget (hu_of hr) (pe_fld (pv 1) rfl) pe_str (fun _ _ => rfl)) pa_nil))))
    (pss_cons (ps_set (i := 4) sc_ask_charged.nd rfl (Or.inl rfl) (pe_dget (hu_of hr) (pe_fld (pv 3) rfl) (pe_dget (hu_of hr) (pe_fld (pv 1) rfl) pe_str (fun _ _ => rfl)) (fun _ _ => rfl)))
    (pss_one (ps_ret (pe_lst (pa_cons (pe_fld (pv 4) rfl) (pa_cons (pe_fld (pv 4) rfl) (pa_cons (pe_fld (pv 4) rfl) (pa_cons (pe_fld (pv 4) rfl) pa_nil))))))))))), ?_⟩)
  obtain ⟨A, m, s, c, d, r, cm, rfl, hA, hT, hC, ⟨o1, o2⟩, k⟩ := h
  have day2 : (tl cm.told "day").getD 0 = ((natOf cm "day" : Nat) : Int) := by rw [o2]; rfl
  have hf := hA.rel.find hA.well ((tl cm.told "about").getD 0)
  refine q_asg (ev_call (ea_cons (ev_var rfl) (ea_cons (ev_var rfl) (ea_cons ev_c ea_nil))) (spV_refusal hA.at_ hC o1 (by rw [o2]; rfl))) fun H1 e1 => ?_
  have hrf : refusalM m cm 5 = match s.events.find? fun e => decide ((e.num : Int) = (tl cm.told "about").getD 0) with
      | none => -5
      | some e => if Vbptai.isCharge e = true then (if natOf cm "day" < e.day then -7 else 0) else -5 := by
    unfold refusalM
    rw [hf]
    cases s.events.find? (fun e => decide ((e.num : Int) = (tl cm.told "about").getD 0)) with
    | none => rfl
    | some e =>
      rw [Option.map_some]
      dsimp only
      rw [kind_charge, evM_day, day2]
      cases Vbptai.isCharge e with
      | false => rfl
      | true =>
        show (if ((natOf cm "day" : Nat) : Int) < (e.day : Int) then (-7 : Int) else 0) = if natOf cm "day" < e.day then -7 else 0
        by_cases z : natOf cm "day" < e.day
        · rw [if_pos z, if_pos (by omega)]
        · rw [if_neg z, if_neg (by omega)]
  unfold askCharged at k
  rw [hrf]
  have bad : ∀ i : Int, i < 0 → (∀ p H2, NewX H p → ExtN H H2 → TabS H2 (tabP K) lamQ → H2 p = some (.lst ([i].map V.int)) → Q (.ref p) H2) → ∀ (u : TS), tSeq (tIfS (tTest (tOp (rI0 fun i j => .bl (decide (i < j))) (tVar 2) (tC (.int 0)))) (tRet (tLst (tCons (tVar 2) tNil))) tNext) u { nx := fun _ H' => Q .non H', rt := Q } [some (.ref A.R), some (.ref c), some (.int i), none, none] H1 := fun i hi kk u => by
    refine q_when (b := true) (et_is (et_test (ev_op (ev_var rfl) ev_c rv_cmp)) (decide_eq_true hi)) (fun _ H2 e2 => ?_) (fun h => nomatch h)
    exact s_retL (el_lst (ea_cons (ev_var rfl) ea_nil) (by show 1 ≤ 100000; decide)) fun p H3 np e3 h3 => kk p H3 (newX_of (fresh_back (e1.trans e2) np)) (ExtN.of (e1.trans (e2.trans e3))) (hT.ext (e1.trans (e2.trans e3))) h3
  cases q : s.events.find? (fun e => decide ((e.num : Int) = (tl cm.told "about").getD 0)) with
  | none =>
    rw [q] at k
    exact bad (-5) (by decide) k _
  | some e =>
    rw [q] at k
    dsimp only at k ⊢
    by_cases hch : Vbptai.isCharge e = true
    · rw [if_pos hch] at k ⊢
      by_cases hd : natOf cm "day" < e.day
      · rw [if_pos hd] at k ⊢
        exact bad (-7) (by decide) k _
      · rw [if_neg hd] at k ⊢
        have em := List.mem_of_find?_eq_some q
        have hab : (e.num : Int) = (tl cm.told "about").getD 0 := by have z := List.find?_some q; simpa using z
        have hC1 := hC.stay e1
        refine q_when (b := false) (et_is (et_test (ev_op (ev_var rfl) ev_c rv_cmp)) (decide_eq_false (by decide))) (fun h => nomatch h) (fun _ H2 e2 => ?_)
        have e12 := e1.trans e2
        refine q_books (hA.stay e12) (hT.ext e12) (ea_cons (ev_var rfl) (ea_cons (cl_tl T (hC.stay e12) (ev_var rfl) o2) ea_nil)) fun B H3 x3 hB W Kp => ?_
        have hC3 := (hC.stay e12).stayX (hidX x3)
        obtain ⟨x, hx, hxn⟩ : ∃ x ∈ (Vbptai.books s (natOf cm "day")).charges, x.num = e.num := by
          have : (e.num, e.day) ∈ ndC (Vbptai.books s (natOf cm "day")) := by
            rw [show ndC _ = _ from Kp]
            exact List.mem_map.mpr ⟨e, List.mem_filter.mpr ⟨List.mem_filter.mpr ⟨em, decide_eq_true (by omega)⟩, hch⟩, rfl⟩
          obtain ⟨x, hx, hxe⟩ := List.mem_map.mp this
          exact ⟨x, hx, (Prod.mk.inj hxe).1⟩
        have hci : Vbptai.chargeIn (Vbptai.books s (natOf cm "day")) e.num = some x := by
          unfold Vbptai.chargeIn
          rw [← hxn]
          exact find_num W.nums hx
        rw [hci] at k
        obtain ⟨ac, dxc, hm, hval⟩ := hB.look W hx
        have hab2 : tl cm.told "about" = some ((x.num : Nat) : Int) := by rw [hxn, hab]; exact some_getD o1
        refine q_asg (ev_dget (k := Sum.inl (x.num : Int)) (bk_charges T hB (ev_var rfl)) (cl_tl T hC3 (ev_var rfl) hab2) hB.dc hval) fun H4 e4 => ?_
        have hc4 := (hB.stay e4).ch hm
        refine s_retL (el_lst (ea_cons (ch_base T hc4 (ev_var rfl)) (ea_cons (ch_surcharge T hc4 (ev_var rfl)) (ea_cons (ch_paid T hc4 (ev_var rfl)) (ea_cons (ch_state T hc4 (ev_var rfl)) ea_nil)))) (by show 4 ≤ 100000; decide)) fun p H5 np e5 h5 => ?_
        refine k p H5 ?_ ((ExtN.of e12).trans ((hidX x3).trans (ExtN.of (e4.trans e5)))) ((hB.stay (e4.trans e5)).tabS) h5
        intro o ho
        exact newX_back x3 (fresh_back e4 np) o (e12 _ _ ho)
    · rw [if_neg hch] at k ⊢
      exact bad (-5) (by decide) k _
end
end FB
-- B21
set_option Elab.async false
set_option linter.all false
set_option maxRecDepth 100000
set_option maxHeartbeats 3900000
namespace FB
open PySem PySem.Spec PyProof.Rows L2 Evl
open LamX NdefX
section
variable {K : PySem.W.Frag} {mg : Str → Option Value} {P : Program} {base : Heap} {w : World}
variable {σ : L2.St} {H H' : Hp} {A : RecA} {m : RecM} {s : Vbptai.State} {B : BkA} {b : Vbptai.Books} {n k d o : Nat} {D : Ends} {tz : TS} {te ta tb : TE}
theorem spL_own (hB : BkAt K B H b) (hz : b.charges.length ≤ 1000) : SpL (sp_open_charges_of K) [.ref B.R, .int (o : Nat)] H ((ownP b B o).map refP) := fun H1 e Q q E => ⟨B, b, o, rfl, hB.stay e, hz, q⟩
theorem own_mem {q : Vbptai.Charge × Addr × Addr} (h : q ∈ ownP b B o) : q ∈ prs b B := (List.mem_filter.mp (List.mem_filter.mp h).1).1
theorem open_mem {q : Vbptai.Charge × Addr × Addr} (h : q ∈ openP b B) : q ∈ prs b B := (List.mem_filter.mp h).1
theorem own_map {γ : Type} (hB : BkAt K B H b) (f : Vbptai.Charge → γ) : (ownP b B o).map (fun q => f q.1) = ((b.charges.filter fun c => decide (c.owner = o) && isOpen c)).map f := by
  unfold ownP openP prs
  rw [List.filter_filter]
  exact filter_zip (p := fun c : Vbptai.Charge => decide (c.owner = o) && isOpen c) hB.len
theorem prs_len2 (hB : BkAt K B H b) (W : WfB b) : (prs b B).length ≤ 40000 := by
  rw [hB.prs_len]
  have := W.few
  omega
theorem own_len (hB : BkAt K B H b) (W : WfB b) : (ownP b B o).length ≤ 40000 := Nat.le_trans (List.length_filter_le ..) (Nat.le_trans (List.length_filter_le ..) (prs_len2 hB W))
abbrev s_ask_owner : Stmt := topS 67
abbrev N_ask_owner : List Str := ["record", "call", "owner", "books", "rests", "lapsed", "charge"]
theorem sc_ask_owner : FnScope N_ask_owner ["record", "call"] (defScope s_ask_owner) := ⟨rfl, rfl, rfl, by decide +kernel, rfl, by decide +kernel, by decide +kernel⟩
def okOwner (_ : Vbptai.State) (c : CallM) : Prop := hasN c "owner" ∧ hasN c "day" ∧ 1 ≤ natOf c "owner" ∧ natOf c "owner" ≤ 40
def askOwner (s : Vbptai.State) (c : CallM) : List Int := let b := Vbptai.books s (natOf c "day")
  let l := b.charges.filter fun x => x.owner == natOf c "owner"
  Vbptai.ints [Vbptai.sumNat ((l.filter fun x => x.state == 0).map Vbptai.restOf), Vbptai.nth b.credits (natOf c "owner"), (l.filter fun x => x.state == 2).length]
theorem ok_ask_owner (T : Tx K mg) (Y : Tw P w K) (Z : Tz K mg base) : Own P w K mg base CX0 9 "ask_owner" ["record", "call"] (spAsk K okOwner askOwner) := by
  refine own_mk T.d_ask_owner T.g_ask_owner (fun _ _ _ _ _ _ us hl => match us, hl with | [_, _], _ => rfl) fun fd F => ?_
  refine F.ok sc_ask_owner (fun vs H Q E h => by obtain ⟨_, _, _, _, _, _, _, rfl, _⟩ := h; rfl) (fun cdv A outer s H vs Q E hr h => ⟨_, PSs.nox
    (pss_cons (ps_set (i := 2) sc_ask_owner.nd rfl (Or.inr rfl) (pe_dget (hu_of hr) (pe_fld (pv 1) rfl) pe_str (fun _ _ => rfl)))
    (pss_cons (ps_set (i := 3) sc_ask_owner.nd rfl (Or.inl rfl) (pe_own (ok_books_on T Y Z) hr (by decide) pass0 (pa_cons (pv 0) (pa_cons (pe_dget (hu_of hr) (pe_fld (pv 1) rfl) pe_str (fun _ _ => rfl)) pa_nil))))
    (pss_cons (ps_setLc (i := 4) (own := [("charge", 6)]) (g := gName 6) (tt := tYes) rfl sc_ask_owner.nd rfl rfl (sw_true rfl rfl rfl (by decide +kernel)) (pi_list (pe_own (ok_open_charges_of T) hr (by decide) pass0 (pa_cons (pv 3) (pa_cons (pv 2) pa_nil)))) (blkOk_by (N := N_ask_owner) (sc := defScope s_ask_owner) (by decide +kernel)) (fun _ _ _ _ _ => by exact (pg_name (i := 6) sc_ask_owner.nd rfl (Or.inl rfl))) (fun _ _ _ _ _ => by exact pts_nil) (fun _ _ _ _ _ => by exact (pe_own (ok_rest_of T) hr (by decide) pass0 (pa_cons (pv 6) pa_nil))))
    (pss_cons (ps_lock (ps_setLc (i := 5) (own := [("charge", 6)]) (g := gName 6) rfl sc_ask_owner.nd rfl rfl (sw_true rfl rfl rfl (by decide +kernel)) (pi_values (pe_fld (pv 3) rfl)) (blkOk_by (N := N_ask_owner) (sc := defScope s_ask_owner) (by decide +kernel)) (fun _ _ _ _ _ => by exact (pg_name (i := 6) sc_ask_owner.nd rfl (Or.inl rfl))) (fun _ _ _ _ _ => by exact (pts_one (PW.pt (pw_and (pt_cmpR op_eq (pe_fldK (K := K) rfl (pv 6) (by rfl)) (pv 2) (nomark _)) (pw_and1 (pt_cmpR op_eq (pe_fldK (K := K) rfl (pv 6) (by rfl)) (pe_cint T.c_LAPSED) (nomark _))))))) (fun _ _ _ _ _ => by exact (pv 6))))
    (pss_one (ps_ret (pe_lst (pa_cons (pe_callB (cr_sum rfl) (by rfl) T.b_sum (by decide +kernel) (pa_cons (pv 4) pa_nil)) (pa_cons (pe_ix ix_list (pe_fld (pv 3) rfl) (pv 2) (fun _ _ => rfl)) (pa_cons (pe_callB call_len_seq (by rfl) T.b_len PySem.boot_len (pa_cons (pv 5) pa_nil)) pa_nil)))))))))), ?_⟩)
  obtain ⟨A, m, s, c, d, r, cm, rfl, hA, hT, hC, ⟨o1, o2, o3, o4⟩, k⟩ := h
  refine q_asg (cl_tl T hC (ev_var rfl) o1) fun H0 e0 => ?_
  refine q_books (hA.stay e0) (hT.ext e0) (ea_cons (ev_var rfl) (ea_cons (cl_tl T (hC.stay e0) (ev_var rfl) o2) ea_nil)) fun B H1 x1 hB W _ => ?_
  unfold askOwner at k
  generalize Vbptai.books s (natOf cm "day") = b at *
  generalize natOf cm "owner" = o at *
  have hfew : b.charges.length ≤ 1000 := by have := W.few; omega
  have i1 : EvI (iList K (tCall (sp_open_charges_of K) [] E0 (tCons (tVar 3) (tCons (tVar 2) tNil)))) [some (.ref A.R), some (.ref c), some (.int (o : Nat)), some (.ref B.R), none, none, none] H1 (ownP b B o).length (fun i x => ((ownP b B o).map refP)[i]? = some x) := by
    have := ei_new (K := K) (el_call (E := E0) (ea_cons (ev_var (i := 3) (σ := [some (.ref A.R), some (.ref c), some (.int (o : Nat)), some (.ref B.R), none, none, none]) rfl) (ea_cons (ev_var (i := 2) rfl) ea_nil)) (spL_own (o := o) hB hfew))
    rw [List.length_map] at this
    exact this
  refine q_asgL (el_map refP (fun q => V.int ((Vbptai.restOf q.1 : Nat) : Int)) i1 (fun i x y => y) (own_len hB W) (fun _ => rfl) (fun q H2 e2 hq => ev_is (ev_call (ea_cons (ev_var rfl) ea_nil) (spV_rest (e2 _ _ (hB.ch (own_mem hq))))) (rest_cast (W.pay _ (zip_fst (own_mem hq)))))) fun pr H2 npr e2 h2 => ?_
  have hB2 := hB.stay e2
  refine q_asgLk (el_valsF refP refP (fun q => decide (q.1.owner = o) && decide (q.1.state = 2)) hB2.dc hB2.vals (fun HL e => hB2.chargesL T (fun HL => ev_var rfl) e) (prs_len2 hB2 W) (fun _ => rfl) (fun q HL e hq => et_and (et_test (ev_op (ch_owner T (hB2.chL e hq) (ev_var rfl)) (ev_var rfl) rv_eqN)) fun _ => et_test (ev_op (ch_state T (hB2.chL e hq) (ev_var rfl)) ev_c (rv_eqN (m := 2)))) (fun q HL e hq _ => ev_var rfl)) fun pl H3 npl e3 h3 => ?_
  have hB3 := hB2.stay e3
  rw [own_map hB (fun c => V.int ((Vbptai.restOf c : Nat) : Int))] at h2
  have l1 : (b.charges.filter fun c => decide (c.owner = o) && isOpen c) = (b.charges.filter fun x => x.owner == o).filter fun x => x.state == 0 := by
    rw [List.filter_filter]
    refine List.filter_congr fun c _ => ?_
    rw [Bool.and_comm]
    congr 1
  have l2 : (((prs b B).filter fun q => decide (q.1.owner = o) && decide (q.1.state = 2)).map refP).length = ((b.charges.filter fun x => x.owner == o).filter fun x => x.state == 2).length := by
    rw [List.length_map, ← List.length_map (f := fun q : Vbptai.Charge × Addr × Addr => q.1)]
    unfold prs
    rw [filter_zip (p := fun c : Vbptai.Charge => decide (c.owner = o) && decide (c.state = 2)) (f := fun c : Vbptai.Charge => c) hB.len, List.length_map, List.filter_filter]
    congr 1
    refine List.filter_congr fun c _ => ?_
    rw [Bool.and_comm]
    congr 1
  rw [l1] at h2
  have hs : (((b.charges.filter fun x => x.owner == o).filter fun x => x.state == 0).map fun c => V.int ((Vbptai.restOf c : Nat) : Int)) = ((((b.charges.filter fun x => x.owner == o).filter fun x => x.state == 0).map Vbptai.restOf).map fun (x : Nat) => (x : Int)).map V.int := by
    (rw [List.map_map, List.map_map])
    rfl
  rw [hs] at h2
  refine s_retL (el_lst (ea_cons (ev_is (ev_sumL (ev_var rfl) (sq_of (e3 _ _ h2))) (congrArg V.int (natSum_eq _))) (ea_cons (bk_cr T hB3 W (ev_var rfl) (ev_var rfl) o3 o4) (ea_cons (ev_is (ev_lenL (ev_var rfl) (sq_of h3)) (congrArg (fun n : Nat => V.int (n : Int)) l2)) ea_nil))) (by show 3 ≤ 100000; decide)) fun p H4 np e4 h4 => ?_
  refine k p H4 ?_ ((ExtN.of e0).trans ((hidX x1).trans (ExtN.of (e2.trans (e3.trans e4))))) ((hB3.stay e4).tabS) h4
  intro u hu
  exact newX_back x1 (fresh_back (e2.trans e3) np) u (e0 _ _ hu)
abbrev s_ask_owed : Stmt := topS 73
abbrev N_ask_owed : List Str := ["record", "call", "account", "books", "charge"]
theorem sc_ask_owed : FnScope N_ask_owed ["record", "call"] (defScope s_ask_owed) := ⟨rfl, rfl, rfl, by decide +kernel, rfl, by decide +kernel, by decide +kernel⟩
def askOwed (s : Vbptai.State) (c : CallM) : List Int := let b := Vbptai.books s (natOf c "day")
  [(Vbptai.sumNat ((b.charges.filter fun x => x.state == 0 && Vbptai.nth b.orders x.owner == natOf c "account").map Vbptai.restOf) : Nat)]
theorem ok_ask_owed (T : Tx K mg) (Y : Tw P w K) (Z : Tz K mg base) : Own P w K mg base CX0 9 "ask_owed" ["record", "call"] (spAsk K okAccount askOwed) := by
  refine own_mk T.d_ask_owed T.g_ask_owed (fun _ _ _ _ _ _ us hl => match us, hl with | [_, _], _ => rfl) fun fd F => ?_
  refine F.ok sc_ask_owed (fun vs H Q E h => by obtain ⟨_, _, _, _, _, _, _, rfl, _⟩ := h; rfl) (fun cdv A outer s H vs Q E hr h => ⟨_, PSs.nox
    (pss_cons (ps_set (i := 2) sc_ask_owed.nd rfl (Or.inr rfl) (pe_dget (hu_of hr) (pe_fld (pv 1) rfl) pe_str (fun _ _ => rfl)))
    (pss_cons (ps_set (i := 3) sc_ask_owed.nd rfl (Or.inr rfl) (pe_own (ok_books_on T Y Z) hr (by decide) pass0 (pa_cons (pv 0) (pa_cons (pe_dget (hu_of hr) (pe_fld (pv 1) rfl) pe_str (fun _ _ => rfl)) pa_nil))))
    (pss_one (ps_ret (pe_lst (pa_cons (pe_callB (cr_sum rfl) (by rfl) T.b_sum (by decide +kernel) (pa_cons (pe_lc (own := [("charge", 4)]) (g := gName 4) rfl sc_ask_owed.nd (pi_list (pe_own (ok_open_charges T) hr (by decide) pass0 (pa_cons (pv 3) pa_nil))) (blkOk_by (N := N_ask_owed) (sc := defScope s_ask_owed) (by decide +kernel)) (fun _ _ _ _ _ => by exact (pg_name (i := 4) sc_ask_owed.nd rfl (Or.inl rfl))) (fun _ _ _ _ _ => by exact (pts_one (pt_cmpR op_eq (pe_ix (ix_listK (K := K) rfl) (pe_fldK (K := K) rfl (pv 3) (by rfl)) (pe_fldK (K := K) rfl (pv 4) (by rfl)) (fun _ _ => rfl)) (pv 2) (nomark _)))) (fun _ _ _ _ _ => by exact (pe_own (ok_rest_of T) hr (by decide) pass0 (pa_cons (pv 4) pa_nil)))) pa_nil)) pa_nil)))))), ?_⟩)
  obtain ⟨A, m, s, c, d, r, cm, rfl, hA, hT, hC, ⟨o1, o2, o3, o4⟩, k⟩ := h
  refine q_asg (cl_tl T hC (ev_var rfl) o1) fun H0 e0 => ?_
  refine q_books (hA.stay e0) (hT.ext e0) (ea_cons (ev_var rfl) (ea_cons (cl_tl T (hC.stay e0) (ev_var rfl) o2) ea_nil)) fun B H1 x1 hB W _ => ?_
  unfold askOwed at k
  generalize Vbptai.books s (natOf cm "day") = b at *
  generalize natOf cm "account" = o at *
  have hfew : b.charges.length ≤ 1000 := by have := W.few; omega
  have i1 : EvI (iList K (tCall (sp_open_charges K) [] E0 (tCons (tVar 3) tNil))) [some (.ref A.R), some (.ref c), some (.int (o : Nat)), some (.ref B.R), none] H1 (openP b B).length (fun i x => ((openP b B).map refP)[i]? = some x) := by
    have := ei_new (K := K) (el_call (E := E0) (ea_cons (ev_var (i := 3) (σ := [some (.ref A.R), some (.ref c), some (.int (o : Nat)), some (.ref B.R), none]) rfl) ea_nil) (spL_open hB hfew))
    rw [List.length_map] at this
    exact this
  have ll := el_filt (t := tTest (tOp rEq (tOp (rIxL K) (tFld K (tVar 3) "sources") (tFld K (tVar 4) "owner")) (tVar 2))) (te := tCall (sp_rest_of K) [] E0 (tCons (tVar 4) tNil)) (j := 4) (vs := [4]) refP (fun q => V.int ((Vbptai.restOf q.1 : Nat) : Int)) (fun q => decide (Vbptai.nth b.orders q.1.owner = o)) i1 (fun i x y => y) (Nat.le_trans (List.length_filter_le ..) (prs_len2 hB W)) (fun _ => rfl) (fun q H2 e2 hq => by
    obtain ⟨w1, w2⟩ := W.own _ (zip_fst (open_mem hq))
    exact et_test (ev_op (bk_so T (hB.stay e2) W (ev_var rfl) (ch_owner T (e2 _ _ (hB.ch (open_mem hq))) (ev_var rfl)) w1 w2) (ev_var rfl) rv_eqN)) (fun q H2 e2 hq _ => ev_is (ev_call (ea_cons (ev_var rfl) ea_nil) (spV_rest (e2 _ _ (hB.ch (open_mem hq))))) (rest_cast (W.pay _ (zip_fst (open_mem hq)))))
  have lm : ((openP b B).filter fun q => decide (Vbptai.nth b.orders q.1.owner = o)).map (fun q => V.int ((Vbptai.restOf q.1 : Nat) : Int)) = (((b.charges.filter fun x => x.state == 0 && Vbptai.nth b.orders x.owner == o).map Vbptai.restOf).map fun (x : Nat) => (x : Int)).map V.int := by
    unfold openP prs
    rw [List.filter_filter, filter_zip (p := fun c : Vbptai.Charge => decide (Vbptai.nth b.orders c.owner = o) && isOpen c) (f := fun c : Vbptai.Charge => V.int ((Vbptai.restOf c : Nat) : Int)) hB.len, List.map_map, List.map_map]
    rw [List.filter_congr (q := fun x : Vbptai.Charge => x.state == 0 && Vbptai.nth b.orders x.owner == o) fun c _ => by rw [Bool.and_comm]; congr 1]
    rfl
  rw [lm] at ll
  refine s_retL (el_lst (ea_cons (ev_is (ev_sumN ll) (congrArg V.int (natSum_eq _))) ea_nil) (by show 1 ≤ 100000; decide)) fun p H4 np e4 h4 => ?_
  refine k p H4 ?_ ((ExtN.of e0).trans ((hidX x1).trans (ExtN.of e4))) ((hB.stay e4).tabS) h4
  intro u hu
  exact newX_back x1 np u (e0 _ _ hu)
end
end FB
-- B22
set_option Elab.async false
set_option linter.all false
set_option maxRecDepth 100000
set_option maxHeartbeats 3900000
namespace FB
open PySem PySem.Spec PyProof.Rows L2 Evl
open LamX NdefX
section
variable {K : PySem.W.Frag} {mg : Str → Option Value} {P : Program} {base : Heap} {w : World}
variable {σ : L2.St} {H H' : Hp} {A : RecA} {m : RecM} {s : Vbptai.State} {B : BkA} {b : Vbptai.Books} {n k d o : Nat} {D : Ends} {tz : TS} {te ta tb : TE}
theorem s_extendL {l : Addr} {xs zs : List V} (hl : H l = some (.lst xs)) (ha : Ev ta σ H (.ref l)) (he : EvL te σ H zs) (hz : xs.length + zs.length ≤ sizeLine) (k : ∀ H1, Ex H H1 → D.nx σ (upd H1 l (.lst (xs ++ zs)))) : tDrop (tBM K "list" rExtend ta (tCons te tNil)) D σ H := ha H (Ex.refl H) _ fun H1 e1 =>
  ⟨Or.inl ⟨rfl, xs, sq_of (e1 l _ hl)⟩, he H1 e1 _ fun b H2 nb e2 h2 => ⟨l, b, xs, zs, rfl, rfl, (e1.trans e2) _ _ hl, h2, hz, k H2 (e1.trans e2)⟩⟩
abbrev s_ask_opened : Stmt := topS 74
abbrev N_ask_opened : List Str := ["record", "call", "books", "opened", "answer", "charge"]
theorem sc_ask_opened : FnScope N_ask_opened ["record", "call"] (defScope s_ask_opened) := ⟨rfl, rfl, rfl, by decide +kernel, rfl, by decide +kernel, by decide +kernel⟩
def openedL (b : Vbptai.Books) (o : Nat) : List Vbptai.Charge := (Vbptai.inOrder b.charges).filterMap fun k => (Vbptai.chargeIn b k).bind fun c => if c.owner = o ∧ c.state = 0 then some c else none
def askOpened (s : Vbptai.State) (c : CallM) : List Int := let l := openedL (Vbptai.books s (natOf c "day")) (natOf c "owner")
  (l.length : Int) :: l.flatMap fun c => Vbptai.ints [c.num, Vbptai.restOf c, c.day + Vbptai.GRACE, c.day + Vbptai.LAPSE]
theorem fm_congr {α β : Type} {f g : α → Option β} : ∀ {l : List α}, (∀ x ∈ l, f x = g x) → l.filterMap f = l.filterMap g
  | [], _ => rfl
  | x :: l, h => by
    have ih := fm_congr (f := f) (g := g) (l := l) fun y hy => h y (List.mem_cons_of_mem _ hy)
    rw [List.filterMap_cons, List.filterMap_cons, h x (List.mem_cons_self ..), ih]
theorem opened_is (W : WfB b) (h : SortedC b) : openedL b o = b.charges.filter fun c => decide (c.owner = o) && isOpen c := by
  unfold openedL
  rw [inOrder_eq h, List.filterMap_map, ← List.filterMap_eq_filter]
  refine fm_congr fun c hc => ?_
  show (Vbptai.chargeIn b c.num).bind _ = _
  unfold Vbptai.chargeIn
  rw [find_num W.nums hc]
  show (if c.owner = o ∧ c.state = 0 then some c else none) = if (decide (c.owner = o) && isOpen c) = true then some c else none
  unfold isOpen
  by_cases z : c.owner = o ∧ c.state = 0
  · rw [if_pos z, if_pos (by rw [decide_eq_true z.1, decide_eq_true z.2]; rfl)]
  · rw [if_neg z, if_neg (fun w => z (by simpa using w))]
theorem ok_ask_opened (T : Tx K mg) (Y : Tw P w K) (Z : Tz K mg base) : Own P w K mg base CX0 9 "ask_opened" ["record", "call"] (spAsk K okOwner askOpened) := by
  refine own_mk T.d_ask_opened T.g_ask_opened (fun _ _ _ _ _ _ us hl => match us, hl with | [_, _], _ => rfl) fun fd F => ?_
  refine F.ok sc_ask_opened (fun vs H Q E h => by obtain ⟨_, _, _, _, _, _, _, rfl, _⟩ := h; rfl) (fun cdv A outer s H vs Q E hr h => ⟨_, PSs.nox
    (pss_cons (ps_set (i := 2) sc_ask_opened.nd rfl (Or.inl rfl) (pe_own (ok_books_on T Y Z) hr (by decide) pass0 (pa_cons (pv 0) (pa_cons (pe_dget (hu_of hr) (pe_fld (pv 1) rfl) pe_str (fun _ _ => rfl)) pa_nil))))
    (pss_cons (ps_set (i := 3) sc_ask_opened.nd rfl (Or.inl rfl) (pe_own (ok_open_charges_of T) hr (by decide) pass0 (pa_cons (pv 2) (pa_cons (pe_dget (hu_of hr) (pe_fld (pv 1) rfl) pe_str (fun _ _ => rfl)) pa_nil))))
    (pss_cons (ps_set (i := 4) sc_ask_opened.nd rfl (Or.inl rfl) (pe_lst (pa_cons (pe_callB call_len_seq (by rfl) T.b_len PySem.boot_len (pa_cons (pv 3) pa_nil)) pa_nil)))
    (pss_cons (ps_for PassesOwn.never rfl (pi_list (pv 3)) (pg_name (i := 5) sc_ask_opened.nd rfl (Or.inl rfl))
      (pss_one (ps_expr (pe_bm PySem.F.plainAttrs_list PySem.F.slot_list_extend PySem.F.type_list_extend mt_extend (pv 4) (pa_cons (pe_lst (pa_cons (pe_fld (pv 5) rfl) (pa_cons (pe_own (ok_rest_of T) hr (by decide) pass0 (pa_cons (pv 5) pa_nil)) (pa_cons (pe_op op_add (pe_fld (pv 5) rfl) (pe_cint T.c_DAYS_WITHOUT_SURCHARGE)) (pa_cons (pe_op op_add (pe_fld (pv 5) rfl) (pe_cint T.c_DAYS_BEFORE_LAPSE)) pa_nil))))) pa_nil)))))
    (pss_one (ps_ret (pv 4))))))), ?_⟩)
  obtain ⟨A, m, s, c, d, r, cm, rfl, hA, hT, hC, ⟨o1, o2, o3, o4⟩, k⟩ := h
  refine q_books hA hT (ea_cons (ev_var rfl) (ea_cons (cl_tl T hC (ev_var rfl) o2) ea_nil)) fun B H1 x1 hB W Kp => ?_
  have so := sorted_of (List.Pairwise.sublist List.filter_sublist hA.wide.evs) Kp
  unfold askOpened at k
  generalize Vbptai.books s (natOf cm "day") = b at *
  generalize ho : natOf cm "owner" = o at *
  have o1' : tl cm.told "owner" = some ((o : Nat) : Int) := by rw [← ho]; exact o1
  rw [opened_is W so] at k
  have hfew : b.charges.length ≤ 1000 := by have := W.few; omega
  have hC1 := hC.stayX (hidX x1)
  refine q_asgL (el_call (ea_cons (ev_var rfl) (ea_cons (cl_tl T hC1 (ev_var rfl) o1') ea_nil)) (spL_own (o := o) hB hfew)) fun po H2 npo e2 h2 => ?_
  have hB2 := hB.stay e2
  have lq : (ownP b B o).map (fun q => q.1) = b.charges.filter fun c => decide (c.owner = o) && isOpen c := by
    have := own_map (o := o) hB (fun c => c)
    rw [List.map_id'] at this
    exact this
  generalize hL : (b.charges.filter fun c => decide (c.owner = o) && isOpen c) = L at k lq
  have L60 : L.length ≤ 60 := by
    rw [← hL]
    exact Nat.le_trans (List.length_filter_le ..) W.few
  have ol : (ownP b B o).length = L.length := by rw [← lq, List.length_map]
  refine q_asgL (xs := [.int (L.length : Nat)]) (el_lst (ea_cons (ev_is (ev_lenL (ev_var rfl) (sq_of h2)) (by rw [List.length_map, ol])) ea_nil) (by show 1 ≤ 100000; decide)) fun pa H3 npa e3 h3 => ?_
  have hB3 := hB2.stay e3
  have popa : po ≠ pa := ne_of_none h2 npa
  have paS : pa ∉ B.S := fun z => by
    obtain ⟨u, hu⟩ := hB2.has z
    rw [hu] at npa
    cases npa
  have flen : ∀ l : List Vbptai.Charge, ((l.flatMap fun c => Vbptai.ints [c.num, Vbptai.restOf c, c.day + Vbptai.GRACE, c.day + Vbptai.LAPSE]).map V.int).length = 4 * l.length := fun l => by
    induction l with
    | nil => rfl
    | cons c l ih =>
      rw [List.flatMap_cons, List.map_append, List.length_append, ih, List.length_cons]
      show 4 + _ = _
      omega
  refine q_forLn (K := K) (xs := (ownP b B o).map refP) (ev_var rfl) (sq_of (e3 _ _ h2)) (fun i σ' H' => (∃ u, σ' = [some (.ref A.R), some (.ref c), some (.ref B.R), some (.ref po), some (.ref pa), u]) ∧ ExB pa H3 H' ∧ H' pa = some (.lst (.int (L.length : Nat) :: ((L.take i).flatMap fun c => Vbptai.ints [c.num, Vbptai.restOf c, c.day + Vbptai.GRACE, c.day + Vbptai.LAPSE]).map V.int)))
    (fun H4 e4 => ⟨⟨_, rfl⟩, fun b o _ h => e4 b o h, e4 _ _ h3⟩) (fun i σ' H' _ h => sq_of (h.2.1 _ _ popa (e3 _ _ h2))) (fun i v σ' H' hv h => ?_) (fun σ' H' h => ?_)
  · obtain ⟨⟨u, rfl⟩, eb, hp⟩ := h
    obtain ⟨q, hq, rfl⟩ := map_at hv
    have hqL : L[i]? = some q.1 := by
      rw [← lq, List.getElem?_map, hq]
      rfl
    have hm := own_mem (List.mem_of_getElem? hq)
    have hc : H' q.2.1 = some (chO K q.2.2 q.1) := eb _ _ (fun z => paS (by rw [← z]; exact hB3.asS hm)) (hB3.ch hm)
    refine s_extendL (zs := (Vbptai.ints [q.1.num, Vbptai.restOf q.1, q.1.day + Vbptai.GRACE, q.1.day + Vbptai.LAPSE]).map V.int) hp (ev_var rfl) (el_lst (ea_cons (ch_number T hc (ev_var rfl)) (ea_cons (ev_is (ev_call (ea_cons (ev_var rfl) ea_nil) (spV_rest hc)) (rest_cast (W.pay _ (zip_fst hm)))) (ea_cons (ev_op (ch_day T hc (ev_var rfl)) ev_c rv_I0) (ea_cons (ev_op (ch_day T hc (ev_var rfl)) ev_c rv_I0) ea_nil)))) (by show 4 ≤ 100000; decide)) ?_ fun H4 e4 => ⟨⟨_, rfl⟩, fun b o hb hbo => ?_, ?_⟩
    · rw [List.length_cons, flen]
      show 4 * (L.take i).length + 1 + 4 ≤ sizeLine
      have : (L.take i).length ≤ 60 := by rw [List.length_take]; omega
      exact Nat.le_trans (show _ ≤ 1000 by omega) (by decide)
    · rw [upd_ne hb]
      exact e4 _ _ (eb b o hb hbo)
    · rw [upd_same, take_one hqL, List.flatMap_append, List.map_append, List.flatMap_cons, List.flatMap_nil, List.append_nil]
      rfl
  · obtain ⟨⟨u, rfl⟩, eb, hp⟩ := h
    rw [List.length_map, ol, List.take_length] at hp
    have x3 : ExtN H (hid B.S H3) := x1.trans (ExtN.of (hid_mono (e2.trans e3)))
    have nx : NewX H pa := newX_back x1 (fresh_back e2 npa)
    have tk : TabS (hid [pa] H3) (tabP K) lamQ := TabS.hide hB3.tabS fun a ha => by
      rw [List.mem_singleton.mp ha]
      exact ⟨_, h3, lst_tab.1, fun c => lst_tab.2 c _⟩
    have eh : Ex (hid [pa] H3) H' := fun b o hb => by
      obtain ⟨b1, b2⟩ := hid_of hb
      exact eb b o (fun z => b1 (by rw [z]; exact List.mem_cons_self ..)) b2
    refine s_ret (ev_var rfl) fun H5 e5 => k pa H5 nx (fun b o hb nt => ?_) ((tk.ext eh).ext e5) (e5 _ _ hp)
    refine e5 _ _ (eb b o (fun z => ?_) (hid_le _ _ (x3 b o hb nt)))
    rw [z] at hb
    obtain ⟨ps, e⟩ := nx o hb
    exact nt ps e
end
end FB
-- B23
set_option Elab.async false
set_option linter.all false
set_option maxRecDepth 100000
set_option maxHeartbeats 3900000
namespace FB
open PySem PySem.Spec PyProof.Rows L2 Evl
open LamX NdefX
section
variable {K : PySem.W.Frag} {mg : Str → Option Value} {P : Program} {base : Heap} {w : World}
abbrev s_ask : Stmt := topS 76
abbrev N_ask : List Str := ["record", "call", "asker"]
theorem sc_ask : FnScope N_ask ["record", "call"] (defScope s_ask) := ⟨rfl, rfl, rfl, by decide +kernel, rfl, by decide +kernel, by decide +kernel⟩
def askM (s : Vbptai.State) (c : CallM) : List Int := if c.n = 11 then askAccount s c else if c.n = 12 then askCharged s c else if c.n = 13 then askOwner s c else if c.n = 14 then askLand s c else if c.n = 15 then askTotals s c else if c.n = 16 then askPrice s c else if c.n = 17 then askText s c else if c.n = 18 then askEvents s c else if c.n = 19 then askOwed s c else askOpened s c
def okAsk (s : Vbptai.State) (c : CallM) : Prop := (c.n = 11 ∧ okAccount s c) ∨ (c.n = 12 ∧ okCharged s c) ∨ (c.n = 13 ∧ okOwner s c) ∨ (c.n = 14 ∧ okLand s c) ∨ (c.n = 15 ∧ okDay s c) ∨ (c.n = 16 ∧ okPrice s c) ∨ (c.n = 17 ∧ okDay s c) ∨ c.n = 18 ∨ (c.n = 19 ∧ okAccount s c) ∨ (c.n = 20 ∧ okOwner s c)
theorem ask_nodup : (askT.map fun q => (Sum.inl q.1 : Key)).Nodup := by decide
theorem ok_ask (T : Tx K mg) (Y : Tw P w K) (Z : Tz K mg base) : Own P w K mg base CX0 10 "ask" ["record", "call"] (spAsk K okAsk askM) := by
  refine own_mk T.d_ask T.g_ask (fun _ _ _ _ _ _ us hl => match us, hl with | [_, _], _ => rfl) fun fd F => ?_
  refine F.ok sc_ask (fun vs H Q E h => by obtain ⟨_, _, _, _, _, _, _, rfl, _⟩ := h; rfl) (fun cdv A outer s H vs Q E hr h => ⟨_, PSs.nox
    (pss_cons (ps_set (i := 2) sc_ask.nd rfl (Or.inl rfl) (pe_kget (pe_cref T.g_ASKERS) (pe_fld (pv 1) rfl) (fun _ _ => rfl)))
    (pss_one (ps_ret (pe_callH (i := 2) hr (by rfl) (Or.inl rfl) (pa_cons (pv 0) (pa_cons (pv 1) pa_nil)))))), ?_⟩)
  obtain ⟨A, m, s, c, d, r, cm, rfl, hA, hT, hC, hok, k⟩ := h
  obtain ⟨as, has, hd, ht⟩ := Y.sk
  have go : ∀ (x : Str) (ok : Vbptai.State → CallM → Prop) (f : Vbptai.State → CallM → List Int), (cm.n, x) ∈ askT → Held P w K mg base 9 (He.ga K x) (spAsk K ok f) → ok s cm → askM s cm = f s cm → tSeq (tAsg (tKGet P w K (tC (.ref (He.ga K "ASKERS"))) (tFld K (tVar 1) "number")) (gName 2)) (tRet (tCallH P w K mg base 9 2 (tCons (tVar 0) (tCons (tVar 1) tNil)))) { nx := fun _ H' => Q .non H', rt := Q } (L2.start N_ask [.ref A.R, .ref c]) H := fun x ok f hm hH ho hf => by
    obtain ⟨a, ha, hv⟩ := valV_tab (key := fun q : Int × Str => (Sum.inl q.1 : Key)) has ask_nodup hm
    have hx := ht _ ha
    dsimp only at hx
    rw [hx] at hv
    rw [hf] at k
    refine q_asg (ev_kget (k := Sum.inl cm.n) ev_c (cl_number T hC (ev_var rfl)) hd hv) fun H1 e1 => ?_
    exact ⟨_, _, rfl, hH, (ea_cons (ev_var rfl) (ea_cons (ev_var rfl) ea_nil) : EvA _ _ H1 [.ref A.R, .ref c]) H1 (Ex.refl _) _ fun H2 e2 => ⟨A, m, s, c, d, r, cm, rfl, hA.stay (e1.trans e2), hT.ext (e1.trans e2), hC.stay (e1.trans e2), ho, fun p H3 np x3 t3 h3 => k p H3 (fun o ho => np o ((e1.trans e2) _ _ ho)) ((ExtN.of (e1.trans e2)).trans x3) t3 h3⟩⟩
  rcases hok with ⟨hn, ho⟩ | ⟨hn, ho⟩ | ⟨hn, ho⟩ | ⟨hn, ho⟩ | ⟨hn, ho⟩ | ⟨hn, ho⟩ | ⟨hn, ho⟩ | hn | ⟨hn, ho⟩ | ⟨hn, ho⟩
  · exact go "ask_account" _ _ (by rw [hn]; decide) ((ok_ask_account T Y Z).held (by decide)) ho (by unfold askM; rw [hn]; rfl)
  · exact go "ask_charged" _ _ (by rw [hn]; decide) ((ok_ask_charged T Y Z).held (by decide)) ho (by unfold askM; rw [hn]; rfl)
  · exact go "ask_owner" _ _ (by rw [hn]; decide) ((ok_ask_owner T Y Z).held (by decide)) ho (by unfold askM; rw [hn]; rfl)
  · exact go "ask_land" _ _ (by rw [hn]; decide) ((ok_ask_land T Y Z).held (by decide)) ho (by unfold askM; rw [hn]; rfl)
  · exact go "ask_totals" _ _ (by rw [hn]; decide) ((ok_ask_totals T Y Z).held (by decide)) ho (by unfold askM; rw [hn]; rfl)
  · exact go "ask_price" _ _ (by rw [hn]; decide) ((ok_ask_price T).held (by decide)) ho (by unfold askM; rw [hn]; rfl)
  · exact go "ask_text" _ _ (by rw [hn]; decide) ((ok_ask_text T).held (by decide)) ho (by unfold askM; rw [hn]; rfl)
  · exact go "ask_events" _ _ (by rw [hn]; decide) ((ok_ask_events T).held (by decide)) trivial (by unfold askM; rw [hn]; rfl)
  · exact go "ask_owed" _ _ (by rw [hn]; decide) ((ok_ask_owed T Y Z).held (by decide)) ho (by unfold askM; rw [hn]; rfl)
  · exact go "ask_opened" _ _ (by rw [hn]; decide) ((ok_ask_opened T Y Z).held (by decide)) ho (by unfold askM; rw [hn]; rfl)
end
end FB
-- B24
set_option Elab.async false
set_option linter.all false
set_option maxRecDepth 100000
set_option maxHeartbeats 3900000
namespace FB
open PySem PySem.Spec PyProof.Rows L2 Evl
open LamX NdefX
section
variable {K : PySem.W.Frag} {mg : Str → Option Value} {P : Program} {base : Heap} {w : World}
variable {H H' : Hp} {A : RecA} {m : RecM} {s : Vbptai.State}
theorem RecAt.cells (h : RecAt K A H m) {a : Addr} (ha : a ∈ A.S) : ∃ o, H a = some o ∧ ((∃ xs, o = .lst xs) ∨ (∃ C dx fs, o = .ins C dx fs) ∨ ∃ kvs, o = .dK kvs) := by
  obtain ⟨_, o1, _⟩ := h.obj
  obtain ⟨_, o2, _⟩ := h.sch
  obtain ⟨_, o4, _⟩ := h.evs
  have o3 := h.sml
  unfold RecA.S at ha
  rcases mem_four ha with z | z | z | z
  · exact ⟨_, by rw [z]; exact o1, .inr (.inl ⟨_, _, _, rfl⟩)⟩
  · exact ⟨_, by rw [z]; exact o2, .inr (.inr ⟨_, rfl⟩)⟩
  · exact ⟨_, by rw [z]; exact o3, .inr (.inr ⟨_, rfl⟩)⟩
  · exact ⟨_, by rw [z]; exact o4, .inr (.inr ⟨_, rfl⟩)⟩
theorem RecAt.hideT (h : RecAt K A H m) (t : TabS H (tabP K) lamQ) : TabS (hid A.S H) (tabP K) lamQ := TabS.hide t fun a ha => by
  obtain ⟨o, h1, h2⟩ := h.cells ha
  have n := not_code h2
  exact ⟨o, h1, n.1, fun c => n.2 c _⟩
/-- both sides' states -/
abbrev Mo : Type := RecM × Vbptai.State
def spAnsX (K : PySem.W.Frag) (ok : Mo → CallM → Prop) (f : Mo → CallM → List Int × Mo) : Sp := fun vs H Q _ => ∃ (A : RecA) (x : Mo) (c d r : Addr) (cm : CallM), vs = [.ref A.R, .ref c] ∧ RecAt K A H x.1 ∧ TabS (hid A.S H) (tabP K) lamQ ∧ CallI K (hid A.S H) c d r cm ∧ ok x cm ∧
  ∀ p H2, NewX H p → ExtN (hid A.S H) (hid A.S H2) → TabS (hid A.S H2) (tabP K) lamQ → H2 p = some (.lst ((f x cm).1.map V.int)) → RecAt K A H2 (f x cm).2.1 → Q (.ref p) H2
def okAns (x : Mo) (c : CallM) : Prop := Rel x.1 x.2 ∧ Well x.2 ∧ Wide x.2 ∧ c.told.length ≤ 40000 ∧ c.row.length ≤ 40000 ∧ (numsS (x.1.weights.length : Int) c.told = true → bytesS c.n c.row = true → (c.n < 11 → okTell x.1 c) ∧ (¬ c.n < 11 → okAsk x.2 c))
def ansF (nx : Mo → CallM → Vbptai.State) (x : Mo) (c : CallM) : List Int × Mo := if numsS (x.1.weights.length : Int) c.told = true then (if bytesS c.n c.row = true then (if c.n < 11 then ([(tellM x.1 c).1], ((tellM x.1 c).2, nx x c)) else (askM x.2 c, x)) else ([-1], x)) else ([-3], x)
abbrev s_answer_to : Stmt := topS 124
abbrev N_answer_to : List Str := ["record", "call"]
theorem sc_answer_to : FnScope N_answer_to ["record", "call"] (defScope s_answer_to) := ⟨rfl, rfl, rfl, by decide +kernel, rfl, by decide +kernel, by decide +kernel⟩
theorem ok_answer_to (nx : Mo → CallM → Vbptai.State) (T : Tx K mg) (Y : Tw P w K) (Z : Tz K mg base) : Own P w K mg base CX0 20 "answer_to" ["record", "call"] (spAnsX K okAns (ansF nx)) := by
  refine own_mk T.d_answer_to T.g_answer_to (fun _ _ _ _ _ _ us hl => match us, hl with | [_, _], _ => rfl) fun fd F => ?_
  refine F.ok sc_answer_to (fun vs H Q E h => by obtain ⟨_, _, _, _, _, _, rfl, _⟩ := h; rfl) (fun cdv A outer s H vs Q E hr h => ⟨_, PSs.nox
    (pss_cons (ps_if (pt_not (pt_val (pe_own (ok_numbers_stand T Y) hr (by decide) pass0 (pa_cons (pv 1) (pa_cons (pe_callB call_len_seq (by rfl) T.b_len PySem.boot_len (pa_cons (pe_fld (pv 0) rfl) pa_nil)) pa_nil)))))
      (pss_one (ps_ret (pe_lst (pa_cons (pe_un un_neg pe_int) pa_nil))))
      pss_nil)
    (pss_cons (ps_if (pt_not (pt_val (pe_own (ok_bytes_stand T) hr (by decide) pass0 (pa_cons (pv 1) pa_nil))))
      (pss_one (ps_ret (pe_lst (pa_cons (pe_un un_neg pe_int) pa_nil))))
      pss_nil)
    (pss_cons (ps_if (pt_cmpR op_lt (pe_fld (pv 1) rfl) (pe_cint T.c_FIRST_ASKING) (nomark _))
      (pss_one (ps_ret (pe_lst (pa_cons (pe_own (ok_tell T Y) hr (by decide) pass0 (pa_cons (pv 0) (pa_cons (pv 1) pa_nil))) pa_nil))))
      pss_nil)
    (pss_one (ps_ret (pe_own (ok_ask T Y Z) hr (by decide) pass0 (pa_cons (pv 0) (pa_cons (pv 1) pa_nil)))))))), ?_⟩)
  obtain ⟨A, x, c, d, r, cm, rfl, hR, hT, hC, ⟨h1, h2, h3, h4, h5, h6⟩, k⟩ := h
  have hC0 := hC.stay hid_le
  have hT0 := hT.ext hid_le
  obtain ⟨lw, w1, w2⟩ := rd_weights (ta := tVar 0) (σ := [some (.ref A.R), some (.ref c)]) T hR (ev_var rfl)
  have wl : ((x.1.weights.map V.int).length : Int) = (x.1.weights.length : Int) := by rw [List.length_map]
  have cAt : ∀ {H1 : Hp}, Ex H H1 → CallAt K H1 c d r cm.n cm.told cm.row := fun e => by
    obtain ⟨dx, z1, z2, z3⟩ := hC0.stay e
    exact ⟨dx, z1, z2, sq_of z3⟩
  have fin : ∀ (i : Int) (H1 : Hp), Ex H H1 → (ansF nx x cm) = ([i], x) → ∀ {te : TE}, Ev te [some (.ref A.R), some (.ref c)] H1 (.int i) → tRet (tLst (tCons te tNil)) { nx := fun _ H' => Q .non H', rt := Q } [some (.ref A.R), some (.ref c)] H1 := fun i H1 e1 hf te hte => by
    rw [hf] at k
    exact s_retL (el_lst (ea_cons hte ea_nil) (by show 1 ≤ 100000; decide)) fun p H2 np e2 hp => k p H2 (newX_of (fresh_back e1 np)) (ExtN.of (hid_mono (e1.trans e2))) (hT.ext (hid_mono (e1.trans e2))) hp (hR.stay (e1.trans e2))
  refine q_when (et_not (et_B (ev_call (z := .bl (numsS (x.1.weights.length : Int) cm.told)) (ea_cons (ev_var rfl) (ea_cons (ev_is (ev_lenL w1 (sq_of (hid_le _ _ w2))) (congrArg V.int wl)) ea_nil)) fun H1 e Q q E => ⟨c, d, r, cm.n, _, cm.told, cm.row, rfl, cAt e, h4, fun H2 e2 => q H2 e2⟩))) (fun hb H1 e1 => ?_) (fun hb H1 e1 => ?_)
  · refine fin (-3) H1 e1 ?_ (ev_neg ev_c)
    unfold ansF
    rw [if_neg (by intro z; rw [z] at hb; cases hb)]
  have n1 : numsS (x.1.weights.length : Int) cm.told = true := by
    cases q : numsS (x.1.weights.length : Int) cm.told with
    | true => rfl
    | false =>
      rw [q] at hb
      cases hb
  refine q_when (et_not (et_B (ev_call (z := .bl (bytesS cm.n cm.row)) (ea_cons (ev_var rfl) ea_nil) fun H2 e Q q E => ⟨c, d, r, cm.n, cm.told, cm.row, rfl, cAt (e1.trans e), h5, fun H3 e3 => q H3 e3⟩))) (fun hb2 H2 e2 => ?_) (fun hb2 H2 e2 => ?_)
  · refine fin (-1) H2 (e1.trans e2) ?_ (ev_neg ev_c)
    unfold ansF
    rw [if_pos n1, if_neg (by intro z; rw [z] at hb2; cases hb2)]
  have n2 : bytesS cm.n cm.row = true := by
    cases q : bytesS cm.n cm.row with
    | true => rfl
    | false =>
      rw [q] at hb2
      cases hb2
  obtain ⟨g1, g2⟩ := h6 n1 n2
  have e12 := e1.trans e2
  refine q_when (b := decide (cm.n < 11)) (et_test (ev_op (cl_number T (hC0.stay e12) (ev_var rfl)) ev_c rv_cmp)) (fun hb3 H3 e3 => ?_) (fun hb3 H3 e3 => ?_)
  · have lt := of_decide_eq_true hb3
    have e13 := e12.trans e3
    have hf : ansF nx x cm = ([(tellM x.1 cm).1], ((tellM x.1 cm).2, nx x cm)) := by
      unfold ansF
      rw [if_pos n1, if_pos n2, if_pos lt]
    rw [hf] at k
    have hargs : EvA (tCons (tVar 0) (tCons (tVar 1) tNil)) [some (.ref A.R), some (.ref c)] H3 [.ref A.R, .ref c] := ea_cons (ev_var rfl) (ea_cons (ev_var rfl) ea_nil)
    show tCons (tVar 0) (tCons (tVar 1) tNil) [some (.ref A.R), some (.ref c)] H3 fun vs H4 => spTell K okTell tellM (vs ++ []) H4 (fun v H5 => ([v] : List V).length ≤ sizeLine ∧ ∀ p, H5 p = none → Q (.ref p) (upd H5 p (.lst [v]))) E0
    refine hargs H3 (Ex.refl _) _ fun H4 e4 => ?_
    rw [List.append_nil]
    have e14 := e13.trans e4
    refine ⟨A, x.1, c, d, r, cm, rfl, hR.stay e14, hC.stay (hid_mono e14), g1 lt, fun H5 e5 h5 => ⟨by show 1 ≤ sizeLine; decide, fun p np => ?_⟩⟩
    have e15 : ExS A.S H H5 := (ExS.of e14).trans e5
    have pS : p ∉ A.S := fun z => by
      obtain ⟨o, ho, _⟩ := h5.cells z
      rw [ho] at np
      cases np
    refine k p _ (newX_of ?_) (ExtN.of (e15.trans (ExS.of (Ex.new np)))) (hT.ext (e15.trans (ExS.of (Ex.new np)))) upd_same (h5.stay (Ex.new np))
    cases q : H p with
    | none => rfl
    | some o =>
      rw [e15.get pS q] at np
      cases np
  · have ge := of_decide_eq_false hb3
    have e13 := e12.trans e3
    have hf : ansF nx x cm = (askM x.2 cm, x) := by
      unfold ansF
      rw [if_pos n1, if_pos n2, if_neg ge]
    rw [hf] at k
    refine s_retC (ea_cons (ev_var rfl) (ea_cons (ev_var rfl) ea_nil)) fun H4 e4 => ⟨A, x.1, x.2, c, d, r, cm, rfl, ⟨hR.stay (e13.trans e4), h1, h2, h3⟩, hT0.ext (e13.trans e4), hC0.stay (e13.trans e4), g2 ge, fun p H5 np x5 t5 h5 => ?_⟩
    have hR5 := (hR.stay (e13.trans e4)).stayX x5
    exact k p H5 (fun o ho => np o ((e13.trans e4) _ _ ho)) ((ExtN.of (hid_mono (e13.trans e4))).trans (hid_monoX x5)) (hR5.hideT t5) h5 hR5
end
end FB
-- B25
set_option Elab.async false
set_option linter.all false
set_option maxRecDepth 100000
set_option maxHeartbeats 3900000
namespace FB
open PySem PySem.Spec PyProof.Rows L2 Evl
open LamX NdefX
section
variable {K : PySem.W.Frag} {mg : Str → Option Value} {P : Program} {base : Heap} {w : World}
variable {f : Mo → CallM → List Int × Mo}
def stX (f : Mo → CallM → List Int × Mo) : Mo → List CallM → Mo
  | m, [] => m
  | m, c :: r => stX f (f m c).2 r
def ansX (f : Mo → CallM → List Int × Mo) : Mo → List CallM → List Int
  | _, [] => []
  | m, c :: r => (((f m c).1.length : Nat) : Int) :: ((f m c).1 ++ ansX f (f m c).2 r)
theorem stX_snoc : ∀ (a : List CallM) (m : Mo) (c : CallM), stX f m (a ++ [c]) = (f (stX f m a) c).2
  | [], _, _ => rfl
  | x :: a, m, c => stX_snoc a _ c
theorem ansX_snoc : ∀ (a : List CallM) (m : Mo) (c : CallM), ansX f m (a ++ [c]) = ansX f m a ++ ((((f (stX f m a) c).1.length : Nat) : Int) :: (f (stX f m a) c).1)
  | [], m, c => by
    show _ :: ((f m c).1 ++ []) = _
    rw [List.append_nil]
    rfl
  | x :: a, m, c => by
    show _ :: ((f m x).1 ++ ansX f (f m x).2 (a ++ [c])) = (_ :: ((f m x).1 ++ ansX f (f m x).2 a)) ++ _
    rw [ansX_snoc a, List.cons_append, List.append_assoc]
    rfl
theorem ansX_app : ∀ (a b : List CallM) (m : Mo), (ansX f m a).length ≤ (ansX f m (a ++ b)).length
  | [], b, m => Nat.zero_le _
  | x :: a, b, m => by
    have := ansX_app a b (f m x).2
    show (_ :: ((f m x).1 ++ ansX f (f m x).2 a)).length ≤ (_ :: ((f m x).1 ++ ansX f (f m x).2 (a ++ b))).length
    rw [List.length_cons, List.length_cons, List.length_append, List.length_append]
    omega
theorem ansX_take {m : Mo} {cs : List CallM} (i : Nat) : (ansX f m (cs.take i)).length ≤ (ansX f m cs).length := by
  have := ansX_app (f := f) (cs.take i) (cs.drop i) m
  rw [List.take_append_drop] at this
  exact this
theorem exX_cons {S : List Addr} {g : Addr} {H H' : Hp} (e : ExtN (hid S H) (hid S H')) : ExtN (hid (g :: S) H) (hid (g :: S) H') := fun b o hb n => by
  obtain ⟨h1, h2⟩ := hid_of hb
  rw [hid_at h1]
  have h3 : b ∉ S := fun z => h1 (List.mem_cons_of_mem _ z)
  have := e b o (by rw [hid_at h3]; exact h2) n
  exact (hid_of this).2
theorem exX_upd {S : List Addr} {a : Addr} {H H' : Hp} {o : HO} (e : ExtN (hid S H) (hid S H')) (h : a ∈ S) : ExtN (hid S H) (hid S (upd H' a o)) := by
  rw [hid_upd h]
  exact e
theorem exX_get {S : List Addr} {b : Addr} {H H' : Hp} {o : HO} (e : ExtN (hid S H) (hid S H')) (h : b ∉ S) (hb : H b = some o) (n : ∀ ps, o ≠ .tbl ps) : H' b = some o := (hid_of (e b o (by rw [hid_at h]; exact hb) n)).2
theorem hid_two {S : List Addr} {g : Addr} {H : Hp} : hid [g] (hid S H) = hid (g :: S) H := funext fun b => by
  by_cases c : b ∈ g :: S
  · rw [hid_in c]
    by_cases d : b ∈ [g]
    · rw [hid_in d]
    · rw [hid_at d]
      rcases List.mem_cons.mp c with z | z
      · exact absurd (List.mem_singleton.mpr z) d
      · rw [hid_in z]
  · rw [hid_at c, hid_at (fun z => c (by rw [List.mem_singleton.mp z]; exact List.mem_cons_self ..)), hid_at (fun z => c (List.mem_cons_of_mem _ z))]
abbrev s_answers : Stmt := topS 125
abbrev N_answers : List Str := ["calls", "record", "given", "call", "answer"]
theorem sc_answers : FnScope N_answers ["calls"] (defScope s_answers) := ⟨rfl, rfl, rfl, by decide +kernel, rfl, by decide +kernel, by decide +kernel⟩
def m0 : RecM := ⟨[], [], [1], []⟩
def x0 : Mo := (m0, Vbptai.start)
def sp_answers (K : PySem.W.Frag) (ok : Mo → CallM → Prop) (f : Mo → CallM → List Int × Mo) : Sp := fun vs H Q _ => ∃ (a : Addr) (l : List Int) (n : Nat) (raw : List (List (List Int))), vs = [.ref a] ∧ TabS H (tabP K) lamQ ∧ SqL K H a (l.map V.int) ∧ l.length ≤ 40000 ∧ PyFlat.calls shapeW n l = some raw ∧
  (∀ i c, (raw.map callM)[i]? = some c → ok (stX f x0 ((raw.map callM).take i)) c) ∧ (ansX f x0 (raw.map callM)).length ≤ 10000000 ∧ ∀ p H2, H p = none → ExtN H H2 → H2 p = some (.lst ((ansX f x0 (raw.map callM)).map V.int)) → Q (.ref p) H2
theorem ok_answers' {ok : Mo → CallM → Prop} (T : Tx K mg) (Y : Tw P w K) (Z : Tz K mg base) (ok_answer_to : ∀ (T : Tx K mg) (Y : Tw P w K) (Z : Tz K mg base), Own P w K mg base CX0 20 "answer_to" ["record", "call"] (spAnsX K ok f)) : Own P w K mg base CX0 21 "answers" ["calls"] (sp_answers K ok f) := by
  refine own_mk T.d_answers T.g_answers (fun _ _ _ _ _ _ us hl => match us, hl with | [_], _ => rfl) fun fd F => ?_
  refine F.ok sc_answers (fun vs H Q E h => by obtain ⟨a, _, _, _, rfl, _⟩ := h; rfl) (fun cdv A outer s H vs Q E hr h => ⟨_, PSs.nox
    (pss_cons (ps_set (i := 1) sc_answers.nd rfl (Or.inl rfl) (pe_ownMk0 (mk_Record T) hr (by decide) pass0))
    (pss_cons (ps_set (i := 2) sc_answers.nd rfl (Or.inl rfl) (pe_lst pa_nil))
    (pss_cons (ps_for PassesOwn.never rfl (pi_list (pe_own (ok_split_calls T Y) hr (by decide) pass0 (pa_cons (pv 0) pa_nil))) (pg_name (i := 3) sc_answers.nd rfl (Or.inl rfl))
      (pss_cons (ps_lock (ps_set (i := 4) sc_answers.nd rfl (Or.inl rfl) (pe_own (ok_answer_to T Y Z) hr (by decide) pass0 (pa_cons (pv 1) (pa_cons (pv 3) pa_nil)))))
      (pss_cons (ps_expr (pe_bm PySem.F.plainAttrs_list PySem.F.slot_list_append PySem.F.type_list_append mt_append (pv 2) (pa_cons (pe_callB call_len_seq (by rfl) T.b_len PySem.boot_len (pa_cons (pv 4) pa_nil)) pa_nil)))
      (pss_one (ps_expr (pe_bm PySem.F.plainAttrs_list PySem.F.slot_list_extend PySem.F.type_list_extend mt_extend (pv 2) (pa_cons (pv 4) pa_nil)))))))
    (pss_one (ps_ret (pv 2)))))), ?_⟩)
  obtain ⟨a, l, n, raw, rfl, hT, hS, hz, hraw, hok, hlen, k⟩ := h
  refine q_asgQ (Pr := fun v H1 H2 => ∃ R dx ds dm lw de, v = .ref R ∧ H1 R = none ∧ H1 dx = none ∧ H1 ds = none ∧ H1 dm = none ∧ H1 lw = none ∧ H1 de = none ∧ RecAt K ⟨R, dx, ds, dm, de⟩ H2 m0) (fun H1 e1 Q q => ?_) fun v H1 e1 hv => ?_
  · intro R dx nR nd ne
    refine ⟨R, dx, rfl, upd_same, fun H2 ds dm lw de eb h1 h2 h3 h4 n1 n2 n3 g1 g2 g3 g4 g5 => ⟨rfl, q _ H2 (fun b o hb => ?_) ⟨R, dx, ds, dm, lw, de, rfl, nR, nd, ?_, ?_, ?_, ?_, ?_⟩⟩⟩
    · have n1 : b ≠ R := ne_of_none hb nR
      have n2 : b ≠ dx := ne_of_none hb nd
      exact eb b o n1 (by rw [upd_ne n1, upd_ne n2]; exact hb)
    · exact (upd_none (upd_none h1).2).2
    · exact (upd_none (upd_none h2).2).2
    · exact (upd_none (upd_none h3).2).2
    · exact (upd_none (upd_none h4).2).2
    · have oS : ∀ {b : Addr}, H2 b = some (.lst [.int 1]) → b ∉ RecA.S ⟨R, dx, ds, dm, de⟩ := fun {b} hb z => by
        unfold RecA.S at z
        simp only [List.mem_cons, List.not_mem_nil, or_false] at z
        rcases z with z | z | z | z
        · rw [z, g5] at hb
          cases hb
        · rw [z, g1] at hb
          cases hb
        · rw [z, g2] at hb
          cases hb
        · rw [z, g3] at hb
          cases hb
      exact ⟨⟨lw, g5, by rw [hid_at (oS g4)]; exact g4⟩, ⟨[], g1, .nil⟩, g2, ⟨[], g3, .nil⟩, n1, n2, n3⟩
  obtain ⟨R, dx, ds, dm, lw, de, rfl, f1, f2, f3, f4, f5, f6, hR⟩ := hv
  refine q_asgL (el_lst ea_nil (by decide)) fun g H2 hg e2 h2 => ?_
  have hR2 := hR.stay e2
  have e12 := e1.trans e2
  generalize hA : (⟨R, dx, ds, dm, de⟩ : RecA) = A at hR hR2
  obtain rfl : R = A.R := by rw [← hA]
  have hRg : RecAt K A (hid [g] H2) m0 := hR.stay fun b o hb => by
    rw [hid_at (fun z => by
      rw [List.mem_singleton.mp z, hg] at hb
      cases hb)]
    exact e2 b o hb
  have gS : g ∉ A.S := hR2.out h2 ⟨fun _ z => (nomatch z), fun _ _ _ _ z => nomatch z⟩
  have fS : ∀ {b : Addr}, b ∈ A.S → H b = none := fun {b} hb => by
    rw [← hA] at hb
    unfold RecA.S at hb
    rcases mem_four hb with z | z | z | z
    · rw [z, ← hA]
      exact f1
    · rw [z]
      exact f3
    · rw [z]
      exact f4
    · rw [z]
      exact f6
  have sS : ∀ {b : Addr}, b ∈ A.S → ∃ o, H2 b = some o := fun {b} hb => by
    obtain ⟨_, o1, _⟩ := hR2.obj
    obtain ⟨_, o2, _⟩ := hR2.sch
    obtain ⟨_, o4, _⟩ := hR2.evs
    have o3 := hR2.sml
    unfold RecA.S at hb
    rcases mem_four hb with z | z | z | z
    · exact ⟨_, by rw [z]; exact o1⟩
    · exact ⟨_, by rw [z]; exact o2⟩
    · exact ⟨_, by rw [z]; exact o3⟩
    · exact ⟨_, by rw [z]; exact o4⟩
  have sG : ∀ {b : Addr}, b ∈ g :: A.S → ∃ o, H2 b = some o := fun {b} hb => by
    rcases List.mem_cons.mp hb with isG | inS
    · exact ⟨_, by rw [isG]; exact h2⟩
    · exact sS inS
  have tg : TabS (hid (g :: A.S) H2) (tabP K) lamQ := by
    rw [← hid_two]
    refine TabS.hide (hR2.hideT (hT.ext e12)) fun a ha => ?_
    rw [List.mem_singleton.mp ha]
    exact ⟨_, by rw [hid_at gS]; exact h2, lst_tab.1, fun c => lst_tab.2 c _⟩
  have nf : ∀ {b : Addr}, H2 b = none → b ∉ g :: A.S := fun {b} hb z => by
    obtain ⟨o, ho⟩ := sG z
    rw [ho] at hb
    cases hb
  refine q_forRel (Pr := fun p xs H1 H2 => H1 p = none ∧ Paired (CallF K H1 p H2) (raw.map callM) xs) (eq_callQ (ea_cons (ev_var rfl) ea_nil) (fun v H1 H2 H3 e h => by
      obtain ⟨p, xs, h1, h2, h3, h4⟩ := h
      exact ⟨p, xs, h1, h2, fresh_back e h3, Paired.mono (fun c v h => by obtain ⟨x, d, r, dx, q1, q2, q3, q4, q5⟩ := h; exact ⟨x, d, r, dx, q1, fresh_back e q2, fresh_back e q3, fresh_back e q4, q5⟩) h4⟩) fun H3 e3 Q q => ⟨a, l, n, raw, rfl, ex_l (e12.trans e3) hS, hz, hraw, fun p xs H4 hp e4 h4 hc => q _ H4 e4 ⟨p, xs, rfl, h4, hp, hc⟩⟩)
    (fun p xs i σ' H' => ∃ u3 u4, σ' = [some (.ref a), some (.ref A.R), some (.ref g), u3, u4] ∧ xs.length = (raw.map callM).length ∧ p ∉ g :: A.S ∧ H' p = some (.lst xs) ∧ H' g = some (.lst ((ansX f x0 ((raw.map callM).take i)).map V.int)) ∧ RecAt K A (hid [g] H') (stX f x0 ((raw.map callM).take i)).1 ∧ ExtN (hid (g :: A.S) H2) (hid (g :: A.S) H') ∧ TabS (hid (g :: A.S) H') (tabP K) lamQ ∧
      Paired (fun c v => ∃ x d r, v = V.ref x ∧ CallI K (hid (g :: A.S) H') x d r c) (raw.map callM) xs)
    (fun p xs H3 e3 h3 hp => ⟨_, _, rfl, hp.2.length.symm, nf hp.1, h3, e3 _ _ h2, hRg.stay (hid_mono e3), ExtN.of (hid_mono e3), tg.ext (hid_mono e3), Paired.mono (fun c v h => ?_) hp.2⟩)
    (fun p xs i σ' H' _ h => by obtain ⟨_, _, _, _, _, h1, _⟩ := h; exact sq_of h1) (fun p xs i x σ' H' hx h => ?_) (fun p xs σ' H' h => ?_)
  · obtain ⟨x, d, r, dx', rfl, n1, n2, n3, _, _, _, h1, h2', h3'⟩ := h
    exact ⟨x, d, r, rfl, dx', by rw [hid_at (nf n1)]; exact h1, by rw [hid_at (nf n2)]; exact h2', by rw [hid_at (nf n3)]; exact h3'⟩
  · obtain ⟨u3, u4, rfl, hxl, hpS, hp, hg', hR', eS, tS, hC⟩ := h
    obtain ⟨c, hc, x', d, r, rfl, hI⟩ := paired_atR hC hx
    have hgo := hok i c hc
    have htk : (raw.map callM).take (i + 1) = (raw.map callM).take i ++ [c] := take_one hc
    have hstep : ansX f x0 ((raw.map callM).take (i + 1)) = ansX f x0 ((raw.map callM).take i) ++ ((((f (stX f x0 ((raw.map callM).take i)) c).1.length : Nat) : Int) :: (f (stX f x0 ((raw.map callM).take i)) c).1) := by rw [htk, ansX_snoc]
    have hst : stX f x0 ((raw.map callM).take (i + 1)) = (f (stX f x0 ((raw.map callM).take i)) c).2 := by rw [htk, stX_snoc]
    have hbd := ansX_take (f := f) (m := x0) (cs := raw.map callM) (i + 1)
    rw [hstep, List.length_append, List.length_cons] at hbd
    have lk : ∀ (od : Obj) (H3 : Hp), Ex (upd H' g (.frz od (.lst ((ansX f x0 ((raw.map callM).take i)).map V.int)))) H3 → Ex (hid (g :: A.S) H') (hid A.S H3) := fun od H3 e3 b o hb => by
      obtain ⟨n1, n2⟩ := hid_of hb
      rw [hid_at (fun z => n1 (List.mem_cons_of_mem _ z))]
      refine e3 b o ?_
      rw [upd_ne (fun z => n1 (by rw [z]; exact List.mem_cons_self ..))]
      exact n2
    refine q_lockC hg' (fun HL => ea_cons (ev_var rfl) (ea_cons (ev_var rfl) ea_nil)) fun od H3 e3 => ⟨A, _, x', d, r, c, rfl, (hR'.stay (fun b o hb => ?_)).stay e3, tS.ext (lk od H3 e3), hI.stay (lk od H3 e3), hgo, fun q H4 nq e4 t4 hq hR4 => ?_⟩
    · obtain ⟨n1, n2⟩ := hid_of hb
      rw [upd_ne (fun z => n1 (by rw [z]; exact List.mem_cons_self ..))]
      exact n2
    have gp : p ≠ g := fun z => hpS (by rw [z]; exact List.mem_cons_self ..)
    have pS : p ∉ A.S := fun z => hpS (List.mem_cons_of_mem _ z)
    have hg3 := e3 _ _ upd_same
    have hg4 := exX_get (o := HO.frz od (.lst ((ansX f x0 ((raw.map callM).take i)).map V.int))) e4 gS hg3 fun _ z => nomatch z
    refine ⟨hg4, ?_⟩
    have hp4 := exX_get (o := HO.lst xs) e4 pS (e3 _ _ (by rw [upd_ne gp]; exact hp)) fun _ z => nomatch z
    have qg : q ≠ g := fun z => by
      obtain ⟨ps, e⟩ := nq _ (by rw [z]; exact hg3)
      cases e
    have eS4 : ExtN (hid (g :: A.S) H') (hid (g :: A.S) (upd H4 g (.lst ((ansX f x0 ((raw.map callM).take i)).map V.int)))) := exX_upd ((ExtN.of (((ExS.refl (S := g :: A.S) (H := H')).upd (List.mem_cons_self ..)).trans (ExS.of e3))).trans (exX_cons e4)) (List.mem_cons_self ..)
    have tS4 : TabS (hid (g :: A.S) H4) (tabP K) lamQ := by
      rw [← hid_two]
      refine TabS.hide t4 fun a ha => ?_
      rw [List.mem_singleton.mp ha]
      exact ⟨HO.frz od (.lst ((ansX f x0 ((raw.map callM).take i)).map V.int)), by rw [hid_at gS]; exact hg4, fun _ z => (nomatch z), fun c z => by unfold CodeO at z; cases z⟩
    have sz : ∀ n, n ≤ 10000001 → n < sizeLine := fun n h => Nat.lt_of_le_of_lt h (by decide)
    have hRg4 : RecAt K A (hid [g] (upd H4 g (.lst ((ansX f x0 ((raw.map callM).take i)).map V.int)))) (f (stX f x0 ((raw.map callM).take i)) c).2.1 := by
      rw [hid_upd (List.mem_cons_self ..)]
      exact hR4.noG hg4
    refine q_appQ upd_same (ev_var rfl) (eq_V (ev_lenL (ev_var rfl) (sq_of (by rw [upd_ne qg]; exact hq)))) (sz _ (by rw [List.length_map]; omega)) fun v H5 H6 e5 e6 hv => ?_
    obtain rfl := hv
    have e56 := e5.trans e6
    have hRg6 := hRg4.stay (hid_mono e56)
    refine s_extend upd_same (by rw [upd_ne qg]; exact e56 _ _ (by rw [upd_ne qg]; exact hq)) (ev_var rfl) (ev_var rfl) (Nat.le_of_lt (sz _ (by rw [List.length_append, List.length_map, List.length_map, List.length_singleton]; omega))) fun H7 e7 => ?_
    have hp6 := e56 _ _ (show upd H4 g _ p = some (.lst xs) by rw [upd_ne gp]; exact hp4)
    have ex7 : ∀ o, Ex (hid (g :: A.S) H4) (hid (g :: A.S) (upd H7 g o)) := fun o => by
      have := ((((ExS.refl (S := g :: A.S) (H := H4)).upd (o := HO.lst ((ansX f x0 ((raw.map callM).take i)).map V.int)) (List.mem_cons_self ..)).trans (ExS.of e56)).upd (o := HO.lst (((ansX f x0 ((raw.map callM).take i)).map V.int) ++ [V.int (((f (stX f x0 ((raw.map callM).take i)) c).1.map V.int).length : Nat)])) (List.mem_cons_self ..)).trans (ExS.of e7)
      exact this.upd (o := o) (List.mem_cons_self ..)
    have eS7 : ∀ o, ExtN (hid (g :: A.S) H') (hid (g :: A.S) (upd H7 g o)) := fun o => by
      have z := eS4
      rw [hid_upd (List.mem_cons_self ..)] at z
      exact z.trans (ExtN.of (ex7 o))
    refine ⟨_, _, rfl, hxl, hpS, ?_, ?_, ?_, eS.trans (eS7 _), tS4.ext (ex7 _), Paired.mono (fun c v h => ?_) hC⟩
    · rw [upd_ne gp]
      exact e7 _ _ (by rw [upd_ne gp]; exact hp6)
    · rw [upd_same, hstep, List.map_append, List.append_assoc, List.map_cons, List.length_map]
      rfl
    · rw [hid_upd (List.mem_cons_self ..), hst]
      refine RecAt.stay (hid_mono e7) ?_
      rw [hid_upd (List.mem_cons_self ..)]
      exact hRg6
    · obtain ⟨x, d, r, rfl, h⟩ := h
      exact ⟨x, d, r, rfl, h.stayX (eS7 _)⟩
  · obtain ⟨u3, u4, rfl, hxl, hpS, hp, hg', hR', eS, tS, hC⟩ := h
    rw [hxl, List.take_length] at hg'
    refine s_ret (ev_var rfl) fun H3 e3 => k g H3 (fresh_back e1 hg) (fun b o hb nt => ?_) (e3 _ _ hg')
    refine e3 _ _ (exX_get eS (fun z => ?_) (e12 _ _ hb) nt)
    rcases List.mem_cons.mp z with isG | inS
    · rw [isG, fresh_back e1 hg] at hb
      cases hb
    · rw [fS inS] at hb
      cases hb
end
end FB
-- Q1
set_option Elab.async false
set_option linter.all false
set_option maxRecDepth 100000
set_option maxHeartbeats 3900000
namespace FB
open PySem PySem.Spec PyProof.Rows L2 Evl
/-! ### the state stays as it has to be -/
section
variable {s : Vbptai.State} {e x y z : Vbptai.Event}
theorem before_iff : Vbptai.before x y = true ↔ x.day < y.day ∨ (x.day = y.day ∧ (Vbptai.rankOf x.deed < Vbptai.rankOf y.deed ∨ (Vbptai.rankOf x.deed = Vbptai.rankOf y.deed ∧ x.num < y.num))) := by
  unfold Vbptai.before
  simp only [Bool.or_eq_true, decide_eq_true_eq, Bool.and_eq_true, beq_iff_eq]
theorem before_trans (h1 : Vbptai.before x y = true) (h2 : Vbptai.before y z = true) : Vbptai.before x z = true := by
  rw [before_iff] at *
  omega
theorem before_total (h : ¬ Vbptai.before x y = true) (n : y.num ≠ x.num) : Vbptai.before y x = true := by
  rw [before_iff] at *
  omega
theorem mem_putEvent {l : List Vbptai.Event} : y ∈ Vbptai.putEvent x l ↔ y = x ∨ y ∈ l := (putEvent_perm x l).mem_iff.trans List.mem_cons
theorem sorted_putEvent : ∀ {l : List Vbptai.Event}, l.Pairwise (fun a b => Vbptai.before a b = true) → (∀ y ∈ l, y.num ≠ x.num) → (Vbptai.putEvent x l).Pairwise fun a b => Vbptai.before a b = true
  | [], _, _ => List.pairwise_singleton ..
  | y :: l, h, hn => by
    rcases List.pairwise_cons.mp h with ⟨h1, h2⟩
    unfold Vbptai.putEvent
    split
    · rename_i c
      refine (List.pairwise_cons.mpr ⟨fun z hz => ?_, h⟩)
      obtain rfl | hz := List.mem_cons.mp hz
      · exact c
      · exact before_trans c (h1 z hz)
    · rename_i c
      refine List.pairwise_cons.mpr ⟨fun z hz => ?_, sorted_putEvent h2 fun z hz => hn z (List.mem_cons_of_mem _ hz)⟩
      rcases mem_putEvent.mp hz with rfl | hz
      · exact before_total c (hn y (List.mem_cons_self ..))
      · exact h1 z hz
theorem deedOk_mono {s' : Vbptai.State} (h : deedOk s e) (hs : ∀ x ∈ s.events, x ∈ s'.events) : deedOk s' e := by
  unfold deedOk at *
  cases q : e.deed with
  | bounce k =>
    rw [q] at h
    obtain ⟨x, hx, r⟩ := h
    exact ⟨x, hs x hx, r⟩
  | refund k =>
    rw [q] at h
    obtain ⟨x, hx, r⟩ := h
    exact ⟨x, hs x hx, r⟩
  | _ =>
    rw [q] at h
    exact h
theorem Wide.add (W : Wide s) (hn : ∀ y ∈ s.events, y.num ≠ e.num) (hd : deedOk s e) : Wide { s with events := Vbptai.putEvent e s.events } := by
  have sub : ∀ x ∈ s.events, x ∈ Vbptai.putEvent e s.events := fun x hx => mem_putEvent.mpr (.inr hx)
  refine ⟨W.schs, sorted_putEvent W.evs hn, W.fees, W.text, W.lands, fun x hx => ?_⟩
  rcases mem_putEvent.mp hx with rfl | hx
  · exact deedOk_mono hd sub
  · exact deedOk_mono (W.deeds x hx) sub
theorem Wide.undo (W : Wide s) {k : Nat} (h : (s.events.all fun x => !Vbptai.about x k) = true) : Wide { s with events := s.events.filter fun x => x.num != k } := by
  refine ⟨W.schs, List.Pairwise.sublist List.filter_sublist W.evs, W.fees, W.text, W.lands, fun x hx => ?_⟩
  have hx1 := (List.mem_filter.mp hx).1
  have hd := W.deeds x hx1
  have ha : Vbptai.about x k = false := by
    have := List.all_eq_true.mp h x hx1
    simpa using this
  unfold deedOk at *
  unfold Vbptai.about at ha
  cases q : x.deed with
  | bounce j =>
    rw [q] at hd ha
    obtain ⟨y, hy, h1, h2, h3⟩ := hd
    have hjk : j ≠ k := by simpa using ha
    exact ⟨y, List.mem_filter.mpr ⟨hy, by rw [h1]; exact bne_iff_ne.mpr hjk⟩, h1, h2, h3⟩
  | refund j =>
    rw [q] at hd ha
    obtain ⟨y, hy, h1, h2, h3⟩ := hd
    have hjk : j ≠ k := by simpa using ha
    exact ⟨y, List.mem_filter.mpr ⟨hy, by rw [h1]; exact bne_iff_ne.mpr hjk⟩, h1, h2, h3⟩
  | _ =>
    rw [q] at hd
    exact hd
theorem mem_putSchedule {x y : Vbptai.Schedule} {l : List Vbptai.Schedule} : y ∈ Vbptai.putSchedule x l ↔ y = x ∨ y ∈ l := (putSchedule_perm x l).mem_iff.trans List.mem_cons
theorem sorted_putSchedule {x : Vbptai.Schedule} : ∀ {l : List Vbptai.Schedule}, l.Pairwise (fun a b => a.day < b.day) → (∀ y ∈ l, y.day ≠ x.day) → (Vbptai.putSchedule x l).Pairwise fun a b => a.day < b.day
  | [], _, _ => List.pairwise_singleton ..
  | y :: l, h, hn => by
    rcases List.pairwise_cons.mp h with ⟨h1, h2⟩
    unfold Vbptai.putSchedule
    split
    · rename_i c
      refine (List.pairwise_cons.mpr ⟨fun z hz => ?_, h⟩)
      obtain rfl | hz := List.mem_cons.mp hz
      · exact c
      · exact Nat.lt_trans c (h1 z hz)
    · rename_i c
      refine List.pairwise_cons.mpr ⟨fun z hz => ?_, sorted_putSchedule h2 fun z hz => hn z (List.mem_cons_of_mem _ hz)⟩
      rcases mem_putSchedule.mp hz with rfl | hz
      · have := hn y (List.mem_cons_self ..)
        omega
      · exact h1 z hz
theorem Wide.sched (W : Wide s) {x : Vbptai.Schedule} (hn : ∀ y ∈ s.schedules, y.day ≠ x.day) (hf : ∀ f ∈ x.fees, f.late ≤ 100 ∧ f.small ≤ 100 ∧ f.amount ≤ 999999999) (ht : x.text.length ≤ 2000) : Wide { s with schedules := Vbptai.putSchedule x s.schedules } := by
  refine ⟨sorted_putSchedule W.schs hn, W.evs, fun y hy => ?_, fun y hy => ?_, W.lands, fun e he => deedOk_mono (W.deeds e he) fun _ h => h⟩
  · rcases mem_putSchedule.mp hy with rfl | hy
    · exact hf
    · exact W.fees y hy
  · rcases mem_putSchedule.mp hy with rfl | hy
    · exact ht
    · exact W.text y hy
theorem Wide.small (W : Wide s) {l : List Nat} : Wide { s with smalls := l } := ⟨W.schs, W.evs, W.fees, W.text, W.lands, fun e he => deedOk_mono (W.deeds e he) fun _ h => h⟩
theorem Wide.land (W : Wide s) {l : List Nat} (h : 1 ≤ l.length ∧ l.length ≤ 10 ∧ (∀ x ∈ l, x ≤ 1000) ∧ ∃ x ∈ l, 0 < x) : Wide { s with lands := l } := ⟨W.schs, W.evs, W.fees, W.text, h, fun e he => deedOk_mono (W.deeds e he) fun _ h => h⟩
theorem Wide.start : Wide Vbptai.start := ⟨.nil, .nil, fun _ h => (nomatch h), fun _ h => (nomatch h), ⟨by decide, by decide, by decide, 1, by decide, by decide⟩, fun _ h => nomatch h⟩
end
/-! ### fees that are read -/
section
theorem numberOf_le {most n : Nat} {w : List Nat} (h : Vbptai.numberOf most w = some n) : n ≤ most := by
  unfold Vbptai.numberOf at h
  dsimp only at h
  split at h
  · rename_i c
    cases h
    exact c.2.2.2.2
  · cases h
theorem number_le {e most n : Nat} {ws r : List Vbptai.Word} (h : Vbptai.number e most ws = .ok (n, r)) : n ≤ most := by
  cases ws with
  | nil => cases h
  | cons w ws =>
    unfold Vbptai.number at h
    dsimp only at h
    cases q : Vbptai.numberOf most w.2 with
    | none =>
      rw [q] at h
      cases h
    | some m =>
      rw [q] at h
      cases h
      exact numberOf_le q
theorem tail_le {e most : Nat} {b : List Nat} {ws r : List Vbptai.Word} {o : Option Nat} (h : Vbptai.tail e most b ws = .ok (o, r)) : o.getD 0 ≤ most := by
  unfold Vbptai.tail at h
  split at h
  · cases q : Vbptai.must e b ws with
    | error z =>
      rw [q] at h
      cases h
    | ok z =>
      obtain ⟨u, w1⟩ := z
      rw [q] at h
      cases q2 : Vbptai.number e most w1 with
      | error z =>
        have h2 : (Vbptai.number e most w1 >>= fun x => _) = Except.ok (o, r) := h
        rw [q2] at h2
        cases h2
      | ok z =>
        obtain ⟨n, w2⟩ := z
        have h2 : (Vbptai.number e most w1 >>= fun x => Except.ok (some x.1, x.2)) = Except.ok (o, r) := h
        rw [q2] at h2
        cases h2
        exact number_le q2
  · cases h
    exact Nat.zero_le _
theorem bind_ok {ε α β : Type} {x : Except ε α} {f : α → Except ε β} {y : β} (h : (x >>= f) = .ok y) : ∃ a, x = .ok a ∧ f a = .ok y := by
  cases x with
  | error z => cases h
  | ok a => exact ⟨a, rfl, h⟩
theorem fee_ok {e : Nat} {ws r : List Vbptai.Word} {f : Vbptai.Fee} (h : Vbptai.fee e ws = .ok (f, r)) : f.late ≤ 100 ∧ f.small ≤ 100 ∧ f.amount ≤ 999999999 := by
  unfold Vbptai.fee at h
  obtain ⟨⟨_, w1⟩, _, h⟩ := bind_ok h
  obtain ⟨⟨nm, w2⟩, _, h⟩ := bind_ok h
  obtain ⟨⟨a, w3⟩, ha, h⟩ := bind_ok h
  obtain ⟨⟨o, w4⟩, _, h⟩ := bind_ok h
  obtain ⟨⟨l, w5⟩, hl, h⟩ := bind_ok h
  obtain ⟨⟨sm, w6⟩, hs, h⟩ := bind_ok h
  cases h
  exact ⟨tail_le hl, tail_le hs, number_le ha⟩
theorem fees_ok {e : Nat} : ∀ {n : Nat} {ws : List Vbptai.Word} {l : List Vbptai.Fee}, Vbptai.fees e n ws = .ok l → ∀ f ∈ l, f.late ≤ 100 ∧ f.small ≤ 100 ∧ f.amount ≤ 999999999
  | 0, _, _, h => by cases h
  | n + 1, ws, l, h => by
    unfold Vbptai.fees at h
    obtain ⟨⟨x, w1⟩, hx, h⟩ := bind_ok h
    dsimp only at h
    have fx := fee_ok hx
    split at h
    · cases h
      intro f hf
      rw [List.mem_singleton.mp hf]
      exact fx
    · obtain ⟨⟨_, w2⟩, _, h⟩ := bind_ok h
      obtain ⟨l2, hl, h⟩ := bind_ok h
      cases h
      intro f hf
      obtain rfl | hf := List.mem_cons.mp hf
      · exact fx
      · exact fees_ok hl f hf
theorem readFees_ok {t : List Nat} {l : List Vbptai.Fee} (h : Vbptai.readFees t = .ok l) : ∀ f ∈ l, f.late ≤ 100 ∧ f.small ≤ 100 ∧ f.amount ≤ 999999999 := fees_ok h
end
end FB
-- Q2
set_option Elab.async false
set_option linter.all false
set_option maxRecDepth 100000
set_option maxHeartbeats 3900000
namespace FB
open PySem PySem.Spec PyProof.Rows L2 Evl
section
variable {s s' : Vbptai.State} {a : Vbptai.Answer}
theorem need_ok {b : Bool} {e : Int} {u : Unit} (h : Vbptai.need b e = .ok u) : b = true := by
  unfold Vbptai.need at h
  split at h
  · assumption
  · cases h
theorem num_ok {n lo hi : Int} {k : Nat} (h : Vbptai.num n lo hi = .ok k) : lo ≤ n ∧ n ≤ hi ∧ k = n.toNat := by
  unfold Vbptai.num at h
  split at h
  · rename_i c
    cases h
    exact ⟨c.1, c.2, rfl⟩
  · cases h
theorem bytesIn_ok {t : List Int} {b : List Nat} (h : Vbptai.bytesIn t = .ok b) : b.length ≤ 2000 := by
  unfold Vbptai.bytesIn at h
  split at h
  · rename_i c
    cases h
    rw [List.length_map]
    exact c.1
  · cases h
theorem add_ok {k d : Nat} {x : Vbptai.Deed} (h : Vbptai.add s k d x = .ok (s', a)) : s' = { s with events := Vbptai.putEvent ⟨k, d, x⟩ s.events } ∧ ∀ y ∈ s.events, y.num ≠ k := by
  unfold Vbptai.add at h
  obtain ⟨_, h1, h⟩ := bind_ok h
  obtain ⟨_, _, h⟩ := bind_ok h
  cases h
  refine ⟨rfl, fun y hy z => ?_⟩
  have n := need_ok h1
  cases q : Vbptai.eventAt s k with
  | none => exact List.find?_eq_none.mp q y hy (by rw [z]; exact beq_self_eq_true k)
  | some e =>
    rw [q] at n
    cases n
theorem earlier_ok {q : Int} {f : Vbptai.Event → Bool} {e : Vbptai.Event} (h : Vbptai.earlier s q f = .ok e) : e ∈ s.events ∧ f e = true := by
  unfold Vbptai.earlier at h
  split at h
  · rename_i x hx
    split at h
    · rename_i c
      cases h
      split at hx
      · cases hx
      · exact ⟨List.mem_of_find?_eq_some hx, c⟩
    · cases h
  · cases h
theorem wide_add (W : Wide s) {k d : Nat} {x : Vbptai.Deed} (h : Vbptai.add s k d x = .ok (s', a)) (hd : deedOk s ⟨k, d, x⟩) : Wide s' := by
  obtain ⟨rfl, hn⟩ := add_ok h
  exact W.add hn hd
theorem wide_act (W : Wide s) (c : Vbptai.Call) (h : Vbptai.act s c = .ok (s', a)) : Wide s' := by
  cases c with
  | schedule d t =>
    unfold Vbptai.act at h
    obtain ⟨dd, _, h⟩ := bind_ok h
    obtain ⟨b, hb, h⟩ := bind_ok h
    cases q : Vbptai.readFees b with
    | error p =>
      rw [q] at h
      cases h
    | ok l =>
      rw [q] at h
      dsimp only at h
      obtain ⟨_, _, h⟩ := bind_ok h
      obtain ⟨_, _, h⟩ := bind_ok h
      obtain ⟨_, h6, h⟩ := bind_ok h
      obtain ⟨_, _, h⟩ := bind_ok h
      cases h
      refine W.sched (fun y hy => ?_) (readFees_ok q) (bytesIn_ok hb)
      have := List.all_eq_true.mp (need_ok h6) y hy
      simpa using this
  | small o x =>
    unfold Vbptai.act at h
    obtain ⟨_, _, h⟩ := bind_ok h
    obtain ⟨_, _, h⟩ := bind_ok h
    cases h
    exact W.small
  | lands l =>
    unfold Vbptai.act at h
    obtain ⟨_, h4, h⟩ := bind_ok h
    cases h
    have n := need_ok h4
    simp only [Bool.and_eq_true, decide_eq_true_eq, List.all_eq_true, List.any_eq_true] at n
    obtain ⟨⟨n1, n2⟩, n3, y, hy, n4⟩ := n
    refine W.land ⟨by rw [List.length_map]; exact n1, by rw [List.length_map]; exact n2, fun x hx => ?_, y.toNat, List.mem_map.mpr ⟨y, hy, rfl⟩, by omega⟩
    obtain ⟨z, hz, rfl⟩ := List.mem_map.mp hx
    have := n3 z hz
    omega
  | deposit k d aa n =>
    unfold Vbptai.act at h
    obtain ⟨_, _, h⟩ := bind_ok h
    obtain ⟨_, _, h⟩ := bind_ok h
    obtain ⟨ac, ha, h⟩ := bind_ok h
    obtain ⟨_, _, h⟩ := bind_ok h
    obtain ⟨a1, a2, a3⟩ := num_ok ha
    exact wide_add W h (show 1 ≤ ac ∧ ac ≤ 20 by omega)
  | bounce k d q =>
    unfold Vbptai.act at h
    obtain ⟨_, _, h⟩ := bind_ok h
    obtain ⟨_, _, h⟩ := bind_ok h
    obtain ⟨e, he, h⟩ := bind_ok h
    obtain ⟨_, h7, h⟩ := bind_ok h
    obtain ⟨_, _, h⟩ := bind_ok h
    obtain ⟨e1, e2⟩ := earlier_ok he
    exact wide_add W h ⟨e, e1, rfl, e2, of_decide_eq_true (need_ok h7)⟩
  | charge k d o u t =>
    unfold Vbptai.act at h
    obtain ⟨_, _, h⟩ := bind_ok h
    obtain ⟨_, _, h⟩ := bind_ok h
    obtain ⟨oo, ho, h⟩ := bind_ok h
    obtain ⟨uu, hu, h⟩ := bind_ok h
    obtain ⟨_, _, h⟩ := bind_ok h
    obtain ⟨a1, a2, a3⟩ := num_ok ho
    obtain ⟨b1, b2, b3⟩ := num_ok hu
    exact wide_add W h (show 1 ≤ oo ∧ oo ≤ 40 ∧ uu ≤ 10000 by omega)
  | pay k d o n =>
    unfold Vbptai.act at h
    obtain ⟨_, _, h⟩ := bind_ok h
    obtain ⟨_, _, h⟩ := bind_ok h
    obtain ⟨oo, ho, h⟩ := bind_ok h
    obtain ⟨_, _, h⟩ := bind_ok h
    obtain ⟨a1, a2, a3⟩ := num_ok ho
    exact wide_add W h (show 1 ≤ oo ∧ oo ≤ 40 by omega)
  | order k d aa o =>
    unfold Vbptai.act at h
    obtain ⟨_, _, h⟩ := bind_ok h
    obtain ⟨_, _, h⟩ := bind_ok h
    obtain ⟨ac, ha, h⟩ := bind_ok h
    obtain ⟨oo, ho, h⟩ := bind_ok h
    obtain ⟨a1, a2, a3⟩ := num_ok ha
    obtain ⟨b1, b2, b3⟩ := num_ok ho
    exact wide_add W h (show ac ≤ 20 ∧ 1 ≤ oo ∧ oo ≤ 40 by omega)
  | refund k d q =>
    unfold Vbptai.act at h
    obtain ⟨_, _, h⟩ := bind_ok h
    obtain ⟨_, _, h⟩ := bind_ok h
    obtain ⟨e, he, h⟩ := bind_ok h
    obtain ⟨_, h7, h⟩ := bind_ok h
    obtain ⟨e1, e2⟩ := earlier_ok he
    exact wide_add W h ⟨e, e1, rfl, e2, of_decide_eq_true (need_ok h7)⟩
  | closing k d =>
    unfold Vbptai.act at h
    obtain ⟨_, _, h⟩ := bind_ok h
    obtain ⟨_, _, h⟩ := bind_ok h
    exact wide_add W h trivial
  | undo k =>
    unfold Vbptai.act at h
    obtain ⟨e, he, h⟩ := bind_ok h
    obtain ⟨_, h7, h⟩ := bind_ok h
    cases h
    exact W.undo (need_ok h7)
  | account aa d =>
    unfold Vbptai.act at h
    obtain ⟨_, _, h⟩ := bind_ok h
    obtain ⟨_, _, h⟩ := bind_ok h
    cases h
    exact W
  | charged k d =>
    unfold Vbptai.act at h
    obtain ⟨dd, _, h⟩ := bind_ok h
    obtain ⟨e, _, h⟩ := bind_ok h
    split at h
    · cases h
    · cases h
      exact W
  | owner o d =>
    unfold Vbptai.act at h
    obtain ⟨_, _, h⟩ := bind_ok h
    obtain ⟨_, _, h⟩ := bind_ok h
    cases h
    exact W
  | land l d =>
    unfold Vbptai.act at h
    obtain ⟨_, _, h⟩ := bind_ok h
    obtain ⟨_, _, h⟩ := bind_ok h
    cases h
    exact W
  | totals d =>
    unfold Vbptai.act at h
    obtain ⟨_, _, h⟩ := bind_ok h
    cases h
    exact W
  | price d u x t =>
    unfold Vbptai.act at h
    obtain ⟨_, _, h⟩ := bind_ok h
    obtain ⟨_, _, h⟩ := bind_ok h
    obtain ⟨_, _, h⟩ := bind_ok h
    obtain ⟨_, _, h⟩ := bind_ok h
    split at h
    · cases h
    · cases h
      exact W
  | text d =>
    unfold Vbptai.act at h
    obtain ⟨_, _, h⟩ := bind_ok h
    split at h
    · cases h
    · cases h
      exact W
  | events =>
    unfold Vbptai.act at h
    cases h
    exact W
  | owed aa d =>
    unfold Vbptai.act at h
    obtain ⟨_, _, h⟩ := bind_ok h
    obtain ⟨_, _, h⟩ := bind_ok h
    cases h
    exact W
  | opened o d =>
    unfold Vbptai.act at h
    obtain ⟨_, _, h⟩ := bind_ok h
    obtain ⟨_, _, h⟩ := bind_ok h
    cases h
    exact W
theorem wide_step (W : Wide s) (c : List (List Int)) : Wide (Vbptai.step s c).1 := by
  unfold Vbptai.step
  cases Vbptai.decode c with
  | none => exact W
  | some x =>
    dsimp only
    cases q : Vbptai.act s x with
    | error e => exact W
    | ok y => exact wide_act (s' := y.1) (a := y.2) W x q
end
end FB
-- X1
set_option Elab.async false
set_option linter.all false
set_option maxRecDepth 100000
set_option maxHeartbeats 3900000
namespace FB
open PySem PySem.Spec PyProof.Rows L2 Evl
theorem all_there : True := trivial
end FB
-- Q3
set_option Elab.async false
set_option linter.all false
set_option maxRecDepth 100000
set_option maxHeartbeats 3900000
namespace FB
open PySem PySem.Spec PyProof.Rows L2 Evl
/-! ### the asking calls against the document -/
section
variable {m : RecM} {s : Vbptai.State} {nx : Mo → CallM → Vbptai.State}
/-- an asking call: the same answer, and it may be asked -/
def AskEq (nx : Mo → CallM → Vbptai.State) (m : RecM) (s : Vbptai.State) (c : CallM) (o : Out) : Prop := o = (s, (ansF nx (m, s) c).1) ∧ (ansF nx (m, s) c).2 = (m, s) ∧ (numsS (m.weights.length : Int) c.told = true → bytesS c.n c.row = true → okAsk s c)
def cA (n a d : Int) (x y : Str) : CallM := ⟨n, [(x, a), (y, d)], []⟩
theorem natOf_eq {c : CallM} {x : Str} {k : Int} (h : tl c.told x = some k) (h0 : 0 ≤ k) : natOf c x = k.toNat ∧ hasN c x := by
  have e : natOf c x = k.toNat := by
    unfold natOf
    rw [h]
    rfl
  refine ⟨e, ?_⟩
  unfold hasN
  rw [h, e, toNat_cast h0]
theorem account_ask (a d : Int) : AskEq nx m s (cA 11 a d "account" "day") (outOf s (Vbptai.act s (.account a d))) := by
  have t1 : tl (cA 11 a d "account" "day").told "account" = some a := by kernel_rfl
  have t2 : tl (cA 11 a d "account" "day").told "day" = some d := by kernel_rfl
  have hb : bytesS (cA 11 a d "account" "day").n (cA 11 a d "account" "day").row = true := rfl
  have hn : numsS (m.weights.length : Int) (cA 11 a d "account" "day").told = ((decide (1 ≤ a) && decide (a ≤ 20)) && (decide (0 ≤ d) && decide (d ≤ 100000))) := by
    show numsS _ [("account", a), ("day", d)] = _
    rw [nums2, r_account, r_day]
  have act : Vbptai.act s (.account a d) = if ((decide (1 ≤ a) && decide (a ≤ 20)) && (decide (0 ≤ d) && decide (d ≤ 100000))) = true then .ok (s, [0, Vbptai.nthInt (Vbptai.books s d.toNat).accounts a.toNat]) else .error (-3) := by
    show (Vbptai.num a 1 20 >>= fun a => Vbptai.num d 0 100000 >>= fun d => Except.ok (s, [0, Vbptai.nthInt (Vbptai.books s d).accounts a])) = _
    rw [num2]
  unfold AskEq ansF
  rw [hn, act]
  by_cases h : ((decide (1 ≤ a) && decide (a ≤ 20)) && (decide (0 ≤ d) && decide (d ≤ 100000))) = true
  · obtain ⟨h1, h2⟩ : (decide (1 ≤ a) && decide (a ≤ 20)) = true ∧ (decide (0 ≤ d) && decide (d ≤ 100000)) = true := by simpa only [Bool.and_eq_true] using h
    have e1 := ba2 h1
    have e2 := ba2 h2
    obtain ⟨n1, k1⟩ := natOf_eq t1 (by omega)
    obtain ⟨n2, k2⟩ := natOf_eq t2 e2.1
    rw [if_pos h, if_pos h, if_pos hb, if_neg (show ¬ (cA 11 a d "account" "day").n < 11 from (by decide : ¬ (11 : Int) < 11))]
    refine ⟨?_, rfl, fun _ _ => .inl ⟨rfl, k1, k2, by omega, by omega⟩⟩
    show (s, [0, Vbptai.nthInt (Vbptai.books s d.toNat).accounts a.toNat]) = (s, askAccount s (cA 11 a d "account" "day"))
    unfold askAccount
    rw [n1, n2]
  · rw [if_neg h, if_neg h]
    exact ⟨rfl, rfl, fun z => absurd z h⟩
end
end FB
-- Q4
set_option Elab.async false
set_option linter.all false
set_option maxRecDepth 100000
set_option maxHeartbeats 3900000
namespace FB
open PySem PySem.Spec PyProof.Rows L2 Evl
/-! ### the asking calls against the document -/
section
variable {m : RecM} {s : Vbptai.State} {nx : Mo → CallM → Vbptai.State}
theorem owner_ask (a d : Int) : AskEq nx m s (cA 13 a d "owner" "day") (outOf s (Vbptai.act s (.owner a d))) := by
  have t1 : tl (cA 13 a d "owner" "day").told "owner" = some a := by kernel_rfl
  have t2 : tl (cA 13 a d "owner" "day").told "day" = some d := by kernel_rfl
  have hb : bytesS (cA 13 a d "owner" "day").n (cA 13 a d "owner" "day").row = true := rfl
  have hn : numsS (m.weights.length : Int) (cA 13 a d "owner" "day").told = ((decide (1 ≤ a) && decide (a ≤ 40)) && (decide (0 ≤ d) && decide (d ≤ 100000))) := by
    show numsS _ [("owner", a), ("day", d)] = _
    rw [nums2, r_owner, r_day]
  have act : Vbptai.act s (.owner a d) = if ((decide (1 ≤ a) && decide (a ≤ 40)) && (decide (0 ≤ d) && decide (d ≤ 100000))) = true then .ok (s, (let b := Vbptai.books s d.toNat; let l := b.charges.filter fun c => c.owner == a.toNat; Vbptai.ints [Vbptai.sumNat ((l.filter fun c => c.state == 0).map Vbptai.restOf), Vbptai.nth b.credits a.toNat, (l.filter fun c => c.state == 2).length])) else .error (-3) := by
    show (Vbptai.num a 1 40 >>= fun a => Vbptai.num d 0 100000 >>= fun d => Except.ok (s, (let b := Vbptai.books s d; let l := b.charges.filter fun c => c.owner == a; Vbptai.ints [Vbptai.sumNat ((l.filter fun c => c.state == 0).map Vbptai.restOf), Vbptai.nth b.credits a, (l.filter fun c => c.state == 2).length]))) = _
    rw [num2]
  unfold AskEq ansF
  rw [hn, act]
  by_cases h : ((decide (1 ≤ a) && decide (a ≤ 40)) && (decide (0 ≤ d) && decide (d ≤ 100000))) = true
  · obtain ⟨h1, h2⟩ : (decide (1 ≤ a) && decide (a ≤ 40)) = true ∧ (decide (0 ≤ d) && decide (d ≤ 100000)) = true := by simpa only [Bool.and_eq_true] using h
    have e1 := ba2 h1
    have e2 := ba2 h2
    obtain ⟨n1, k1⟩ := natOf_eq t1 (by omega)
    obtain ⟨n2, k2⟩ := natOf_eq t2 e2.1
    rw [if_pos h, if_pos h, if_pos hb, if_neg (show ¬ (cA 13 a d "owner" "day").n < 11 from (by decide : ¬ (13 : Int) < 11))]
    refine ⟨?_, rfl, fun _ _ => .inr (.inr (.inl ⟨rfl, k1, k2, by omega, by omega⟩))⟩
    show (s, (let b := Vbptai.books s d.toNat; let l := b.charges.filter fun c => c.owner == a.toNat; Vbptai.ints [Vbptai.sumNat ((l.filter fun c => c.state == 0).map Vbptai.restOf), Vbptai.nth b.credits a.toNat, (l.filter fun c => c.state == 2).length])) = (s, askOwner s (cA 13 a d "owner" "day"))
    unfold askOwner
    rw [n1, n2]
  · rw [if_neg h, if_neg h]
    exact ⟨rfl, rfl, fun z => absurd z h⟩
theorem owed_ask (a d : Int) : AskEq nx m s (cA 19 a d "account" "day") (outOf s (Vbptai.act s (.owed a d))) := by
  have t1 : tl (cA 19 a d "account" "day").told "account" = some a := by kernel_rfl
  have t2 : tl (cA 19 a d "account" "day").told "day" = some d := by kernel_rfl
  have hb : bytesS (cA 19 a d "account" "day").n (cA 19 a d "account" "day").row = true := rfl
  have hn : numsS (m.weights.length : Int) (cA 19 a d "account" "day").told = ((decide (1 ≤ a) && decide (a ≤ 20)) && (decide (0 ≤ d) && decide (d ≤ 100000))) := by
    show numsS _ [("account", a), ("day", d)] = _
    rw [nums2, r_account, r_day]
  have act : Vbptai.act s (.owed a d) = if ((decide (1 ≤ a) && decide (a ≤ 20)) && (decide (0 ≤ d) && decide (d ≤ 100000))) = true then .ok (s, (let b := Vbptai.books s d.toNat; [(Vbptai.sumNat ((b.charges.filter fun c => c.state == 0 && Vbptai.nth b.orders c.owner == a.toNat).map Vbptai.restOf) : Int)])) else .error (-3) := by
    show (Vbptai.num a 1 20 >>= fun a => Vbptai.num d 0 100000 >>= fun d => Except.ok (s, (let b := Vbptai.books s d; [(Vbptai.sumNat ((b.charges.filter fun c => c.state == 0 && Vbptai.nth b.orders c.owner == a).map Vbptai.restOf) : Int)]))) = _
    rw [num2]
  unfold AskEq ansF
  rw [hn, act]
  by_cases h : ((decide (1 ≤ a) && decide (a ≤ 20)) && (decide (0 ≤ d) && decide (d ≤ 100000))) = true
  · obtain ⟨h1, h2⟩ : (decide (1 ≤ a) && decide (a ≤ 20)) = true ∧ (decide (0 ≤ d) && decide (d ≤ 100000)) = true := by simpa only [Bool.and_eq_true] using h
    have e1 := ba2 h1
    have e2 := ba2 h2
    obtain ⟨n1, k1⟩ := natOf_eq t1 (by omega)
    obtain ⟨n2, k2⟩ := natOf_eq t2 e2.1
    rw [if_pos h, if_pos h, if_pos hb, if_neg (show ¬ (cA 19 a d "account" "day").n < 11 from (by decide : ¬ (19 : Int) < 11))]
    refine ⟨?_, rfl, fun _ _ => .inr (.inr (.inr (.inr (.inr (.inr (.inr (.inr (.inl ⟨rfl, k1, k2, by omega, by omega⟩))))))))⟩
    show (s, (let b := Vbptai.books s d.toNat; [(Vbptai.sumNat ((b.charges.filter fun c => c.state == 0 && Vbptai.nth b.orders c.owner == a.toNat).map Vbptai.restOf) : Int)])) = (s, askOwed s (cA 19 a d "account" "day"))
    unfold askOwed
    rw [n1, n2]
  · rw [if_neg h, if_neg h]
    exact ⟨rfl, rfl, fun z => absurd z h⟩
theorem opened_ask (a d : Int) : AskEq nx m s (cA 20 a d "owner" "day") (outOf s (Vbptai.act s (.opened a d))) := by
  have t1 : tl (cA 20 a d "owner" "day").told "owner" = some a := by kernel_rfl
  have t2 : tl (cA 20 a d "owner" "day").told "day" = some d := by kernel_rfl
  have hb : bytesS (cA 20 a d "owner" "day").n (cA 20 a d "owner" "day").row = true := rfl
  have hn : numsS (m.weights.length : Int) (cA 20 a d "owner" "day").told = ((decide (1 ≤ a) && decide (a ≤ 40)) && (decide (0 ≤ d) && decide (d ≤ 100000))) := by
    show numsS _ [("owner", a), ("day", d)] = _
    rw [nums2, r_owner, r_day]
  have act : Vbptai.act s (.opened a d) = if ((decide (1 ≤ a) && decide (a ≤ 40)) && (decide (0 ≤ d) && decide (d ≤ 100000))) = true then .ok (s, (let l := openedL (Vbptai.books s d.toNat) a.toNat; (l.length : Int) :: l.flatMap fun c => Vbptai.ints [c.num, Vbptai.restOf c, c.day + Vbptai.GRACE, c.day + Vbptai.LAPSE])) else .error (-3) := by
    show (Vbptai.num a 1 40 >>= fun a => Vbptai.num d 0 100000 >>= fun d => Except.ok (s, (let l := openedL (Vbptai.books s d) a; (l.length : Int) :: l.flatMap fun c => Vbptai.ints [c.num, Vbptai.restOf c, c.day + Vbptai.GRACE, c.day + Vbptai.LAPSE]))) = _
    rw [num2]
  unfold AskEq ansF
  rw [hn, act]
  by_cases h : ((decide (1 ≤ a) && decide (a ≤ 40)) && (decide (0 ≤ d) && decide (d ≤ 100000))) = true
  · obtain ⟨h1, h2⟩ : (decide (1 ≤ a) && decide (a ≤ 40)) = true ∧ (decide (0 ≤ d) && decide (d ≤ 100000)) = true := by simpa only [Bool.and_eq_true] using h
    have e1 := ba2 h1
    have e2 := ba2 h2
    obtain ⟨n1, k1⟩ := natOf_eq t1 (by omega)
    obtain ⟨n2, k2⟩ := natOf_eq t2 e2.1
    rw [if_pos h, if_pos h, if_pos hb, if_neg (show ¬ (cA 20 a d "owner" "day").n < 11 from (by decide : ¬ (20 : Int) < 11))]
    refine ⟨?_, rfl, fun _ _ => .inr (.inr (.inr (.inr (.inr (.inr (.inr (.inr (.inr ⟨rfl, k1, k2, by omega, by omega⟩))))))))⟩
    show (s, (let l := openedL (Vbptai.books s d.toNat) a.toNat; (l.length : Int) :: l.flatMap fun c => Vbptai.ints [c.num, Vbptai.restOf c, c.day + Vbptai.GRACE, c.day + Vbptai.LAPSE])) = (s, askOpened s (cA 20 a d "owner" "day"))
    unfold askOpened
    rw [n1, n2]
  · rw [if_neg h, if_neg h]
    exact ⟨rfl, rfl, fun z => absurd z h⟩
end
end FB
-- Q5
set_option Elab.async false
set_option linter.all false
set_option maxRecDepth 100000
set_option maxHeartbeats 3900000
namespace FB
open PySem PySem.Spec PyProof.Rows L2 Evl
section
variable {m : RecM} {s : Vbptai.State} {nx : Mo → CallM → Vbptai.State}
def cD (n d : Int) : CallM := ⟨n, [("day", d)], []⟩
theorem totals_ask (d : Int) : AskEq nx m s (cD 15 d) (outOf s (Vbptai.act s (.totals d))) := by
  have t2 : tl (cD 15 d).told "day" = some d := by kernel_rfl
  have hb : bytesS (cD 15 d).n (cD 15 d).row = true := rfl
  have hn : numsS (m.weights.length : Int) (cD 15 d).told = (decide (0 ≤ d) && decide (d ≤ 100000)) := by
    show numsS _ [("day", d)] = _
    rw [nums1, r_day]
  have act : Vbptai.act s (.totals d) = if (decide (0 ≤ d) && decide (d ≤ 100000)) = true then .ok (s, let b := Vbptai.books s d.toNat; [0, b.income, Vbptai.sumInt b.accounts, (Vbptai.sumNat b.credits : Int), Vbptai.kept b, (b.out : Int), (Vbptai.sumNat b.handed : Int)]) else .error (-3) := by
    show (Vbptai.num d 0 100000 >>= fun d => Except.ok (s, let b := Vbptai.books s d; [0, b.income, Vbptai.sumInt b.accounts, (Vbptai.sumNat b.credits : Int), Vbptai.kept b, (b.out : Int), (Vbptai.sumNat b.handed : Int)])) = _
    rw [num_bind]
  unfold AskEq ansF
  rw [hn, act]
  by_cases h : (decide (0 ≤ d) && decide (d ≤ 100000)) = true
  · have e2 := ba2 h
    obtain ⟨n2, k2⟩ := natOf_eq t2 e2.1
    rw [if_pos h, if_pos h, if_pos hb, if_neg (show ¬ (cD 15 d).n < 11 from (by decide : ¬ (15 : Int) < 11))]
    refine ⟨?_, rfl, fun _ _ => .inr (.inr (.inr (.inr (.inl ⟨rfl, k2⟩))))⟩
    show (s, let b := Vbptai.books s d.toNat; [0, b.income, Vbptai.sumInt b.accounts, (Vbptai.sumNat b.credits : Int), Vbptai.kept b, (b.out : Int), (Vbptai.sumNat b.handed : Int)]) = (s, askTotals s (cD 15 d))
    unfold askTotals
    rw [n2]
  · rw [if_neg h, if_neg h]
    exact ⟨rfl, rfl, fun z => absurd z h⟩
theorem events_ask : AskEq nx m s ⟨18, [], []⟩ (outOf s (Vbptai.act s .events)) := by
  unfold AskEq ansF
  have hn : numsS (m.weights.length : Int) [] = true := rfl
  have hb : bytesS (18 : Int) [] = true := rfl
  rw [if_pos hn, if_pos hb, if_neg (by decide : ¬ (18 : Int) < 11)]
  refine ⟨?_, rfl, fun _ _ => .inr (.inr (.inr (.inr (.inr (.inr (.inr (.inl rfl)))))))⟩
  show (s, 0 :: Vbptai.ints (s.events.map fun e => e.num)) = (s, askEvents s ⟨18, [], []⟩)
  unfold askEvents Vbptai.ints
  rw [List.map_map]
  rfl
end
end FB
-- Q6
set_option Elab.async false
set_option linter.all false
set_option maxRecDepth 100000
set_option maxHeartbeats 3900000
namespace FB
open PySem PySem.Spec PyProof.Rows L2 Evl
section
variable {m : RecM} {s : Vbptai.State} {nx : Mo → CallM → Vbptai.State}
theorem text_ask (d : Int) : AskEq nx m s (cD 17 d) (outOf s (Vbptai.act s (.text d))) := by
  have t2 : tl (cD 17 d).told "day" = some d := by kernel_rfl
  have hb : bytesS (cD 17 d).n (cD 17 d).row = true := rfl
  have hn : numsS (m.weights.length : Int) (cD 17 d).told = (decide (0 ≤ d) && decide (d ≤ 100000)) := by
    show numsS _ [("day", d)] = _
    rw [nums1, r_day]
  have act : Vbptai.act s (.text d) = if (decide (0 ≤ d) && decide (d ≤ 100000)) = true then (match Vbptai.inForce s d.toNat with | none => .error (-5) | some x => .ok (s, (x.day : Int) :: Vbptai.ints x.text)) else .error (-3) := by
    show (Vbptai.num d 0 100000 >>= fun d => match Vbptai.inForce s d with | none => .error (-5) | some x => .ok (s, (x.day : Int) :: Vbptai.ints x.text)) = _
    rw [num_bind]
  unfold AskEq ansF
  rw [hn, act]
  by_cases h : (decide (0 ≤ d) && decide (d ≤ 100000)) = true
  · have e2 := ba2 h
    obtain ⟨n2, k2⟩ := natOf_eq t2 e2.1
    rw [if_pos h, if_pos h, if_pos hb, if_neg (show ¬ (cD 17 d).n < 11 from (by decide : ¬ (17 : Int) < 11))]
    refine ⟨?_, rfl, fun _ _ => .inr (.inr (.inr (.inr (.inr (.inr (.inl ⟨rfl, k2⟩))))))⟩
    show outOf s _ = (s, askText s (cD 17 d))
    unfold askText
    rw [n2]
    cases Vbptai.inForce s d.toNat <;> rfl
  · rw [if_neg h, if_neg h]
    exact ⟨rfl, rfl, fun z => absurd z h⟩
end
end FB
-- Q7
set_option Elab.async false
set_option linter.all false
set_option maxRecDepth 100000
set_option maxHeartbeats 3900000
namespace FB
open PySem PySem.Spec PyProof.Rows L2 Evl
section
variable {m : RecM} {s : Vbptai.State} {nx : Mo → CallM → Vbptai.State}
theorem land_ask (R : Rel m s) (a d : Int) : AskEq nx m s (cA 14 a d "land" "day") (outOf s (Vbptai.act s (.land a d))) := by
  have t1 : tl (cA 14 a d "land" "day").told "land" = some a := by kernel_rfl
  have t2 : tl (cA 14 a d "land" "day").told "day" = some d := by kernel_rfl
  have hb : bytesS (cA 14 a d "land" "day").n (cA 14 a d "land" "day").row = true := rfl
  have hw : (m.weights.length : Int) = (s.lands.length : Int) := by rw [R.lan, List.length_map]
  have hn : numsS (m.weights.length : Int) (cA 14 a d "land" "day").told = ((decide (1 ≤ a) && decide (a ≤ (s.lands.length : Int))) && (decide (0 ≤ d) && decide (d ≤ 100000))) := by
    show numsS _ [("land", a), ("day", d)] = _
    rw [nums2, r_land, r_day, hw]
  have act : Vbptai.act s (.land a d) = if ((decide (1 ≤ a) && decide (a ≤ (s.lands.length : Int))) && (decide (0 ≤ d) && decide (d ≤ 100000))) = true then .ok (s, [(Vbptai.nth (Vbptai.books s d.toNat).handed a.toNat : Int)]) else .error (-3) := by
    show (Vbptai.num a 1 (s.lands.length : Int) >>= fun a => Vbptai.num d 0 100000 >>= fun d => Except.ok (s, [(Vbptai.nth (Vbptai.books s d).handed a : Int)])) = _
    rw [num2]
  unfold AskEq ansF
  rw [hn, act]
  by_cases h : ((decide (1 ≤ a) && decide (a ≤ (s.lands.length : Int))) && (decide (0 ≤ d) && decide (d ≤ 100000))) = true
  · obtain ⟨h1, h2⟩ : (decide (1 ≤ a) && decide (a ≤ (s.lands.length : Int))) = true ∧ (decide (0 ≤ d) && decide (d ≤ 100000)) = true := by simpa only [Bool.and_eq_true] using h
    have e1 := ba2 h1
    have e2 := ba2 h2
    obtain ⟨n1, k1⟩ := natOf_eq t1 (by omega)
    obtain ⟨n2, k2⟩ := natOf_eq t2 e2.1
    rw [if_pos h, if_pos h, if_pos hb, if_neg (show ¬ (cA 14 a d "land" "day").n < 11 from (by decide : ¬ (14 : Int) < 11))]
    refine ⟨?_, rfl, fun _ _ => .inr (.inr (.inr (.inl ⟨rfl, k1, k2, by omega, by omega⟩)))⟩
    show (s, [(Vbptai.nth (Vbptai.books s d.toNat).handed a.toNat : Int)]) = (s, askLand s (cA 14 a d "land" "day"))
    unfold askLand
    rw [n1, n2]
  · rw [if_neg h, if_neg h]
    exact ⟨rfl, rfl, fun z => absurd z h⟩
end
end FB
-- Q8
set_option Elab.async false
set_option linter.all false
set_option maxRecDepth 100000
set_option maxHeartbeats 3900000
namespace FB
open PySem PySem.Spec PyProof.Rows L2 Evl
section
variable {m : RecM} {s : Vbptai.State} {nx : Mo → CallM → Vbptai.State}
theorem books_kept (Wd : Wide s) (We : Well s) (ev : Nat) : Kept (s.events.filter fun e => decide (e.day ≤ ev)) (Vbptai.books s ev) := by
  obtain ⟨_, _, h, _⟩ := at_is Wd We ev (daysAll s).length (Nat.le_refl _)
  have eA : atDay s ev (daysAll s).length = booksP s ev := by
    unfold atDay booksP
    rw [List.take_length]
  have eU : upTo s ev (daysAll s).length = s.events.filter fun e => decide (e.day ≤ ev) := by
    unfold upTo
    refine List.filter_congr fun e he => decide_eq_decide.mpr ?_
    rw [List.take_length]
    exact ⟨fun h => h.2, fun h => ⟨event_day he, h⟩⟩
  rw [eA, eU, books_is Wd We] at h
  exact h
theorem charge_none (Wd : Wide s) (We : Well s) {e : Vbptai.Event} {d : Nat} (he : e ∈ s.events) (h : d < e.day) : Vbptai.chargeIn (Vbptai.books s d) e.num = none := by
  refine List.find?_eq_none.mpr fun c hc z => ?_
  have hk := books_kept Wd We d
  have : (c.num, c.day) ∈ ndE (s.events.filter fun e => decide (e.day ≤ d)) := by
    rw [← show ndC _ = _ from hk]
    exact List.mem_map.mpr ⟨c, hc, rfl⟩
  obtain ⟨x, hx, hxe⟩ := List.mem_map.mp this
  have h1 := List.mem_filter.mp (List.mem_filter.mp hx).1
  have h2 : x.num = c.num := (Prod.mk.inj hxe).1
  have h3 : c.num = e.num := by simpa using z
  have h4 := nodup_inj We.nums x h1.1 e he (h2.trans h3)
  have h5 := of_decide_eq_true h1.2
  rw [h4] at h5
  omega
theorem charged_ask (Wd : Wide s) (We : Well s) (k d : Int) : AskEq nx m s (cA 12 k d "about" "day") (outOf s (Vbptai.act s (.charged k d))) := by
  have t1 : tl (cA 12 k d "about" "day").told "about" = some k := by kernel_rfl
  have t2 : tl (cA 12 k d "about" "day").told "day" = some d := by kernel_rfl
  have hb : bytesS (cA 12 k d "about" "day").n (cA 12 k d "about" "day").row = true := rfl
  have hn : numsS (m.weights.length : Int) (cA 12 k d "about" "day").told = (decide (0 ≤ d) && decide (d ≤ 100000)) := by
    show numsS _ [("about", k), ("day", d)] = _
    rw [nums2, r_about, r_day, Bool.true_and]
  have act : Vbptai.act s (.charged k d) = if (decide (0 ≤ d) && decide (d ≤ 100000)) = true then (Vbptai.earlier s k Vbptai.isCharge >>= fun e => match Vbptai.chargeIn (Vbptai.books s d.toNat) e.num with | none => .error (-7) | some c => .ok (s, Vbptai.ints [c.base, c.extra, c.paid, c.state])) else .error (-3) := by
    show (Vbptai.num d 0 100000 >>= fun d => Vbptai.earlier s k Vbptai.isCharge >>= fun e => match Vbptai.chargeIn (Vbptai.books s d) e.num with | none => .error (-7) | some c => .ok (s, Vbptai.ints [c.base, c.extra, c.paid, c.state])) = _
    rw [num_bind]
  unfold AskEq ansF
  rw [hn, act]
  by_cases h : (decide (0 ≤ d) && decide (d ≤ 100000)) = true
  · have e2 := ba2 h
    obtain ⟨n2, k2⟩ := natOf_eq t2 e2.1
    rw [if_pos h, if_pos h, if_pos hb, if_neg (show ¬ (cA 12 k d "about" "day").n < 11 from (by decide : ¬ (12 : Int) < 11))]
    refine ⟨?_, rfl, fun _ _ => .inr (.inl ⟨rfl, by rw [t1]; rfl, k2⟩)⟩
    show outOf s _ = (s, askCharged s (cA 12 k d "about" "day"))
    unfold askCharged
    rw [n2, t1, earlier_eq]
    show _ = (s, match s.events.find? (fun e => decide ((e.num : Int) = k)) with | none => _ | some e => _)
    rw [find_q]
    cases hf : findQ s k with
    | none => rfl
    | some e =>
      obtain ⟨he, _⟩ := findQ_num hf
      dsimp only
      cases hc : Vbptai.isCharge e with
      | false => rfl
      | true =>
        rw [if_pos rfl, if_pos rfl]
        show outOf s (match Vbptai.chargeIn (Vbptai.books s d.toNat) e.num with | none => .error (-7) | some c => .ok (s, Vbptai.ints [c.base, c.extra, c.paid, c.state])) = _
        by_cases hd : d.toNat < e.day
        · rw [if_pos hd, charge_none Wd We he hd]
          rfl
        · rw [if_neg hd]
          cases Vbptai.chargeIn (Vbptai.books s d.toNat) e.num <;> rfl
  · rw [if_neg h, if_neg h]
    exact ⟨rfl, rfl, fun z => absurd z h⟩
theorem num3 {α : Type} {k d a l1 u1 l2 u2 l3 u3 : Int} {f : Nat → Nat → Nat → Vbptai.Res α} : (Vbptai.num k l1 u1 >>= fun k => Vbptai.num d l2 u2 >>= fun d => Vbptai.num a l3 u3 >>= fun a => f k d a) =
    if ((decide (l1 ≤ k) && decide (k ≤ u1)) && ((decide (l2 ≤ d) && decide (d ≤ u2)) && (decide (l3 ≤ a) && decide (a ≤ u3)))) = true then f k.toNat d.toNat a.toNat else .error (-3) := by
  simp only [num_bind, if_and]
theorem ba3 {a b c : Bool} (h : (a && (b && c)) = true) : a = true ∧ b = true ∧ c = true := by
  rw [Bool.and_eq_true, Bool.and_eq_true] at h
  exact h
def c16 (d u x : Int) (t : List Int) : CallM := ⟨16, [("day", d), ("units", u), ("small", x)], t⟩
theorem price_ask (d u x : Int) (t : List Int) : AskEq nx m s (c16 d u x t) (outOf s (Vbptai.act s (.price d u x t))) := by
  have t1 : tl (c16 d u x t).told "day" = some d := by kernel_rfl
  have t2 : tl (c16 d u x t).told "units" = some u := by kernel_rfl
  have t3 : tl (c16 d u x t).told "small" = some x := by kernel_rfl
  have hn : numsS (m.weights.length : Int) (c16 d u x t).told = ((decide (0 ≤ d) && decide (d ≤ 100000)) && ((decide (0 ≤ u) && decide (u ≤ 10000)) && (decide (0 ≤ x) && decide (x ≤ 1)))) := by
    show numsS _ [("day", d), ("units", u), ("small", x)] = _
    rw [nums3, r_day, r_units, r_small]
  have e5 : ∀ (f : Vbptai.Bytes → Vbptai.Res (Vbptai.State × Vbptai.Answer)), ((Vbptai.bytesIn t >>= fun b => Vbptai.need (Vbptai.isName b) (-4) >>= fun _ => (pure b : Vbptai.Res Vbptai.Bytes)) >>= f) = (Vbptai.bytesIn t >>= fun b => if Vbptai.isName b = true then f b else .error (-4)) := fun f => by
    cases Vbptai.bytesIn t with
    | error e => rfl
    | ok b =>
      show ((Vbptai.need (Vbptai.isName b) (-4) >>= fun _ => (pure b : Vbptai.Res Vbptai.Bytes)) >>= f) = if Vbptai.isName b = true then _ else _
      cases Vbptai.isName b <;> rfl
  have act : Vbptai.act s (.price d u x t) = if ((decide (0 ≤ d) && decide (d ≤ 100000)) && ((decide (0 ≤ u) && decide (u ≤ 10000)) && (decide (0 ≤ x) && decide (x ≤ 1)))) = true then (if bytesS 16 t = true then (if Vbptai.isName (t.map Int.toNat) = true then (match Vbptai.feeOn s d.toNat (t.map Int.toNat) with | none => .error (-5) | some f => .ok (s, [(Vbptai.price f u.toNat (x.toNat == 1) : Int)])) else .error (-4)) else .error (-1)) else .error (-3) := by
    show (Vbptai.num d 0 100000 >>= fun d => Vbptai.num u 0 10000 >>= fun u => Vbptai.num x 0 1 >>= fun x => Vbptai.nameIn t >>= fun n => match Vbptai.feeOn s d n with | none => .error (-5) | some f => .ok (s, [(Vbptai.price f u (x == 1) : Int)])) = _
    rw [num3]
    congr 1
    show ((Vbptai.bytesIn t >>= fun b => Vbptai.need (Vbptai.isName b) (-4) >>= fun _ => (pure b : Vbptai.Res Vbptai.Bytes)) >>= fun n => match Vbptai.feeOn s d.toNat n with | none => .error (-5) | some f => .ok (s, [(Vbptai.price f u.toNat (x.toNat == 1) : Int)])) = _
    rw [e5, bytes_bind (.inr (.inr rfl))]
  unfold AskEq ansF
  rw [hn, act]
  by_cases h : ((decide (0 ≤ d) && decide (d ≤ 100000)) && ((decide (0 ≤ u) && decide (u ≤ 10000)) && (decide (0 ≤ x) && decide (x ≤ 1)))) = true
  · obtain ⟨h1, h2, h3⟩ := ba3 h
    obtain ⟨n1, k1⟩ := natOf_eq t1 (ba2 h1).1
    obtain ⟨n2, k2⟩ := natOf_eq t2 (ba2 h2).1
    obtain ⟨n3, k3⟩ := natOf_eq t3 (ba2 h3).1
    rw [if_pos h, if_pos h]
    rw [show bytesS (c16 d u x t).n (c16 d u x t).row = bytesS 16 t from rfl]
    cases hb : bytesS 16 t with
    | false => exact ⟨rfl, rfl, fun _ z => nomatch z⟩
    | true =>
      obtain ⟨hnn, hl⟩ := bytesS_nonneg (.inr (.inr rfl)) hb
      have hin : isNam t = Vbptai.isName (t.map Int.toNat) := by
        have := isNam_eq (t.map Int.toNat)
        rw [cI_toNat hnn] at this
        exact this
      rw [if_pos rfl, if_pos rfl, if_neg (show ¬ (c16 d u x t).n < 11 from (by decide : ¬ (16 : Int) < 11))]
      refine ⟨?_, rfl, fun _ _ => .inr (.inr (.inr (.inr (.inr (.inl ⟨rfl, k1, k2, k3, hnn, Nat.le_trans hl (by decide)⟩)))))⟩
      show outOf s _ = (s, askPrice s (c16 d u x t))
      unfold askPrice
      rw [n1, n2, n3]
      show _ = (s, if isNam t = true then (match Vbptai.feeOn s d.toNat (t.map Int.toNat) with | none => _ | some f => _) else _)
      rw [hin]
      cases Vbptai.isName (t.map Int.toNat) with
      | false => rfl
      | true =>
        rw [if_pos rfl, if_pos rfl]
        cases Vbptai.feeOn s d.toNat (t.map Int.toNat) <;> rfl
  · rw [if_neg h, if_neg h]
    exact ⟨rfl, rfl, fun z => absurd z h⟩
end
end FB
-- Q9
set_option Elab.async false
set_option linter.all false
set_option maxRecDepth 100000
set_option maxHeartbeats 3900000
namespace FB
open PySem PySem.Spec PyProof.Rows L2 Evl
/-! ### one call, over both states -/
section
variable {m : RecM} {s : Vbptai.State} {i : Nat} {raw : List (List Int)} {call : Vbptai.Call} {c : CallM}
/-- a call's rows, taken back -/
def rawOf (c : CallM) : List (List Int) := if c.n ∈ withListT then [c.n :: c.told.map (·.2), c.row] else [c.n :: c.told.map (·.2)]
def nxS (x : Mo) (c : CallM) : Vbptai.State := (Vbptai.step x.2 (rawOf c)).1
/-- what both states keep to, after so many calls -/
structure Both (i : Nat) (x : Mo) : Prop where
  rel : Rel x.1 x.2
  well : Well x.2
  wide : Wide x.2
  sml : x.1.smalls.length ≤ i
def StepOk (i : Nat) (x : Mo) (raw : List (List Int)) : Prop := (ansF nxS x (callM raw)).1 = (Vbptai.step x.2 raw).2 ∧ (ansF nxS x (callM raw)).2.2 = (Vbptai.step x.2 raw).1 ∧ Both (i + 1) (ansF nxS x (callM raw)).2 ∧ okAns x (callM raw)
theorem step_of (hd : Vbptai.decode raw = some call) : Vbptai.step s raw = outOf s (Vbptai.act s call) := by
  unfold Vbptai.step
  rw [hd]
  dsimp only
  cases Vbptai.act s call <;> rfl
theorem ask_step (B : Both i (m, s)) (hc : callM raw = c) (hd : Vbptai.decode raw = some call) (hn : ¬ c.n < 11) (l1 : c.told.length ≤ 40000) (l2 : c.row.length ≤ 40000) (h : AskEq nxS m s c (outOf s (Vbptai.act s call))) : StepOk i (m, s) raw := by
  obtain ⟨h1, h2, h3⟩ := h
  have hs : Vbptai.step s raw = outOf s (Vbptai.act s call) := step_of hd
  unfold StepOk
  rw [hc]
  show (ansF nxS (m, s) c).1 = (Vbptai.step s raw).2 ∧ (ansF nxS (m, s) c).2.2 = (Vbptai.step s raw).1 ∧ _
  rw [hs, h1, h2]
  exact ⟨rfl, rfl, ⟨B.rel, B.well, B.wide, Nat.le_succ_of_le B.sml⟩, B.rel, B.well, B.wide, l1, l2, fun a b => ⟨fun z => absurd z hn, fun _ => h3 a b⟩⟩
theorem tell_step (B : Both i (m, s)) (hc : callM raw = c) (hd : Vbptai.decode raw = some call) (hr : rawOf c = raw) (hn : c.n < 11) (hT : ∀ y, Vbptai.act s call = .ok y → ∃ n : Nat, y.2 = [(n : Int)]) (hS : Same m s (stepM tellM m c) (outOf s (Vbptai.act s call))) (hm : (tellM m c).2.smalls.length ≤ m.smalls.length + 1) (l1 : c.told.length ≤ 40000) (l2 : c.row.length ≤ 40000) (hok : numsS (m.weights.length : Int) c.told = true → bytesS c.n c.row = true → okTell m c) : StepOk i (m, s) raw := by
  have hs : Vbptai.step s raw = outOf s (Vbptai.act s call) := step_of hd
  have W2 : Wide (Vbptai.step s raw).1 := wide_step B.wide raw
  have keep : ∀ e : Int, e < 0 → (outOf s (Vbptai.act s call)).2 = [e] → (outOf s (Vbptai.act s call)).1 = s := fun e he h => by
    cases q : Vbptai.act s call with
    | error x => rfl
    | ok y =>
      obtain ⟨n, hy⟩ := hT y q
      rw [q] at h
      have h2 : y.2 = [e] := h
      rw [hy] at h2
      have := (List.cons.inj h2).1
      omega
  obtain ⟨a1, a2, a3⟩ := hS
  have okA : okAns (m, s) c := ⟨B.rel, B.well, B.wide, l1, l2, fun a b => ⟨fun _ => hok a b, fun z => absurd hn z⟩⟩
  unfold StepOk
  rw [hc]
  refine ⟨?_, ?_, ?_, okA⟩ <;> show _
  all_goals
    unfold stepM at a1 a2
    unfold ansF
  · by_cases h1 : numsS (m.weights.length : Int) c.told = true
    · rw [if_pos h1] at a1 ⊢
      by_cases h2 : bytesS c.n c.row = true
      · rw [if_pos h2] at a1 ⊢
        rw [if_pos hn]
        show [(tellM m c).1] = (Vbptai.step s raw).2
        rw [hs, a1]
      · rw [if_neg h2] at a1 ⊢
        show [(-1 : Int)] = (Vbptai.step s raw).2
        rw [hs, a1]
    · rw [if_neg h1] at a1 ⊢
      show [(-3 : Int)] = (Vbptai.step s raw).2
      rw [hs, a1]
  · by_cases h1 : numsS (m.weights.length : Int) c.told = true
    · rw [if_pos h1] at a1 ⊢
      by_cases h2 : bytesS c.n c.row = true
      · rw [if_pos h2] at a1 ⊢
        rw [if_pos hn]
        show (Vbptai.step s (rawOf c)).1 = (Vbptai.step s raw).1
        rw [hr]
      · rw [if_neg h2] at a1 ⊢
        show s = (Vbptai.step s raw).1
        rw [hs, keep (-1) (by decide) a1]
    · rw [if_neg h1] at a1 ⊢
      show s = (Vbptai.step s raw).1
      rw [hs, keep (-3) (by decide) a1]
  · by_cases h1 : numsS (m.weights.length : Int) c.told = true
    · rw [if_pos h1] at a2 ⊢
      by_cases h2 : bytesS c.n c.row = true
      · rw [if_pos h2] at a2 ⊢
        rw [if_pos hn]
        show Both (i + 1) ((tellM m c).2, (Vbptai.step s (rawOf c)).1)
        rw [hr]
        rw [hs] at W2
        rw [hs]
        have := B.sml
        exact ⟨a2, a3, W2, Nat.le_trans hm (Nat.succ_le_succ this)⟩
      · rw [if_neg h2]
        exact ⟨B.rel, B.well, B.wide, Nat.le_succ_of_le B.sml⟩
    · rw [if_neg h1]
      exact ⟨B.rel, B.well, B.wide, Nat.le_succ_of_le B.sml⟩
/-! what a telling call answers is no number below 0 -/
theorem add_nat {k d : Nat} {x : Vbptai.Deed} {y : Vbptai.State × Vbptai.Answer} (h : Vbptai.add s k d x = .ok y) : ∃ n : Nat, y.2 = [(n : Int)] := by
  unfold Vbptai.add at h
  obtain ⟨_, _, h⟩ := bind_ok h
  obtain ⟨_, _, h⟩ := bind_ok h
  cases h
  exact ⟨_, rfl⟩
theorem nat_schedule {d : Int} {t : List Int} (y : Vbptai.State × Vbptai.Answer) (h : Vbptai.act s (.schedule d t) = .ok y) : ∃ n : Nat, y.2 = [(n : Int)] := by
  unfold Vbptai.act at h
  obtain ⟨dd, _, h⟩ := bind_ok h
  obtain ⟨b, hb, h⟩ := bind_ok h
  cases q : Vbptai.readFees b with
  | error p =>
    rw [q] at h
    cases h
  | ok l =>
    rw [q] at h
    dsimp only at h
    obtain ⟨_, _, h⟩ := bind_ok h
    obtain ⟨_, _, h⟩ := bind_ok h
    obtain ⟨_, _, h⟩ := bind_ok h
    obtain ⟨_, _, h⟩ := bind_ok h
    cases h
    exact ⟨_, rfl⟩
theorem nat_small {o x : Int} (y : Vbptai.State × Vbptai.Answer) (h : Vbptai.act s (.small o x) = .ok y) : ∃ n : Nat, y.2 = [(n : Int)] := by
  unfold Vbptai.act at h
  obtain ⟨_, _, h⟩ := bind_ok h
  obtain ⟨_, _, h⟩ := bind_ok h
  cases h
  exact ⟨0, rfl⟩
theorem nat_lands {l : List Int} (y : Vbptai.State × Vbptai.Answer) (h : Vbptai.act s (.lands l) = .ok y) : ∃ n : Nat, y.2 = [(n : Int)] := by
  unfold Vbptai.act at h
  obtain ⟨_, _, h⟩ := bind_ok h
  cases h
  exact ⟨0, rfl⟩
theorem nat_deposit {k d a n : Int} (y : Vbptai.State × Vbptai.Answer) (h : Vbptai.act s (.deposit k d a n) = .ok y) : ∃ n : Nat, y.2 = [(n : Int)] := by
  unfold Vbptai.act at h
  obtain ⟨_, _, h⟩ := bind_ok h
  obtain ⟨_, _, h⟩ := bind_ok h
  obtain ⟨_, _, h⟩ := bind_ok h
  obtain ⟨_, _, h⟩ := bind_ok h
  exact add_nat h
theorem nat_bounce {k d q : Int} (y : Vbptai.State × Vbptai.Answer) (h : Vbptai.act s (.bounce k d q) = .ok y) : ∃ n : Nat, y.2 = [(n : Int)] := by
  unfold Vbptai.act at h
  obtain ⟨_, _, h⟩ := bind_ok h
  obtain ⟨_, _, h⟩ := bind_ok h
  obtain ⟨_, _, h⟩ := bind_ok h
  obtain ⟨_, _, h⟩ := bind_ok h
  obtain ⟨_, _, h⟩ := bind_ok h
  exact add_nat h
theorem nat_charge {k d o u : Int} {t : List Int} (y : Vbptai.State × Vbptai.Answer) (h : Vbptai.act s (.charge k d o u t) = .ok y) : ∃ n : Nat, y.2 = [(n : Int)] := by
  unfold Vbptai.act at h
  obtain ⟨_, _, h⟩ := bind_ok h
  obtain ⟨_, _, h⟩ := bind_ok h
  obtain ⟨_, _, h⟩ := bind_ok h
  obtain ⟨_, _, h⟩ := bind_ok h
  obtain ⟨_, _, h⟩ := bind_ok h
  exact add_nat h
theorem nat_pay {k d a n : Int} (y : Vbptai.State × Vbptai.Answer) (h : Vbptai.act s (.pay k d a n) = .ok y) : ∃ n : Nat, y.2 = [(n : Int)] := by
  unfold Vbptai.act at h
  obtain ⟨_, _, h⟩ := bind_ok h
  obtain ⟨_, _, h⟩ := bind_ok h
  obtain ⟨_, _, h⟩ := bind_ok h
  obtain ⟨_, _, h⟩ := bind_ok h
  exact add_nat h
theorem nat_order {k d a n : Int} (y : Vbptai.State × Vbptai.Answer) (h : Vbptai.act s (.order k d a n) = .ok y) : ∃ n : Nat, y.2 = [(n : Int)] := by
  unfold Vbptai.act at h
  obtain ⟨_, _, h⟩ := bind_ok h
  obtain ⟨_, _, h⟩ := bind_ok h
  obtain ⟨_, _, h⟩ := bind_ok h
  obtain ⟨_, _, h⟩ := bind_ok h
  exact add_nat h
theorem nat_refund {k d q : Int} (y : Vbptai.State × Vbptai.Answer) (h : Vbptai.act s (.refund k d q) = .ok y) : ∃ n : Nat, y.2 = [(n : Int)] := by
  unfold Vbptai.act at h
  obtain ⟨_, _, h⟩ := bind_ok h
  obtain ⟨_, _, h⟩ := bind_ok h
  obtain ⟨_, _, h⟩ := bind_ok h
  obtain ⟨_, _, h⟩ := bind_ok h
  exact add_nat h
theorem nat_closing {k d : Int} (y : Vbptai.State × Vbptai.Answer) (h : Vbptai.act s (.closing k d) = .ok y) : ∃ n : Nat, y.2 = [(n : Int)] := by
  unfold Vbptai.act at h
  obtain ⟨_, _, h⟩ := bind_ok h
  obtain ⟨_, _, h⟩ := bind_ok h
  exact add_nat h
theorem nat_undo {k : Int} (y : Vbptai.State × Vbptai.Answer) (h : Vbptai.act s (.undo k) = .ok y) : ∃ n : Nat, y.2 = [(n : Int)] := by
  unfold Vbptai.act at h
  obtain ⟨_, _, h⟩ := bind_ok h
  obtain ⟨_, _, h⟩ := bind_ok h
  cases h
  exact ⟨_, rfl⟩
/-! how many are told small -/
theorem putI_len (l : List (Int × Int)) (o x : Int) : (putI l o x).length ≤ l.length + 1 := by
  unfold putI
  split
  · rw [List.length_map]
    omega
  · (rw [List.length_append, List.length_singleton])
    exact Nat.le_refl _
theorem sm_event (c : CallM) : (tellEvent m c).2.smalls.length ≤ m.smalls.length + 1 := by
  unfold tellEvent
  split
  · exact Nat.le_succ _
  · split <;> exact Nat.le_succ _
theorem sm_schedule (c : CallM) : (tellSchedule m c).2.smalls.length ≤ m.smalls.length + 1 := by
  unfold tellSchedule
  split
  · exact Nat.le_succ _
  · unfold keepM
    split
    · exact Nat.le_succ _
    · split
      · exact Nat.le_succ _
      · split
        · exact Nat.le_succ _
        · split <;> exact Nat.le_succ _
theorem sm_small (c : CallM) : (tellSmall m c).2.smalls.length ≤ m.smalls.length + 1 := putI_len _ _ _
theorem sm_lands (c : CallM) : (tellLands m c).2.smalls.length ≤ m.smalls.length + 1 := by
  unfold tellLands
  split
  · exact Nat.le_succ _
  · split
    · exact Nat.le_succ _
    · split <;> exact Nat.le_succ _
theorem sm_bounce (c : CallM) : (tellBounce m c).2.smalls.length ≤ m.smalls.length + 1 := by
  unfold tellBounce
  split
  · exact Nat.le_succ _
  · split
    · exact Nat.le_succ _
    · exact sm_event c
theorem sm_charge (c : CallM) : (tellCharge m c).2.smalls.length ≤ m.smalls.length + 1 := by
  unfold tellCharge
  split
  · exact sm_event c
  · exact Nat.le_succ _
theorem sm_refund (c : CallM) : (tellRefund m c).2.smalls.length ≤ m.smalls.length + 1 := by
  unfold tellRefund
  split
  · exact Nat.le_succ _
  · exact sm_event c
theorem sm_undo (c : CallM) : (tellUndo m c).2.smalls.length ≤ m.smalls.length + 1 := by
  unfold tellUndo
  split
  · split <;> exact Nat.le_succ _
  · exact Nat.le_succ _
theorem sm_tell (c : CallM) : (tellM m c).2.smalls.length ≤ m.smalls.length + 1 := by
  unfold tellM
  split
  · exact sm_schedule c
  split
  · exact sm_small c
  split
  · exact sm_lands c
  split
  · exact sm_bounce c
  split
  · exact sm_charge c
  split
  · exact sm_refund c
  split
  · exact sm_undo c
  · exact sm_event c
end
end FB
-- Q10
set_option Elab.async false
set_option linter.all false
set_option maxRecDepth 100000
set_option maxHeartbeats 3900000
namespace FB
open PySem PySem.Spec PyProof.Rows L2 Evl
/-! ### the calls' shapes -/
inductive Shp : List (List Int) → Vbptai.Call → Prop
  | schedule (d : Int) (t : List Int) : Shp [[0, d], t] (.schedule d t)
  | small (o x : Int) : Shp [[1, o, x]] (.small o x)
  | lands (t : List Int) : Shp [[2], t] (.lands t)
  | deposit (k d a n : Int) : Shp [[3, k, d, a, n]] (.deposit k d a n)
  | bounce (k d q : Int) : Shp [[4, k, d, q]] (.bounce k d q)
  | charge (k d o u : Int) (t : List Int) : Shp [[5, k, d, o, u], t] (.charge k d o u t)
  | pay (k d o n : Int) : Shp [[6, k, d, o, n]] (.pay k d o n)
  | order (k d a o : Int) : Shp [[7, k, d, a, o]] (.order k d a o)
  | refund (k d q : Int) : Shp [[8, k, d, q]] (.refund k d q)
  | closing (k d : Int) : Shp [[9, k, d]] (.closing k d)
  | undo (k : Int) : Shp [[10, k]] (.undo k)
  | account (a d : Int) : Shp [[11, a, d]] (.account a d)
  | charged (k d : Int) : Shp [[12, k, d]] (.charged k d)
  | owner (o d : Int) : Shp [[13, o, d]] (.owner o d)
  | land (l d : Int) : Shp [[14, l, d]] (.land l d)
  | totals (d : Int) : Shp [[15, d]] (.totals d)
  | price (d u x : Int) (t : List Int) : Shp [[16, d, u, x], t] (.price d u x t)
  | text (d : Int) : Shp [[17, d]] (.text d)
  | events : Shp [[18]] .events
  | owed (a d : Int) : Shp [[19, a, d]] (.owed a d)
  | opened (o d : Int) : Shp [[20, o, d]] (.opened o d)
theorem shp_decode {c : List (List Int)} {x : Vbptai.Call} (h : Shp c x) : Vbptai.decode c = some x := by
  cases h <;> rfl
theorem shp_whole {c : List (List Int)} {x : Vbptai.Call} (h : Shp c x) : PyVbptai.whole c = c := by
  cases h <;> rfl
theorem shp_of {p : Int} {n k : Nat} {xs : List Int} {rs : List (List Int)} (h : PyVbptai.shape p = some (n, k)) (hx : xs.length = n) (hr : rs.length = k) : ∃ x, Shp ((p :: xs) :: rs) x := by
  by_cases h0 : p = 0
  · subst h0
    obtain ⟨rfl, rfl⟩ : 1 = n ∧ 1 = k := Prod.mk.inj (Option.some.inj ((show PyVbptai.shape 0 = some (1, 1) from rfl).symm.trans h))
    match xs, rs, hx, hr with
    | [d], [t], _, _ => exact ⟨_, .schedule d t⟩
  by_cases h1 : p = 1
  · subst h1
    obtain ⟨rfl, rfl⟩ : 2 = n ∧ 0 = k := Prod.mk.inj (Option.some.inj ((show PyVbptai.shape 1 = some (2, 0) from rfl).symm.trans h))
    match xs, rs, hx, hr with
    | [o, x], [], _, _ => exact ⟨_, .small o x⟩
  by_cases h2 : p = 2
  · subst h2
    obtain ⟨rfl, rfl⟩ : 0 = n ∧ 1 = k := Prod.mk.inj (Option.some.inj ((show PyVbptai.shape 2 = some (0, 1) from rfl).symm.trans h))
    match xs, rs, hx, hr with
    | [], [t], _, _ => exact ⟨_, .lands t⟩
  by_cases h3 : p = 3
  · subst h3
    obtain ⟨rfl, rfl⟩ : 4 = n ∧ 0 = k := Prod.mk.inj (Option.some.inj ((show PyVbptai.shape 3 = some (4, 0) from rfl).symm.trans h))
    match xs, rs, hx, hr with
    | [k, d, a, n], [], _, _ => exact ⟨_, .deposit k d a n⟩
  by_cases h4 : p = 4
  · subst h4
    obtain ⟨rfl, rfl⟩ : 3 = n ∧ 0 = k := Prod.mk.inj (Option.some.inj ((show PyVbptai.shape 4 = some (3, 0) from rfl).symm.trans h))
    match xs, rs, hx, hr with
    | [k, d, q], [], _, _ => exact ⟨_, .bounce k d q⟩
  by_cases h5 : p = 5
  · subst h5
    obtain ⟨rfl, rfl⟩ : 4 = n ∧ 1 = k := Prod.mk.inj (Option.some.inj ((show PyVbptai.shape 5 = some (4, 1) from rfl).symm.trans h))
    match xs, rs, hx, hr with
    | [k, d, o, u], [t], _, _ => exact ⟨_, .charge k d o u t⟩
  by_cases h6 : p = 6
  · subst h6
    obtain ⟨rfl, rfl⟩ : 4 = n ∧ 0 = k := Prod.mk.inj (Option.some.inj ((show PyVbptai.shape 6 = some (4, 0) from rfl).symm.trans h))
    match xs, rs, hx, hr with
    | [k, d, o, n], [], _, _ => exact ⟨_, .pay k d o n⟩
  by_cases h7 : p = 7
  · subst h7
    obtain ⟨rfl, rfl⟩ : 4 = n ∧ 0 = k := Prod.mk.inj (Option.some.inj ((show PyVbptai.shape 7 = some (4, 0) from rfl).symm.trans h))
    match xs, rs, hx, hr with
    | [k, d, a, o], [], _, _ => exact ⟨_, .order k d a o⟩
  by_cases h8 : p = 8
  · subst h8
    obtain ⟨rfl, rfl⟩ : 3 = n ∧ 0 = k := Prod.mk.inj (Option.some.inj ((show PyVbptai.shape 8 = some (3, 0) from rfl).symm.trans h))
    match xs, rs, hx, hr with
    | [k, d, q], [], _, _ => exact ⟨_, .refund k d q⟩
  by_cases h9 : p = 9
  · subst h9
    obtain ⟨rfl, rfl⟩ : 2 = n ∧ 0 = k := Prod.mk.inj (Option.some.inj ((show PyVbptai.shape 9 = some (2, 0) from rfl).symm.trans h))
    match xs, rs, hx, hr with
    | [k, d], [], _, _ => exact ⟨_, .closing k d⟩
  by_cases h10 : p = 10
  · subst h10
    obtain ⟨rfl, rfl⟩ : 1 = n ∧ 0 = k := Prod.mk.inj (Option.some.inj ((show PyVbptai.shape 10 = some (1, 0) from rfl).symm.trans h))
    match xs, rs, hx, hr with
    | [k], [], _, _ => exact ⟨_, .undo k⟩
  by_cases h11 : p = 11
  · subst h11
    obtain ⟨rfl, rfl⟩ : 2 = n ∧ 0 = k := Prod.mk.inj (Option.some.inj ((show PyVbptai.shape 11 = some (2, 0) from rfl).symm.trans h))
    match xs, rs, hx, hr with
    | [a, d], [], _, _ => exact ⟨_, .account a d⟩
  by_cases h12 : p = 12
  · subst h12
    obtain ⟨rfl, rfl⟩ : 2 = n ∧ 0 = k := Prod.mk.inj (Option.some.inj ((show PyVbptai.shape 12 = some (2, 0) from rfl).symm.trans h))
    match xs, rs, hx, hr with
    | [k, d], [], _, _ => exact ⟨_, .charged k d⟩
  by_cases h13 : p = 13
  · subst h13
    obtain ⟨rfl, rfl⟩ : 2 = n ∧ 0 = k := Prod.mk.inj (Option.some.inj ((show PyVbptai.shape 13 = some (2, 0) from rfl).symm.trans h))
    match xs, rs, hx, hr with
    | [o, d], [], _, _ => exact ⟨_, .owner o d⟩
  by_cases h14 : p = 14
  · subst h14
    obtain ⟨rfl, rfl⟩ : 2 = n ∧ 0 = k := Prod.mk.inj (Option.some.inj ((show PyVbptai.shape 14 = some (2, 0) from rfl).symm.trans h))
    match xs, rs, hx, hr with
    | [l, d], [], _, _ => exact ⟨_, .land l d⟩
  by_cases h15 : p = 15
  · subst h15
    obtain ⟨rfl, rfl⟩ : 1 = n ∧ 0 = k := Prod.mk.inj (Option.some.inj ((show PyVbptai.shape 15 = some (1, 0) from rfl).symm.trans h))
    match xs, rs, hx, hr with
    | [d], [], _, _ => exact ⟨_, .totals d⟩
  by_cases h16 : p = 16
  · subst h16
    obtain ⟨rfl, rfl⟩ : 3 = n ∧ 1 = k := Prod.mk.inj (Option.some.inj ((show PyVbptai.shape 16 = some (3, 1) from rfl).symm.trans h))
    match xs, rs, hx, hr with
    | [d, u, x], [t], _, _ => exact ⟨_, .price d u x t⟩
  by_cases h17 : p = 17
  · subst h17
    obtain ⟨rfl, rfl⟩ : 1 = n ∧ 0 = k := Prod.mk.inj (Option.some.inj ((show PyVbptai.shape 17 = some (1, 0) from rfl).symm.trans h))
    match xs, rs, hx, hr with
    | [d], [], _, _ => exact ⟨_, .text d⟩
  by_cases h18 : p = 18
  · subst h18
    obtain ⟨rfl, rfl⟩ : 0 = n ∧ 0 = k := Prod.mk.inj (Option.some.inj ((show PyVbptai.shape 18 = some (0, 0) from rfl).symm.trans h))
    match xs, rs, hx, hr with
    | [], [], _, _ => exact ⟨_, .events⟩
  by_cases h19 : p = 19
  · subst h19
    obtain ⟨rfl, rfl⟩ : 2 = n ∧ 0 = k := Prod.mk.inj (Option.some.inj ((show PyVbptai.shape 19 = some (2, 0) from rfl).symm.trans h))
    match xs, rs, hx, hr with
    | [a, d], [], _, _ => exact ⟨_, .owed a d⟩
  by_cases h20 : p = 20
  · subst h20
    obtain ⟨rfl, rfl⟩ : 2 = n ∧ 0 = k := Prod.mk.inj (Option.some.inj ((show PyVbptai.shape 20 = some (2, 0) from rfl).symm.trans h))
    match xs, rs, hx, hr with
    | [o, d], [], _, _ => exact ⟨_, .opened o d⟩
  unfold PyVbptai.shape at h
  rw [if_neg h0, if_neg h1, if_neg h2, if_neg h3, if_neg h4, if_neg h5, if_neg h6, if_neg h7, if_neg h8, if_neg h9, if_neg h10, if_neg h11, if_neg h12, if_neg h13, if_neg h14, if_neg h15, if_neg h16, if_neg h17, if_neg h18, if_neg h19, if_neg h20] at h
  cases h
theorem shape_eq : shapeW = PyVbptai.shape := funext fun p => by
  by_cases h0 : p = 0
  · subst h0
    rfl
  by_cases h1 : p = 1
  · subst h1
    rfl
  by_cases h2 : p = 2
  · subst h2
    rfl
  by_cases h3 : p = 3
  · subst h3
    rfl
  by_cases h4 : p = 4
  · subst h4
    rfl
  by_cases h5 : p = 5
  · subst h5
    rfl
  by_cases h6 : p = 6
  · subst h6
    rfl
  by_cases h7 : p = 7
  · subst h7
    rfl
  by_cases h8 : p = 8
  · subst h8
    rfl
  by_cases h9 : p = 9
  · subst h9
    rfl
  by_cases h10 : p = 10
  · subst h10
    rfl
  by_cases h11 : p = 11
  · subst h11
    rfl
  by_cases h12 : p = 12
  · subst h12
    rfl
  by_cases h13 : p = 13
  · subst h13
    rfl
  by_cases h14 : p = 14
  · subst h14
    rfl
  by_cases h15 : p = 15
  · subst h15
    rfl
  by_cases h16 : p = 16
  · subst h16
    rfl
  by_cases h17 : p = 17
  · subst h17
    rfl
  by_cases h18 : p = 18
  · subst h18
    rfl
  by_cases h19 : p = 19
  · subst h19
    rfl
  by_cases h20 : p = 20
  · subst h20
    rfl
  unfold PyVbptai.shape shapeW
  rw [if_neg h0, if_neg h1, if_neg h2, if_neg h3, if_neg h4, if_neg h5, if_neg h6, if_neg h7, if_neg h8, if_neg h9, if_neg h10, if_neg h11, if_neg h12, if_neg h13, if_neg h14, if_neg h15, if_neg h16, if_neg h17, if_neg h18, if_neg h19, if_neg h20]
  have e : namesT p = none := by
    unfold namesT
    rw [List.find?_eq_none.mpr]
    · rfl
    intro q hq z
    have z := of_decide_eq_true z
    subst z
    simp only [wnT, List.mem_cons, List.not_mem_nil, or_false] at hq
    rcases hq with e | e | e | e | e | e | e | e | e | e | e | e | e | e | e | e | e | e | e | e | e <;> have e1 := congrArg Prod.fst e <;> dsimp only at e1 <;> omega
  rw [e]
  rfl
theorem rows_num : ∀ {k : Nat} {r t : List Int} {xs : List (List Int)}, PyFlat.rows k r = some (xs, t) → xs.length = k
  | 0, r, t, xs, h => by
    unfold PyFlat.rows at h
    cases h
    rfl
  | k + 1, r, t, xs, h => by
    unfold PyFlat.rows at h
    cases q : PyFlat.row r with
    | none =>
      rw [q] at h
      cases h
    | some y =>
      rw [q] at h
      dsimp only at h
      cases q2 : PyFlat.rows k y.2 with
      | none =>
        rw [q2] at h
        cases h
      | some z =>
        rw [q2] at h
        cases h
        rw [List.length_cons, rows_num q2]
theorem call_shp {l t : List Int} {c : List (List Int)} (h : PyFlat.call PyVbptai.shape l = some (c, t)) : ∃ x, Shp c x := by
  cases l with
  | nil => cases h
  | cons p r =>
    unfold PyFlat.call at h
    dsimp only at h
    cases q : PyVbptai.shape p with
    | none =>
      rw [q] at h
      cases h
    | some nk =>
      obtain ⟨n, k⟩ := nk
      rw [q] at h
      dsimp only at h
      by_cases hl : r.length < n
      · rw [if_pos hl] at h
        cases h
      · rw [if_neg hl] at h
        cases q2 : PyFlat.rows k (r.drop n) with
        | none =>
          rw [q2] at h
          cases h
        | some z =>
          rw [q2] at h
          cases h
          exact shp_of q (by rw [List.length_take]; omega) (rows_num q2)
theorem calls_shp : ∀ {f : Nat} {l : List Int} {raw : List (List (List Int))}, PyFlat.calls PyVbptai.shape f l = some raw → ∀ c ∈ raw, ∃ x, Shp c x
  | _, [], raw, h => by
    unfold PyFlat.calls at h
    cases h
    exact fun c hc => nomatch hc
  | 0, p :: r, raw, h => by
    unfold PyFlat.calls at h
    cases h
  | f + 1, p :: r, raw, h => by
    unfold PyFlat.calls at h
    cases q : PyFlat.call PyVbptai.shape (p :: r) with
    | none =>
      rw [q] at h
      cases h
    | some ct =>
      rw [q] at h
      dsimp only at h
      cases q2 : PyFlat.calls PyVbptai.shape f ct.2 with
      | none =>
        rw [q2] at h
        cases h
      | some cs =>
        rw [q2] at h
        cases h
        intro c hc
        obtain rfl | hc := List.mem_cons.mp hc
        · exact call_shp q
        · exact calls_shp q2 c hc
end FB
-- Q11
set_option Elab.async false
set_option linter.all false
set_option maxRecDepth 100000
set_option maxHeartbeats 3900000
namespace FB
open PySem PySem.Spec PyProof.Rows L2 Evl
section
variable {m : RecM} {s : Vbptai.State} {i : Nat}
theorem stepM_congr {c : CallM} {tell : RecM → CallM → Int × RecM} (e : tellM m c = tell m c) : stepM tellM m c = stepM tell m c := by
  unfold stepM
  rw [e]
theorem tell_by {raw : List (List Int)} {call : Vbptai.Call} {c : CallM} {tell : RecM → CallM → Int × RecM} (B : Both i (m, s)) (h : Shp raw call) (hc : callM raw = c) (hr : rawOf c = raw) (hn : c.n < 11) (hT : ∀ y, Vbptai.act s call = .ok y → ∃ n : Nat, y.2 = [(n : Int)]) (e : tellM m c = tell m c) (hS : Same m s (stepM tell m c) (outOf s (Vbptai.act s call))) (l1 : c.told.length ≤ 40000) (l2 : c.row.length ≤ 40000) (hok : bytesS c.n c.row = true → okTell m c) : StepOk i (m, s) raw :=
  tell_step B hc (shp_decode h) hr hn hT (by rw [stepM_congr e]; exact hS) (sm_tell c) l1 l2 fun _ => hok
theorem row_len {t : List Int} (h : VbptaiNeutral.row t = true) : t.length ≤ 2000 := by
  unfold VbptaiNeutral.row at h
  rw [Bool.and_eq_true] at h
  exact of_decide_eq_true h.1
theorem and_last {a b : Bool} (h : (a && b) = true) : b = true := by
  rw [Bool.and_eq_true] at h
  exact h.2
theorem step_ok (hi : i ≤ 1000) (B : Both i (m, s)) {raw : List (List Int)} {call : Vbptai.Call} (h : Shp raw call) (ha : VbptaiNeutral.asked1 raw = true) : StepOk i (m, s) raw := by
  have hev : m.events.length ≤ 1000 := by
    have h1 := B.rel.len
    have h2 := B.well.few
    have h3 : m.events.length = s.events.length := h1
    have h4 : s.events.length ≤ 60 := h2
    omega
  have hsc : m.schedules.length ≤ 1000 := by
    have h1 : m.schedules.length = s.schedules.length := by rw [B.rel.sch.length_eq, List.length_map]
    have h2 : s.schedules.length ≤ 8 := B.well.sfew
    omega
  have hsm : m.smalls.length < 100000 := by
    have : m.smalls.length ≤ i := B.sml
    omega
  have R : Rel m s := B.rel
  have W : Well s := B.well
  have lz : ∀ {t : List Int}, t.length ≤ 2000 → t.length ≤ 40000 := fun h => Nat.le_trans h (by decide)
  cases h with
  | schedule d t =>
    have ht := row_len (and_last (show (VbptaiNeutral.whole d && VbptaiNeutral.row t) = true from ha))
    exact tell_by (c := c0 d t) (tell := tellSchedule) B (.schedule d t) rfl rfl (show (0 : Int) < 11 by decide) nat_schedule rfl (schedule_eq R W d t) (show 1 ≤ 40000 by decide) (lz ht) fun hb => .inl ⟨rfl, by rw [c0_day]; rfl, ht, (bytesS_nonneg (.inl rfl) hb).1, hsc⟩
  | small o x => exact tell_by (c := c1 o x) (tell := tellSmall) B (.small o x) rfl rfl (show (1 : Int) < 11 by decide) nat_small rfl (small_eq R W o x) (show 2 ≤ 40000 by decide) (Nat.zero_le _) fun _ => .inr (.inl ⟨rfl, by rw [c1_owner]; rfl, by rw [c1_yes]; rfl, hsm⟩)
  | lands t =>
    have ht := row_len (show VbptaiNeutral.row t = true from ha)
    exact tell_by (c := c2 t) (tell := tellLands) B (.lands t) rfl rfl (show (2 : Int) < 11 by decide) nat_lands rfl (lands_eq R W t) (Nat.zero_le _) (lz ht) fun _ => .inr (.inr (.inl ⟨rfl, lz ht⟩))
  | deposit k d a n => exact tell_by (tell := tellEvent) B (.deposit k d a n) rfl rfl (show (3 : Int) < 11 by decide) nat_deposit rfl (deposit_eq R W k d a n) (show 4 ≤ 40000 by decide) (Nat.zero_le _) fun _ => .inr (.inr (.inr (.inl ⟨rfl, by kernel_rfl, by kernel_rfl, hev⟩)))
  | bounce k d q => exact tell_by (tell := tellBounce) B (.bounce k d q) rfl rfl (show (4 : Int) < 11 by decide) nat_bounce rfl (bounce_eq R W k d q) (show 3 ≤ 40000 by decide) (Nat.zero_le _) fun _ => .inr (.inr (.inr (.inr (.inl ⟨rfl, ⟨by kernel_rfl, by kernel_rfl, hev⟩, by kernel_rfl⟩))))
  | charge k d o u t =>
    have ht := row_len (and_last (show (VbptaiNeutral.whole k && VbptaiNeutral.whole d && VbptaiNeutral.whole o && VbptaiNeutral.whole u && VbptaiNeutral.row t) = true from ha))
    exact tell_by (tell := tellCharge) B (.charge k d o u t) rfl rfl (show (5 : Int) < 11 by decide) nat_charge rfl (charge_eq R W k d o u t) (show 4 ≤ 40000 by decide) (lz ht) fun _ => .inr (.inr (.inr (.inr (.inr (.inl ⟨rfl, ⟨by kernel_rfl, by kernel_rfl, hev⟩, lz ht⟩)))))
  | pay k d o n => exact tell_by (tell := tellEvent) B (.pay k d o n) rfl rfl (show (6 : Int) < 11 by decide) nat_pay rfl (pay_eq R W k d o n) (show 4 ≤ 40000 by decide) (Nat.zero_le _) fun _ => .inr (.inr (.inr (.inr (.inr (.inr (.inl ⟨rfl, by kernel_rfl, by kernel_rfl, hev⟩))))))
  | order k d a o => exact tell_by (tell := tellEvent) B (.order k d a o) rfl rfl (show (7 : Int) < 11 by decide) nat_order rfl (order_eq R W k d a o) (show 4 ≤ 40000 by decide) (Nat.zero_le _) fun _ => .inr (.inr (.inr (.inr (.inr (.inr (.inr (.inl ⟨rfl, by kernel_rfl, by kernel_rfl, hev⟩)))))))
  | refund k d q => exact tell_by (tell := tellRefund) B (.refund k d q) rfl rfl (show (8 : Int) < 11 by decide) nat_refund rfl (refund_eq R W k d q) (show 3 ≤ 40000 by decide) (Nat.zero_le _) fun _ => .inr (.inr (.inr (.inr (.inr (.inr (.inr (.inr (.inl ⟨rfl, ⟨by kernel_rfl, by kernel_rfl, hev⟩, by kernel_rfl⟩))))))))
  | closing k d => exact tell_by (tell := tellEvent) B (.closing k d) rfl rfl (show (9 : Int) < 11 by decide) nat_closing rfl (closing_eq R W k d) (show 2 ≤ 40000 by decide) (Nat.zero_le _) fun _ => .inr (.inr (.inr (.inr (.inr (.inr (.inr (.inr (.inr (.inl ⟨rfl, by kernel_rfl, by kernel_rfl, hev⟩)))))))))
  | undo k => exact tell_by (c := c10 k) (tell := tellUndo) B (.undo k) rfl rfl (show (10 : Int) < 11 by decide) nat_undo rfl (undo_eq R W k) (show 1 ≤ 40000 by decide) (Nat.zero_le _) fun _ => .inr (.inr (.inr (.inr (.inr (.inr (.inr (.inr (.inr (.inr ⟨rfl, by rw [c10_undone]; rfl, hev⟩)))))))))
  | account a d => exact ask_step B rfl rfl (show ¬ (11 : Int) < 11 by decide) (show 2 ≤ 40000 by decide) (Nat.zero_le _) (account_ask a d)
  | charged k d => exact ask_step B rfl rfl (show ¬ (12 : Int) < 11 by decide) (show 2 ≤ 40000 by decide) (Nat.zero_le _) (charged_ask B.wide B.well k d)
  | owner o d => exact ask_step B rfl rfl (show ¬ (13 : Int) < 11 by decide) (show 2 ≤ 40000 by decide) (Nat.zero_le _) (owner_ask o d)
  | land l d => exact ask_step B rfl rfl (show ¬ (14 : Int) < 11 by decide) (show 2 ≤ 40000 by decide) (Nat.zero_le _) (land_ask R l d)
  | totals d => exact ask_step B rfl rfl (show ¬ (15 : Int) < 11 by decide) (show 1 ≤ 40000 by decide) (Nat.zero_le _) (totals_ask d)
  | price d u x t =>
    have ht := row_len (and_last (show (VbptaiNeutral.whole d && VbptaiNeutral.whole u && VbptaiNeutral.whole x && VbptaiNeutral.row t) = true from ha))
    exact ask_step B rfl rfl (show ¬ (16 : Int) < 11 by decide) (show 3 ≤ 40000 by decide) (lz ht) (price_ask d u x t)
  | text d => exact ask_step B rfl rfl (show ¬ (17 : Int) < 11 by decide) (show 1 ≤ 40000 by decide) (Nat.zero_le _) (text_ask d)
  | events => exact ask_step B rfl rfl (show ¬ (18 : Int) < 11 by decide) (Nat.zero_le _) (Nat.zero_le _) events_ask
  | owed a d => exact ask_step B rfl rfl (show ¬ (19 : Int) < 11 by decide) (show 2 ≤ 40000 by decide) (Nat.zero_le _) (owed_ask a d)
  | opened o d => exact ask_step B rfl rfl (show ¬ (20 : Int) < 11 by decide) (show 2 ≤ 40000 by decide) (Nat.zero_le _) (opened_ask o d)
/-! the whole line -/
theorem play_eq : ∀ (raw : List (List (List Int))) (i : Nat) (x : Mo), Both i x → i + raw.length ≤ 1000 → (∀ c ∈ raw, ∃ y, Shp c y) → (∀ c ∈ raw, VbptaiNeutral.asked1 c = true) → ansX (ansF nxS) x (raw.map callM) = PyFlat.told (PyFlat.played VbptaiNeutral.step x.2 raw) ∧ ∀ j c, (raw.map callM)[j]? = some c → okAns (stX (ansF nxS) x ((raw.map callM).take j)) c
  | [], _, _, _, _, _, _ => ⟨rfl, fun j c h => by simp at h⟩
  | c :: r, i, x, B, hl, hS, hA => by
    obtain ⟨y, hy⟩ := hS c (List.mem_cons_self ..)
    rw [List.length_cons] at hl
    obtain ⟨h1, h2, h3, h4⟩ := step_ok (m := x.1) (s := x.2) (by omega) B hy (hA c (List.mem_cons_self ..))
    have e1 : (ansF nxS x (callM c)).1 = (Vbptai.step x.2 c).2 := h1
    have e2 : (ansF nxS x (callM c)).2.2 = (Vbptai.step x.2 c).1 := h2
    have e3 : Both (i + 1) (ansF nxS x (callM c)).2 := h3
    obtain ⟨g1, g2⟩ := play_eq r (i + 1) (ansF nxS x (callM c)).2 e3 (by omega) (fun z hz => hS z (List.mem_cons_of_mem _ hz)) (fun z hz => hA z (List.mem_cons_of_mem _ hz))
    rw [List.map_cons]
    refine ⟨?_, fun j z hj => ?_⟩
    · show (((ansF nxS x (callM c)).1.length : Nat) : Int) :: ((ansF nxS x (callM c)).1 ++ ansX (ansF nxS) (ansF nxS x (callM c)).2 (r.map callM)) = PyFlat.told ((Vbptai.step x.2 c).2 :: PyFlat.played VbptaiNeutral.step (Vbptai.step x.2 c).1 r)
      rw [g1, e1, e2]
      unfold PyFlat.told
      rw [List.flatMap_cons]
      rfl
    · cases j with
      | zero =>
        rw [List.getElem?_cons_zero] at hj
        rw [← Option.some.inj hj]
        exact h4
      | succ j =>
        rw [List.getElem?_cons_succ] at hj
        exact g2 j z hj
theorem both0 : Both 0 x0 := by
  refine ⟨⟨.refl _, fun o => ?_, rfl, .refl _⟩, ⟨.nil, Nat.zero_le _, .nil, Nat.zero_le _, fun _ h => nomatch h⟩, Wide.start, Nat.le_refl _⟩
  exact ⟨fun h => (nomatch h), fun h => (nomatch h)⟩
theorem answers_eq {l : List Int} (h : PyVbptai.answers_asked l = true) : ∃ raw, PyFlat.calls shapeW l.length l = some raw ∧ (∀ i c, (raw.map callM)[i]? = some c → okAns (stX (ansF nxS) x0 ((raw.map callM).take i)) c) ∧ ansX (ansF nxS) x0 (raw.map callM) = PyVbptai.answers l ∧ (PyVbptai.answers l).length ≤ 10000000 := by
  unfold PyVbptai.answers_asked at h
  cases q : PyFlat.calls PyVbptai.shape l.length l with
  | none =>
    rw [q] at h
    cases h
  | some raw =>
    rw [q] at h
    dsimp only at h
    (simp only [Bool.and_eq_true] at h)
    obtain ⟨⟨⟨⟨h1, h2⟩, h3⟩, h4⟩, h5⟩ := h
    have hS := calls_shp q
    have hw : raw.map PyVbptai.whole = raw := by
      have : raw.map PyVbptai.whole = raw.map id := List.map_congr_left fun c hc => by
        obtain ⟨y, hy⟩ := hS c hc
        exact shp_whole hy
      rw [this, List.map_id]
    rw [hw] at h4
    unfold VbptaiNeutral.asked at h4
    simp only [Bool.and_eq_true, decide_eq_true_eq, List.all_eq_true] at h4
    obtain ⟨_, h6, h7⟩ := h4
    obtain ⟨g1, g2⟩ := play_eq raw 0 x0 both0 (by omega) hS h7
    refine ⟨raw, by rw [shape_eq]; exact q, g2, ?_, of_decide_eq_true h5⟩
    rw [g1]
    unfold PyVbptai.answers PyVbptai.calls
    rw [q]
    dsimp only
    rw [hw]
    rfl
end
end FB
-- EZ
set_option Elab.async false
set_option linter.all false
set_option maxRecDepth 100000
set_option maxHeartbeats 0
namespace FB
open PySem PySem.Spec PySem.W PySem.Calls PyProof.Rows L2 Evl
theorem ints_enc (l : List Int) (lo hi : Int) (n m : Nat) : (Codec.list n m (.int lo hi)).enc l = .list (l.map WData.int) := rfl
theorem one_list {K : Frag} {G : Hp} {xs : List V} {l : List Int} (h : DwAll K G xs [.list (l.map WData.int)]) : ∃ a, xs = [.ref a] ∧ SqL K G a (l.map V.int) := by
  cases h with
  | cons h1 h2 =>
    cases h2
    cases h1 with
    | lst hs ha =>
      have e := ints_dw _ _ ha
      subst e
      exact ⟨_, rfl, hs⟩
theorem shares_in : (("shares_of", none) : He.Defn) ∈ tfL := by decide
theorem call : WalkOS vq namesL (XL vq []) hk.says R dAns [] fun f vs => PySem.call f vs := by
  refine walk_tab (k := 21) (ps := ["calls"]) (sp := fun K => sp_answers K okAns (ansF nxS)) (cdO := tabC) (tbO := tabP) h6 rfl ⟨rfl, by decide, by decide⟩ (fun w mg fa h Y N hmg => ?_) (fun K G H xs a e t hwi hask hS => ?_) (fun H s e s' z => z.elim)
  · obtain ⟨K, KX, c⟩ := Y
    have T : Tx K mg := tx_of c KX N
    have Tw' : Tw R.prog w K := tw_of c
    refine ⟨K, KX, c.empty _ shares_in, c.out _ shares_in, codeHd_of_K KX (c.hd _ shares_in), fun base kb nb tz => ?_⟩
    have O := ok_answers' (base := base) (ok := okAns) (f := ansF nxS) T Tw' tz fun T Y Z => ok_answer_to nxS T Y Z
    obtain ⟨ex, gm, _⟩ := O
    have e1 : fa = He.ga K "answers" := by
      have e2 := hmg.symm.trans gm
      injection e2 with e2
      injection e2
    rw [e1]
    exact ex
  · obtain ⟨l, u⟩ := a
    obtain ⟨p, rfl, hs⟩ := one_list (l := l) hS
    have hl : l.length ≤ 16000 := by
      have h0 := (He.ba (show (Codec.inLen 0 16000 l && l.all (Codec.inInt (Int.negSucc 9223372036854775807) (Int.ofNat 9223372036854775807))) = true from (He.ba hwi).1)).1
      unfold Codec.inLen Codec.inNat at h0
      exact of_decide_eq_true (He.ba h0).2
    obtain ⟨raw, r1, r2, r3, r4⟩ := answers_eq (l := l) hask
    refine ⟨p, l, l.length, raw, rfl, LamX.TabS.nil t, ?_, Nat.le_trans hl (by decide), r1, r2, by rw [r3]; exact r4, fun p2 H2 _ _ hp => ?_⟩
    · exact ex_l e hs
    · rw [r3] at hp
      exact .lst (sq_of hp) (dw_ints _)
theorem whole : R.Holds := fin call
end FB
theorem PySem.Challenge.cw_feebooks_s01_answers_holds : PySem.Challenge.rw_feebooks_s01_answers.Holds :=
  FB.whole
#print axioms PySem.Challenge.cw_feebooks_s01_answers_holds
