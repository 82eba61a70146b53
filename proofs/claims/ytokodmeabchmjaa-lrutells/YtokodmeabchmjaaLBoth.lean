/-
  All that LruTells wants. A lemma file: no statement of the seat is proved here.
-/
import Derived.Test.YtokodmeabchmjaaLRef9
import Derived.Test.YtokodmeabchmjaaLShown
import Derived.Test.YtokodmeabchmjaaLSort49
import Derived.Deep.QuietTactic
