/-
  All of layer 4's contracts.
-/
import Derived.Test.YthpemcnjdgjlaaaRbytes
import Derived.Test.YthpemcnjdgjlaaaRsame
import Derived.Test.YthpemcnjdgjlaaaRread
import Derived.Test.YthpemcnjdgjlaaaBytes
import Derived.Test.YthpemcnjdgjlaaaRead
import Derived.Test.YthpemcnjdgjlaaaSame
