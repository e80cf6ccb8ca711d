/- The small words, and those for rows of slices. -/
import Derived.Test.YtndamiocmdnenaaLib1
import Derived.Test.YtndamiocmdnenaaFrs
