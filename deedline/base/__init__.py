"""What all of Deedline stands on: texts, numbers, replies, patterns and hashes."""
